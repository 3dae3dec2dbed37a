package calm

import (
	"slices"
	"testing"

	"davit/api"
	"davit/mach"
	"davit/made"
	"davit/runs"
)

// seen is how many steps machines took, how often one took a step more in the module calmed, and how often it landed.
type seen struct{ steps, more, landed int }

// follow the machine, and the same one in the module calmed: behind each step they are alike, the other one at times by two.
func (c *seen) follow(t *testing.T, m, calmed api.Module, s api.Mach) {
	t.Helper()
	other := s
	for step := 0; step < runs.Most && s.Done == api.Runs; step++ {
		next := stepOf(t, m, s)
		other = stepOf(t, calmed, other)
		if !runs.Alike(other, next) {
			other = stepOf(t, calmed, other)
			c.more++
		}
		if !runs.Alike(other, next) {
			t.Fatalf("%+v: %+v goes on to %+v; calmed to %+v", m, s, next, other)
		}
		c.steps++
		if runs.Landed(m, next) {
			c.landed++
		}
		s = next
	}
}

func stepOf(t *testing.T, m api.Module, s api.Mach) api.Mach {
	t.Helper()
	next, err := mach.Step(m, s)
	if err != api.OK {
		t.Fatalf("%+v: %+v may not be: %v", m, s, err)
	}
	return next
}

// Machines from their beginning on, which are told more or less, and end in each way.
func TestMachinesFromTheirBeginning(t *testing.T) {
	var c seen
	var ends [api.NoInput + 1]int
	for seed := range uint64(10000) {
		m, told := made.Mixed(seed), runs.Inputs()[:seed%10]
		calmed, _ := Module(m)
		s, _ := mach.New(m, told)
		c.follow(t, m, calmed, s)
		end, _ := mach.Run(calmed, told, 2*runs.Most)
		ends[end.Done]++
	}
	if min(c.more, c.landed, slices.Min(ends[:])) < 20 {
		t.Errorf("%+v; ends %v", c, ends)
	}
}

// Machines whose top frame stands at any block, to which nobody comes, too, and the frames below it at any Call or Invoke of the one above.
func TestTowers(t *testing.T) {
	var c seen
	for seed := range 500 {
		m := made.Mixed(uint64(seed))
		calmed, _ := Module(m)
		for n, f := range m.Funcs {
			for block := range f.Blocks {
				stack := made.Tower(m, made.Frame(m, n, block, 0), 1+seed%5, seed/5+block)
				c.follow(t, m, calmed, runs.From(stack))
			}
		}
	}
	if min(c.more, c.landed) < 1000 {
		t.Errorf("%+v", c)
	}
}

// What a module tells in so many steps, it tells calmed in at most twice as many, and no sooner; and it ends alike.
func TestRuns(t *testing.T) {
	ended, on, told := 0, 0, 0
	for seed := range 3000 {
		m := made.Stuffed(made.Mixed(uint64(seed)), seed)
		calmed, _ := Module(m)
		for _, steps := range []int{0, 1, 10, 100, 1000} {
			s, _ := mach.Run(m, runs.Inputs(), steps)
			sooner, _ := mach.Run(calmed, runs.Inputs(), steps)
			later, _ := mach.Run(calmed, runs.Inputs(), 2*steps)
			if !runs.Begins(s.Events, sooner.Events) || !runs.Begins(later.Events, s.Events) || s.Done != api.Runs && !runs.Alike(later, s) {
				t.Fatalf("%+v, %d steps: %+v; calmed %+v, in twice as many %+v", m, steps, s, sooner, later)
			}
			told += len(s.Events)
			if s.Done == api.Runs {
				on++
			} else {
				ended++
			}
		}
	}
	if min(ended, on, told) < 1000 {
		t.Errorf("%d ended, %d run on; %d events", ended, on, told)
	}
}
