package pads

import (
	"slices"
	"strconv"
	"testing"

	"davit/api"
	"davit/mach"
	"davit/made"
	"davit/runs"
	"davit/samples"
)

// seen is how many steps machines took, how often one took a step more in the module trimmed, how many it took less, and how often it landed.
type seen struct{ steps, more, less, landed int }

// follow the machine, and the same one in the module trimmed: the other one takes a step for each, at times two, and none for what lands where nothing is done, and resumes.
func (c *seen) follow(t *testing.T, m, trimmed api.Module, s api.Mach) {
	t.Helper()
	other := s
	for step := 0; step < runs.Most && s.Done == api.Runs; step++ {
		next, on := stepOf(t, m, s), stepOf(t, trimmed, other)
		for !runs.Alike(on, next) && idle(m, next) {
			next = stepOf(t, m, next)
			c.less++
		}
		if !runs.Alike(on, next) {
			on = stepOf(t, trimmed, on)
			c.more++
		}
		if !runs.Alike(on, next) {
			t.Fatalf("%+v: %+v goes on to %+v; trimmed %+v to %+v", m, s, next, other, on)
		}
		c.steps++
		if runs.Landed(m, next) {
			c.landed++
		}
		s, other = next, on
	}
}

// idle: did the machine land in a block that does nothing?
func idle(m api.Module, s api.Mach) bool {
	if !runs.Landed(m, s) {
		return false
	}
	top := s.Stack[len(s.Stack)-1]
	return Nothing(m.Funcs[top.F].Blocks[top.Block])
}

func stepOf(t *testing.T, m api.Module, s api.Mach) api.Mach {
	t.Helper()
	next, err := mach.Step(m, s)
	if err != api.OK {
		t.Fatalf("%+v: %+v may not be: %v", m, s, err)
	}
	return next
}

// padded is a made module with pads of each sort, some of whose blocks are full, and much is thrown.
func padded(seed int) api.Module {
	m := made.Mixed(uint64(seed))
	if seed%3 > 0 {
		m = throwing(made.Padded(m, seed))
	}
	if seed%5 == 0 {
		m = made.Stuffed(m, seed)
	}
	return m
}

// throwing is the module, changed: most functions throw what they answered.
func throwing(m api.Module) api.Module {
	for _, f := range m.Funcs[1:] {
		for n := range f.Blocks {
			if e := &f.Blocks[n].End; e.Kind == api.Ret {
				e.Kind = api.Throw
			}
		}
	}
	return m
}

// Machines from their beginning on, which are told more or less, and end in each way.
func TestMachinesFromTheirBeginning(t *testing.T) {
	var c seen
	var ends [api.NoInput + 1]int
	for seed := range 6000 {
		m, told := padded(seed), runs.Inputs()[:seed%10]
		trimmed, _ := Module(m)
		s, _ := mach.New(m, told)
		c.follow(t, m, trimmed, s)
		end, _ := mach.Run(trimmed, told, 2*runs.Most)
		ends[end.Done]++
	}
	if min(c.landed, slices.Min(ends[:])) < 20 {
		t.Errorf("%+v; ends %v", c, ends)
	}
}

// Machines whose top frame stands at any block, to which nobody comes, too, and the frames below it at any Call or Invoke of the one above.
func TestTowers(t *testing.T) {
	var c seen
	for seed := range 600 {
		m := padded(seed)
		trimmed, _ := Module(m)
		for n, f := range m.Funcs {
			for block := range f.Blocks {
				stack := made.Tower(m, made.Frame(m, n, block, 0), 1+seed%7, seed/7+block)
				c.follow(t, m, trimmed, runs.From(stack))
			}
		}
	}
	if min(c.more, c.less, c.landed) < 100 {
		t.Errorf("%+v", c)
	}
}

// Rows of functions each of which invokes the next one, by any pads, and the last of which throws, or answers; some that do nothing are full.
func TestRows(t *testing.T) {
	pads := []string{"pad 0 cleanup / resume", "pad 1 cleanup / out 1 / resume", "pad 0 catch 5 cleanup / resume", "pad 0 catch 1 all cleanup / out 0 / resume", "pad 0 catch 1 / ret 0"}
	lasts := []string{"const 0 1 / throw 0", "const 0 5 / throw 0", "const 0 9 / throw 0", "const 0 7 / ret 0"}
	var c seen
	for number := range len(pads) * len(pads) * len(pads) {
		for k, last := range lasts {
			text, left := "", number
			for n := range 3 {
				text += "func 0 2 / block / invoke 0 " + strconv.Itoa(n+1) + " 1 2 / block / out 0 / ret 0 / " + pads[left%len(pads)] + " / "
				left /= len(pads)
			}
			m := samples.Module(text + "func 0 1 / block / " + last)
			if k == 0 {
				m.Funcs[1].Blocks[0].Ins = slices.Repeat([]api.Ins{{Op: api.Const, K: 3}}, api.MaxIns-number%3)
			}
			trimmed, _ := Module(m)
			s, _ := mach.New(m, nil)
			c.follow(t, m, trimmed, s)
		}
	}
	if min(c.more, c.less, c.landed) < 30 {
		t.Errorf("%+v", c)
	}
}

// What a module tells in so many steps, it tells trimmed in at most twice as many; what it tells trimmed, it tells, with two more steps for each frame that something goes through; and it ends alike.
func TestRuns(t *testing.T) {
	ended, on, told := 0, 0, 0
	for seed := range 2000 {
		m := padded(seed)
		trimmed, _ := Module(m)
		for _, steps := range []int{0, 1, 10, 100, 300} {
			s, _ := mach.Run(m, runs.Inputs(), steps)
			later, _ := mach.Run(trimmed, runs.Inputs(), 2*steps)
			sooner, _ := mach.Run(trimmed, runs.Inputs(), steps)
			last, _ := mach.Run(m, runs.Inputs(), (2*api.MaxDepth+1)*steps)
			if !runs.Begins(later.Events, s.Events) || !runs.Begins(last.Events, sooner.Events) {
				t.Fatalf("%+v, %d steps: %+v; trimmed %+v, in twice as many %+v", m, steps, s, sooner, later)
			}
			if s.Done != api.Runs && !runs.Alike(later, s) || sooner.Done != api.Runs && !runs.Alike(last, sooner) {
				t.Fatalf("%+v, %d steps: %+v; trimmed %+v, in twice as many %+v", m, steps, s, sooner, later)
			}
			told += len(s.Events)
			if s.Done == api.Runs {
				on++
			} else {
				ended++
			}
		}
	}
	if min(ended, on, told) < 1000 {
		t.Errorf("%d ended, %d run on; %d events", ended, on, told)
	}
}

// What goes through all frames that there may be lands in none where nothing is done, once the module is trimmed.
func TestThroughAllFrames(t *testing.T) {
	for _, full := range []int{0, api.MaxIns} {
		m := through(full)
		trimmed, err := Module(m)
		if err != api.OK {
			t.Fatal(err)
		}
		s, _ := mach.Run(m, nil, 1<<20)
		other, _ := mach.Run(trimmed, nil, 1<<20)
		if s.Done != api.Answered || s.Value != 7 || !runs.Alike(other, s) {
			t.Errorf("%d instructions ahead: %+v; trimmed %+v", full, s, other)
		}
	}
}

// through is a module whose function 0 catches what goes through 15 others, each of which is full or not, and goes on to the next one by a cleanup that does nothing.
func through(full int) api.Module {
	m := api.Module{Funcs: make([]api.Func, api.MaxFuncs)}
	for n := range m.Funcs {
		f := made.Of(api.End{Kind: api.Invoke, F: n + 1, To: 0, Pad: 1}, api.End{Kind: api.Resume})
		made.Landing(f, 1)
		if n > 0 {
			f.Blocks[1].Pad = api.Pad{Cleanup: true}
			f.Blocks[0].Ins = slices.Repeat([]api.Ins{{Op: api.Const, K: 3}}, full)
		}
		m.Funcs[n] = f
	}
	m.Funcs[0].Blocks[1].End.Kind = api.Ret
	m.Funcs[api.MaxFuncs-1].Blocks = []api.Block{{Ins: []api.Ins{{Op: api.Const, K: 7}}, End: api.End{Kind: api.Throw}}}
	return m
}
