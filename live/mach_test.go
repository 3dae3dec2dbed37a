package live

import (
	"slices"
	"testing"

	"davit/api"
	"davit/mach"
	"davit/made"
	"davit/runs"
)

// run on: the machine, and those behind each step, till it ends.
func run(t *testing.T, m api.Module, s api.Mach) []api.Mach {
	t.Helper()
	list := []api.Mach{s}
	for len(list) <= runs.Most && s.Done == api.Runs {
		next, err := mach.Step(m, s)
		if err != api.OK {
			t.Fatalf("%+v may not be: %v", s, err)
		}
		list, s = append(list, next), next
	}
	return list
}

// alike: do both tell the same outside, step by step, and end alike?
func alike(a, b []api.Mach) bool {
	return slices.EqualFunc(a, b, func(a, b api.Mach) bool {
		return slices.Equal(a.Events, b.Events) && slices.Equal(a.Inputs, b.Inputs) && a.Done == b.Done && a.Value == b.Value &&
			a.Cells == b.Cells && slices.EqualFunc(a.Stack, b.Stack, func(a, b api.Frame) bool {
			return a.F == b.F && a.Block == b.Block && a.At == b.At && a.Fly == b.Fly
		})
	})
}

// other is the machine with other words in those places of the frame on top.
func other(s api.Mach, is func(place int) bool, word func(w uint16) uint16) api.Mach {
	s = mach.Copy(s)
	regs := s.Stack[len(s.Stack)-1].Regs
	for place, w := range regs {
		if is(place) {
			regs[place] = word(w)
		}
	}
	return s
}

func words() []func(w uint16) uint16 {
	return []func(w uint16) uint16{
		func(w uint16) uint16 { return w + 1 },
		func(w uint16) uint16 { return 65535 - w },
	}
}

// tally is how many were tried with places that aren't live, of these how many at Landing blocks and above other frames; and of how many places that are live another word makes what comes another one.
type tally struct{ dead, landed, above, live, matter int }

// try a machine whose top frame stands at a block's beginning; of is what runs on from it.
func (c *tally) try(t *testing.T, m api.Module, at [][][]bool, of []api.Mach) {
	t.Helper()
	s := of[0]
	top := s.Stack[len(s.Stack)-1]
	live := at[top.F][top.Block]
	if slices.Contains(live, false) {
		c.dead++
		if lands(m, s) {
			c.landed++
		}
		if len(s.Stack) > 1 {
			c.above++
		}
		for _, word := range words() {
			changed := other(s, func(place int) bool { return !live[place] }, word)
			if !alike(of, run(t, m, changed)) {
				t.Fatalf("%+v: %+v and %+v run on to different ends", m, s, changed)
			}
		}
	}
	for place, is := range live {
		if !is {
			continue
		}
		c.live++
		changed := other(s, func(n int) bool { return n == place }, words()[0])
		if !alike(of, run(t, m, changed)) {
			c.matter++
		}
	}
}

func (c tally) check(t *testing.T) {
	t.Helper()
	if c.dead < 1000 || c.landed < 100 || c.matter < 1000 || c.matter == c.live {
		t.Errorf("%+v", c)
	}
}

func atAll(m api.Module) [][][]bool {
	var list [][][]bool
	for _, f := range m.Funcs {
		list = append(list, At(f))
	}
	return list
}

// lands: does the top frame stand at a Landing block?
func lands(m api.Module, s api.Mach) bool {
	top := s.Stack[len(s.Stack)-1]
	return m.Funcs[top.F].Blocks[top.Block].Landing
}

// Machines from their beginning on, where their top frame comes to a block's beginning first, and wherever it has landed.
func TestMachinesThatRun(t *testing.T) {
	var c tally
	for seed := range uint64(8000) {
		m := made.Module(seed)
		at := atAll(m)
		s, _ := mach.New(m, runs.Inputs())
		for step := 0; step < 40 && s.Done == api.Runs; step++ {
			if s.Stack[len(s.Stack)-1].At == 0 && (step < 12 && seed < 1500 || lands(m, s)) {
				c.try(t, m, at, run(t, m, s))
			}
			s, _ = mach.Step(m, s)
		}
	}
	c.check(t)
	if c.above < 100 {
		t.Errorf("only %d above other frames", c.above)
	}
}

// Machines of one frame that stands at the beginning of each block, those that none comes to, too, with whatever words.
func TestMachinesAtEachBlock(t *testing.T) {
	var c tally
	for seed := range uint64(400) {
		m := made.Module(seed)
		at := atAll(m)
		for n, f := range m.Funcs {
			for block := range f.Blocks {
				top := api.Frame{F: n, Block: block, Fly: uint16(seed)}
				for place := range f.Regs {
					top.Regs = append(top.Regs, uint16(seed)%5*uint16(place+block))
				}
				c.try(t, m, at, run(t, m, runs.From([]api.Frame{top})))
			}
		}
	}
	c.check(t)
}
