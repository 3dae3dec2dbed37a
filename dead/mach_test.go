package dead

import (
	"slices"
	"testing"

	"davit/api"
	"davit/mach"
	"davit/made"
	"davit/runs"
)

// names are the new numbers of a module's functions, and of their blocks; -1: it goes.
type names struct {
	funcs  []int
	blocks [][]int
}

// namesIn a module, for those that aren't gone.
func namesIn(m api.Module) names {
	_, stays := clearModule(m)
	list := names{funcs: ranks(stays)}
	for _, f := range m.Funcs {
		reached := comeTo(len(f.Blocks), func(n int) []int { return told(namesOf(&f.Blocks[n].End)) })
		list.blocks = append(list.blocks, ranks(reached))
	}
	return list
}

// ranks among those that stay.
func ranks(stays []bool) []int {
	var list []int
	next := 0
	for _, is := range stays {
		if !is {
			list = append(list, -1)
			continue
		}
		list = append(list, next)
		next++
	}
	return list
}

// twin is the machine named anew; none: one of its frames stands where nobody comes to.
func (c names) twin(s api.Mach) (api.Mach, bool) {
	s.Stack = slices.Clone(s.Stack)
	for i, f := range s.Stack {
		s.Stack[i].F, s.Stack[i].Block = c.funcs[f.F], c.blocks[f.F][f.Block]
		if c.funcs[f.F] < 0 || c.blocks[f.F][f.Block] < 0 {
			return api.Mach{}, false
		}
	}
	return s, true
}

// steps of the machine, and of its twin in the module cleared, one by one.
func (c names) steps(t *testing.T, m, cleared api.Module, s api.Mach) (done int, tried bool) {
	t.Helper()
	other, is := c.twin(s)
	if !is {
		return 0, false
	}
	for step := 0; step < runs.Most && s.Done == api.Runs; step++ {
		next, err := mach.Step(m, s)
		next2, err2 := mach.Step(cleared, other)
		if err != api.OK || err2 != api.OK {
			t.Fatalf("%+v, %+v: %v, %v", s, other, err, err2)
		}
		want, is := c.twin(next)
		if !is {
			t.Fatalf("%+v: %+v stands where nobody comes to", m, next)
		}
		if !runs.Alike(next2, want) {
			t.Fatalf("%+v: %+v goes on to %+v, not to %+v", cleared, other, next2, want)
		}
		s, other = next, next2
	}
	return s.Done, true
}

// Machines from their beginning on, which are told more or less, and end in each way.
func TestMachinesFromTheirBeginning(t *testing.T) {
	var ends [api.NoInput + 1]int
	for seed := range uint64(8000) {
		m, told := made.Module(seed), runs.Inputs()[:seed%10]
		s, _ := mach.New(m, told)
		cleared, _ := Module(m)
		done, tried := namesIn(m).steps(t, m, cleared, s)
		if !tried {
			t.Fatalf("seed %d: the beginning goes", seed)
		}
		ends[done]++
		for _, some := range []int{0, 1, 7, 200} {
			a, err := mach.Run(m, told, some)
			b, err2 := mach.Run(cleared, told, some)
			if err != api.OK || err2 != api.OK || !slices.Equal(a.Events, b.Events) || a.Done != b.Done || a.Value != b.Value || a.Cells != b.Cells {
				t.Fatalf("seed %d, %d steps: %v, %+v, cleared %v, %+v", seed, some, err, a, err2, b)
			}
		}
	}
	if slices.Min(ends[:]) < 20 {
		t.Errorf("ends %v", ends)
	}
}

// Machines whose top frame stands at any block that stays, and the frames below it at any that stay, too.
func TestTowers(t *testing.T) {
	var heights [5]int
	for seed := range 2000 {
		m := made.Module(uint64(seed))
		cleared, _ := Module(m)
		called := namesIn(m)
		for n, f := range m.Funcs {
			for block := range f.Blocks {
				stack := made.Tower(m, made.Frame(m, n, block, 0), 1+seed%4, seed/4+block)
				if _, is := called.steps(t, m, cleared, runs.From(stack)); is {
					heights[len(stack)]++
				}
			}
		}
	}
	if slices.Min(heights[1:]) < 100 {
		t.Errorf("heights %v", heights)
	}
}
