package made

import (
	"reflect"
	"slices"
	"testing"

	"davit/api"
)

func TestFrame(t *testing.T) {
	m := Module(3)
	for n, f := range m.Funcs {
		for block := range f.Blocks {
			for at := range 3 {
				got := Frame(m, n, block, at)
				if got.F != n || got.Block != block || got.At != at || len(got.Regs) != f.Regs {
					t.Errorf("function %d, block %d, at %d: %+v", n, block, at, got)
				}
				if !reflect.DeepEqual(got, Frame(m, n, block, at)) {
					t.Errorf("function %d, block %d, at %d: not the same each time", n, block, at)
				}
			}
		}
	}
}

// calledAt is the function that the frame calls where it stands; -1: none.
func calledAt(m api.Module, f api.Frame) int {
	b := m.Funcs[f.F].Blocks[f.Block]
	switch {
	case f.At < len(b.Ins) && b.Ins[f.At].Op == api.Call:
		return b.Ins[f.At].F
	case f.At == len(b.Ins) && b.End.Kind == api.Invoke:
		return b.End.F
	}
	return -1
}

func TestTowers(t *testing.T) {
	var heights [6]int
	calls, invokes := 0, 0
	for seed := range 500 {
		m := Module(uint64(seed))
		top := Frame(m, len(m.Funcs)-1, 0, 0)
		list := Tower(m, top, 1+seed%5, seed/5)
		heights[len(list)]++
		if len(list) > 1+seed%5 || !reflect.DeepEqual(list[len(list)-1], top) {
			t.Fatalf("seed %d: %+v", seed, list)
		}
		if !reflect.DeepEqual(list, Tower(m, top, 1+seed%5, seed/5)) {
			t.Fatalf("seed %d: not the same each time", seed)
		}
		if len(list) < 1+seed%5 && len(callers(m, list[0].F)) > 0 {
			t.Errorf("seed %d: %d frames, though one calls function %d", seed, len(list), list[0].F)
		}
		for i, f := range list[:len(list)-1] {
			if calledAt(m, f) != list[i+1].F || len(f.Regs) != m.Funcs[f.F].Regs {
				t.Errorf("seed %d: frame %d: %+v below %+v", seed, i, f, list[i+1])
			}
			if f.At < len(m.Funcs[f.F].Blocks[f.Block].Ins) {
				calls++
			} else {
				invokes++
			}
		}
	}
	if slices.Min(heights[1:]) < 20 || min(calls, invokes) < 50 {
		t.Errorf("heights %v, at %d Calls and %d Invokes", heights, calls, invokes)
	}
}

// A number chooses among all that may stand below.
func TestTowersByNumbers(t *testing.T) {
	m := Calls([]int{1, 1, 1}, nil)
	var met []api.Frame
	for number := range 3 {
		list := Tower(m, Frame(m, 1, 0, 0), 2, number)
		if len(list) != 2 || list[0].Block != number || list[0].F != 0 {
			t.Errorf("number %d: %+v", number, list)
		}
		met = append(met, list[0])
	}
	if !reflect.DeepEqual(met, callers(m, 1)) {
		t.Errorf("%+v", met)
	}
	if list := Tower(m, Frame(m, 0, 0, 0), 5, 0); len(list) != 1 {
		t.Errorf("nobody calls function 0: %+v", list)
	}
}
