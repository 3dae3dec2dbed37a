package made

import (
	"reflect"
	"slices"
	"testing"

	"davit/api"
	"davit/shape"
)

// called are the functions that a function calls, as they stand.
func called(f api.Func) []int {
	var list []int
	for _, b := range f.Blocks {
		for _, x := range b.Ins {
			if x.Op == api.Call {
				list = append(list, x.F)
			}
		}
		if b.End.Kind == api.Invoke {
			list = append(list, b.End.F)
		}
	}
	return list
}

func TestCalls(t *testing.T) {
	lists := [][]int{{2, 1, 2, 0}, nil, {}, {1}, {4, 4}}
	m := Calls(lists...)
	if !shape.Right(m) {
		t.Errorf("%+v may not be", m)
	}
	for n, list := range lists {
		if got := called(m.Funcs[n]); !slices.Equal(got, list) {
			t.Errorf("function %d calls %v, not %v", n, got, list)
		}
	}
	if blocks := m.Funcs[0].Blocks; blocks[0].Ins[0].F != 2 || blocks[1].End.F != 1 || blocks[2].Ins[0].F != 2 || blocks[3].End.F != 0 {
		t.Errorf("%+v", blocks)
	}
	if m := Calls(); len(m.Funcs) != 0 {
		t.Errorf("%+v", m)
	}
	if got := called(Calls([]int{-1, 1, 1 << 40}).Funcs[0]); !slices.Equal(got, []int{-1, 1, 1 << 40}) {
		t.Errorf("functions that aren't there: %v", got)
	}
}

func TestCallers(t *testing.T) {
	calls, invokes, there, below, beyond, none, blockless := 0, 0, 0, 0, 0, 0, 0
	for seed := range uint64(500) {
		count := int(seed % 20)
		m := Callers(seed, count)
		if !reflect.DeepEqual(m, Callers(seed, count)) {
			t.Fatalf("seed %d: not the same each time", seed)
		}
		if len(m.Funcs) != count {
			t.Fatalf("seed %d: %d functions, not %d", seed, len(m.Funcs), count)
		}
		for _, f := range m.Funcs {
			if len(f.Blocks) == 0 {
				blockless++
			}
			for _, n := range called(f) {
				switch {
				case n < 0:
					below++
				case n >= count:
					beyond++
				default:
					there++
				}
			}
			for _, b := range f.Blocks {
				if b.End.Kind == api.Invoke {
					invokes++
				} else if b.End.F > 0 {
					none++
				}
				for _, x := range b.Ins {
					if x.Op == api.Call {
						calls++
					} else if x.F > 0 {
						none++
					}
				}
			}
		}
	}
	if min(calls, invokes, there, below, beyond, none, blockless) < 200 {
		t.Errorf("%d calls, %d invokes, of %d that are there, %d below 0, %d beyond; %d numbers in no call; %d without blocks", calls, invokes, there, below, beyond, none, blockless)
	}
}
