package dom

import (
	"slices"
	"testing"

	"davit/api"
	"davit/kept"
	"davit/made"
	"davit/shape"
)

func TestAFunctionThatIsHandedInIsNotChanged(t *testing.T) {
	all := func(f api.Func) {
		Over(f)
		for n := range f.Blocks {
			Edge(f, n)
			Is(f, 0, n)
			Is(f, n, 0)
		}
	}
	for seed := range uint64(1000) {
		for _, f := range append(made.Module(seed).Funcs, made.Func(seed), made.Web(seed, 9)) {
			if !kept.Func(f, all) {
				t.Fatalf("seed %d: the function is changed", seed)
			}
		}
	}
}

// What is written to an answer, and put behind it, isn't seen in the next answer, nor in the function.
func TestAnswersAreNewMemory(t *testing.T) {
	f := landing(of(branch(1, 2), invoke(3, 4), branch(3, 2), branch(1, 9), jump(3)), 4)
	was := shape.Copy(api.Module{Funcs: []api.Func{f}})
	for name, call := range map[string]func() []int{
		"Over":                  func() []int { return Over(f) },
		"Over of one block":     func() []int { return Over(of(ret)) },
		"Over of no block":      func() []int { return Over(api.Func{}) },
		"Edge":                  func() []int { return Edge(f, 2) },
		"Edge, nothing":         func() []int { return Edge(f, 0) },
		"Edge of one not there": func() []int { return Edge(f, 5) },
	} {
		if !kept.Apart(call, -7) {
			t.Errorf("%s: what is written to one answer stands in another one", name)
		}
	}
	if !shape.Same(was, api.Module{Funcs: []api.Func{f}}) {
		t.Error("what is written to an answer stands in the function")
	}
}

// What is written to the function isn't seen in what was answered of it.
func TestWhatIsHandedInIsNotKept(t *testing.T) {
	f := of(branch(1, 2), jump(3), jump(3), branch(0, 3))
	over, edge := Over(f), Edge(f, 3)
	for n := range f.Blocks {
		f.Blocks[n] = api.Block{End: ret}
	}
	if !slices.Equal(over, []int{-1, 0, 0, 0}) || !slices.Equal(edge, []int{0, 3}) {
		t.Error(over, edge)
	}
	if over, edge = Over(f), Edge(f, 3); !slices.Equal(over, []int{-1, -1, -1, -1}) || len(edge) != 0 {
		t.Error(over, edge)
	}
}
