package flow

import (
	"slices"
	"testing"

	"davit/api"
	"davit/kept"
	"davit/made"
	"davit/shape"
)

func TestAFunctionThatIsHandedInIsNotChanged(t *testing.T) {
	all := func(f api.Func) {
		Reached(f)
		Order(f)
		for n := range f.Blocks {
			Next(f, n)
			Before(f, n)
		}
	}
	for seed := range uint64(1000) {
		for _, f := range append(made.Module(seed).Funcs, made.Func(seed)) {
			if !kept.Func(f, all) {
				t.Fatalf("seed %d: the function is changed", seed)
			}
		}
	}
}

// What is written to an answer, and put behind it, isn't seen in the next answer, nor in the function.
func TestAnswersAreNewMemory(t *testing.T) {
	f := landing(of(branch(1, 2), invoke(3, 4), jump(3), branch(0, 9), ret), 4)
	was := shape.Copy(api.Module{Funcs: []api.Func{f}})
	calls := map[string]func() []int{
		"Next":                 func() []int { return Next(f, 0) },
		"Next, an Invoke":      func() []int { return Next(f, 1) },
		"Next, one not there":  func() []int { return Next(f, 3) },
		"Next, nothing":        func() []int { return Next(f, 4) },
		"Before":               func() []int { return Before(f, 3) },
		"Before, nothing":      func() []int { return Before(f, 5) },
		"Order":                func() []int { return Order(f) },
		"Order of no function": func() []int { return Order(api.Func{}) },
	}
	for name, call := range calls {
		if !kept.Apart(call, -1) {
			t.Errorf("%s: what is written to one answer stands in another one", name)
		}
	}
	if !kept.Apart(func() []bool { return Reached(f) }, false) {
		t.Error("Reached: what is written to one answer stands in another one")
	}
	if !shape.Same(was, api.Module{Funcs: []api.Func{f}}) {
		t.Error("what is written to an answer stands in the function")
	}
}

// What is written to the function isn't seen in what was answered of it.
func TestWhatIsHandedInIsNotKept(t *testing.T) {
	f := landing(of(branch(1, 2), invoke(3, 4), jump(3), ret, ret), 4)
	next, before, reached, order := Next(f, 0), Before(f, 3), Reached(f), Order(f)
	for n := range f.Blocks {
		f.Blocks[n] = api.Block{End: jump(0)}
	}
	if !slices.Equal(next, []int{1, 2}) || !slices.Equal(before, []int{1, 2}) || slices.Contains(reached, false) || !slices.Equal(order, []int{0, 2, 1, 4, 3}) {
		t.Error(next, before, reached, order)
	}
}
