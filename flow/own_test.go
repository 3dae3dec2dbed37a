package flow

import (
	"reflect"
	"slices"
	"testing"

	"davit/api"
	"davit/made"
	"davit/shape"
)

// roomy is a function whose list of blocks has spare room, with something in it.
func roomy(f api.Func) (api.Func, []api.Block) {
	whole := append(slices.Clone(f.Blocks), api.Block{End: jump(7)}, api.Block{Landing: true, End: ret})
	f.Blocks = whole[:len(f.Blocks)]
	return f, whole
}

func TestAFunctionThatIsHandedInIsNotChanged(t *testing.T) {
	for seed := range uint64(1000) {
		m := made.Module(seed)
		for _, f := range append(m.Funcs, made.Func(seed)) {
			was := shape.Copy(api.Module{Funcs: []api.Func{f}})
			f, whole := roomy(f)
			room := slices.Clone(whole[len(f.Blocks):])
			Reached(f)
			Order(f)
			for n := range f.Blocks {
				Next(f, n)
				Before(f, n)
			}
			if !shape.Same(was, api.Module{Funcs: []api.Func{f}}) || !reflect.DeepEqual(room, whole[len(f.Blocks):]) {
				t.Fatalf("seed %d: the function is changed", seed)
			}
		}
	}
}

// What is written to an answer, and put behind it, isn't seen in the next answer, nor in the function.
func TestAnswersAreNewMemory(t *testing.T) {
	f := landing(of(branch(1, 2), invoke(3, 4), jump(3), branch(0, 9), ret), 4)
	was := shape.Copy(api.Module{Funcs: []api.Func{f}})
	calls := map[string]func() []int{
		"Next":                 func() []int { return Next(f, 0) },
		"Next, an Invoke":      func() []int { return Next(f, 1) },
		"Next, one not there":  func() []int { return Next(f, 3) },
		"Next, nothing":        func() []int { return Next(f, 4) },
		"Before":               func() []int { return Before(f, 3) },
		"Before, nothing":      func() []int { return Before(f, 5) },
		"Order":                func() []int { return Order(f) },
		"Order of no function": func() []int { return Order(api.Func{}) },
	}
	for name, call := range calls {
		want := slices.Clone(call())
		kept, got := call(), call()
		got = got[:cap(got)]
		for i := range got {
			got[i] = -1
		}
		if !slices.Equal(call(), want) || !slices.Equal(kept, want) {
			t.Errorf("%s: what is written to one answer stands in another one", name)
		}
	}
	kept, got := Reached(f), Reached(f)
	for i := range got {
		got[i] = false
	}
	if slices.Contains(kept, false) || slices.Contains(Reached(f), false) {
		t.Error("Reached: what is written to one answer stands in another one")
	}
	if !shape.Same(was, api.Module{Funcs: []api.Func{f}}) {
		t.Error("what is written to an answer stands in the function")
	}
}

// What is written to the function isn't seen in what was answered of it.
func TestWhatIsHandedInIsNotKept(t *testing.T) {
	f := landing(of(branch(1, 2), invoke(3, 4), jump(3), ret, ret), 4)
	next, before, reached, order := Next(f, 0), Before(f, 3), Reached(f), Order(f)
	for n := range f.Blocks {
		f.Blocks[n] = api.Block{End: jump(0)}
	}
	if !slices.Equal(next, []int{1, 2}) || !slices.Equal(before, []int{1, 2}) || slices.Contains(reached, false) || !slices.Equal(order, []int{0, 2, 1, 4, 3}) {
		t.Error(next, before, reached, order)
	}
}
