package live

import (
	"slices"
	"testing"

	"davit/api"
	"davit/kept"
	"davit/made"
	"davit/shape"
)

func TestAFunctionThatIsHandedInIsNotChanged(t *testing.T) {
	all := func(f api.Func) {
		At(f)
		Behind(f)
		for _, b := range f.Blocks {
			EndAsks(b.End)
			for _, x := range b.Ins {
				Asks(x)
				Sets(x)
			}
		}
	}
	for seed := range uint64(1000) {
		for _, f := range append(made.Module(seed).Funcs, made.Func(seed), made.One(seed, 9, 5)) {
			if !kept.Func(f, all) {
				t.Fatalf("seed %d: the function is changed", seed)
			}
		}
	}
}

// What is written to the places told, and put behind them, isn't seen in the Args, in their spare room, nor in what is told again.
func TestPlacesAreNewMemory(t *testing.T) {
	args := func() []int { return []int{5, 6, 7, 8}[:2] }
	given := args()
	x, e := api.Ins{Op: api.Call, Args: given}, api.End{Kind: api.Invoke, Args: given}
	for name, call := range map[string]func() []int{
		"Asks":           func() []int { return Asks(x) },
		"Asks, A and B":  func() []int { return Asks(api.Ins{Op: api.Add, A: 1, B: 2}) },
		"Asks, A":        func() []int { return Asks(api.Ins{Op: api.Out, A: 1}) },
		"Asks, nothing":  func() []int { return Asks(api.Ins{Op: api.Call, Args: given[:0]}) },
		"EndAsks":        func() []int { return EndAsks(e) },
		"EndAsks, A":     func() []int { return EndAsks(api.End{Kind: api.Ret, A: 1}) },
		"EndAsks, empty": func() []int { return EndAsks(api.End{Kind: api.Invoke, Args: given[:0]}) },
	} {
		if !kept.Apart(call, -7) {
			t.Errorf("%s: what is written to one answer stands in another one", name)
		}
		_ = append(call(), -7, -7)
		if !slices.Equal(given[:4], args()[:4]) {
			t.Errorf("%s: what is written to an answer stands in the Args: %v", name, given[:4])
		}
	}
	asks, ends := Asks(x), EndAsks(e)
	given[0], given[1] = -1, -1
	if !slices.Equal(asks, []int{5, 6}) || !slices.Equal(ends, []int{5, 6}) {
		t.Errorf("what is written to the Args stands in what was told: %v, %v", asks, ends)
	}
}

// calls are the two that tell something of a whole function.
func calls() map[string]func(f api.Func) [][]bool {
	return map[string]func(f api.Func) [][]bool{"At": At, "Behind": Behind}
}

// turn writes to a list, and behind it, the other of what stands there.
func turn(list []bool) {
	list = list[:cap(list)]
	for i := range list {
		list[i] = !list[i]
	}
}

// What is written to an answer's lists, and put behind them, isn't seen in another list, in another answer, nor in the function.
func TestAnswersAreNewMemory(t *testing.T) {
	f := made.One(5, 9, 5)
	was := shape.Copy(api.Module{Funcs: []api.Func{f}})
	for name, call := range calls() {
		want := told(call(f))
		ahead, answer := call(f), call(f)
		for n := range f.Blocks {
			one := call(f)
			alike := slices.Clone(one[n])
			turn(one[n])
			one[n] = alike
			if told(one) != want {
				t.Errorf("%s: what is written to the list of block %d stands in another one", name, n)
			}
			turn(answer[n])
		}
		answer = answer[:cap(answer)]
		for i := range answer {
			answer[i] = []bool{true}
		}
		if told(ahead) != want || told(call(f)) != want {
			t.Errorf("%s: what is written to one answer stands in another one", name)
		}
	}
	at, behind := At(f), Behind(f)
	for n := range at {
		turn(at[n])
	}
	if told(behind) != told(Behind(f)) {
		t.Error("what is written to what At told stands in what Behind told")
	}
	if !shape.Same(was, api.Module{Funcs: []api.Func{f}}) {
		t.Error("what is written to an answer stands in the function")
	}
}

// What is written to the function isn't seen in what was answered of it.
func TestWhatIsHandedInIsNotKept(t *testing.T) {
	for name, call := range calls() {
		f := made.One(5, 9, 5)
		answer, want := call(f), told(call(f))
		for n := range f.Blocks {
			f.Blocks[n] = api.Block{End: api.End{Kind: api.Resume}}
		}
		if told(answer) != want {
			t.Errorf("%s: %s, not %s", name, told(answer), want)
		}
		if got := told(call(f)); got != "||||||||" {
			t.Errorf("%s: %s of blocks that ask for nothing", name, got)
		}
	}
}
