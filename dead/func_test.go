package dead

import (
	"math"
	"slices"
	"testing"

	"davit/api"
	"davit/made"
	"davit/samples"
)

func TestFunc(t *testing.T) {
	for name, c := range map[string]struct{ from, to string }{
		"the chapter's example":         {"func 0 1 / block / jump 2 / block / ret 0 / block / ret 0", "func 0 1 / block / jump 1 / block / ret 0"},
		"one block":                     {"func 0 1 / block / ret 0", "func 0 1 / block / ret 0"},
		"one that goes round":           {"func 0 1 / block / jump 0 / block / ret 0", "func 0 1 / block / jump 0"},
		"all are reached":               {"func 0 1 / block / branch 0 2 1 / block / jump 0 / block / throw 0", "func 0 1 / block / branch 0 2 1 / block / jump 0 / block / throw 0"},
		"the last one goes":             {"func 0 1 / block / jump 1 / block / throw 0 / block / ret 0", "func 0 1 / block / jump 1 / block / throw 0"},
		"several go":                    {"func 0 1 / block / jump 3 / block / ret 0 / block / ret 0 / block / branch 0 5 0 / block / ret 0 / block / jump 3 / block / ret 0", "func 0 1 / block / jump 1 / block / branch 0 2 0 / block / jump 1"},
		"they stay as they stood":       {"func 0 1 / block / jump 4 / block / ret 0 / block / jump 1 / block / resume / block / branch 0 2 0", "func 0 1 / block / jump 3 / block / ret 0 / block / jump 1 / block / branch 0 2 0"},
		"a Branch to one":               {"func 0 1 / block / branch 0 2 2 / block / ret 0 / block / ret 0", "func 0 1 / block / branch 0 1 1 / block / ret 0"},
		"Else alone is behind":          {"func 0 1 / block / branch 0 0 2 / block / ret 0 / block / ret 0", "func 0 1 / block / branch 0 0 1 / block / ret 0"},
		"To alone is behind":            {"func 0 1 / block / branch 0 2 0 / block / ret 0 / block / ret 0", "func 0 1 / block / branch 0 1 0 / block / ret 0"},
		"what goes names what stays":    {"func 0 1 / block / jump 2 / block / branch 0 0 2 / block / ret 0", "func 0 1 / block / jump 1 / block / ret 0"},
		"a ring beside goes":            {"func 0 1 / block / ret 0 / block / jump 2 / block / jump 1", "func 0 1 / block / ret 0"},
		"an Invoke's goal and pad":      {"func 0 1 / block / invoke 0 0 2 4 / block / ret 0 / block / ret 0 / pad 0 all / ret 0 / pad 0 cleanup / resume", "func 0 1 / block / invoke 0 0 1 2 / block / ret 0 / pad 0 cleanup / resume"},
		"a pad ahead of the goal":       {"func 0 1 / block / invoke 0 0 4 2 / block / ret 0 / pad 0 all / ret 0 / pad 0 all / ret 0 / block / ret 0", "func 0 1 / block / invoke 0 0 2 1 / pad 0 all / ret 0 / block / ret 0"},
		"a pad of none goes":            {"func 0 1 / block / ret 0 / pad 0 all / ret 0", "func 0 1 / block / ret 0"},
		"a pad of one that goes goes":   {"func 0 1 / block / ret 0 / block / invoke 0 0 0 2 / pad 0 all / jump 0", "func 0 1 / block / ret 0"},
		"what only a pad goes on to":    {"func 0 1 / block / invoke 0 0 0 2 / block / ret 0 / pad 0 all / jump 3 / block / jump 0", "func 0 1 / block / invoke 0 0 0 1 / pad 0 all / jump 2 / block / jump 0"},
		"two Invokes of one pad":        {"func 0 1 / block / invoke 0 0 2 3 / block / ret 0 / block / invoke 0 0 0 3 / pad 0 catch 7 8 / resume", "func 0 1 / block / invoke 0 0 1 2 / block / invoke 0 0 0 2 / pad 0 catch 7 8 / resume"},
		"each with what belongs to it":  {"func 0 3 / block / const 0 1 / jump 2 / block / const 0 2 / ret 0 / block / const 0 3 / call 1 0 / invoke 1 0 3 5 / block / const 0 4 / ret 2 / pad 0 catch 5 / out 0 / ret 0 / pad 2 catch 6 cleanup / out 1 / throw 1", "func 0 3 / block / const 0 1 / jump 1 / block / const 0 3 / call 1 0 / invoke 1 0 2 3 / block / const 0 4 / ret 2 / pad 2 catch 6 cleanup / out 1 / throw 1"},
		"no word is known of a Branch":  {"func 0 1 / block / const 0 1 / branch 0 1 2 / block / ret 0 / block / throw 0", "func 0 1 / block / const 0 1 / branch 0 1 2 / block / ret 0 / block / throw 0"},
		"places stay, used or not":      {"func 0 7 / block / ret 0 / block / ret 6", "func 0 7 / block / ret 0"},
		"behind a trap, and what is no": {"func 0 1 / block / div 0 0 0 / jump 1 / block / ret 0 / block / div 0 0 0 / ret 0", "func 0 1 / block / div 0 0 0 / jump 1 / block / ret 0"},
	} {
		f, want := samples.Module(c.from).Funcs[0], samples.Module(c.to).Funcs[0]
		if got := Func(f); !sameFunc(got, want) {
			t.Errorf("%s: %+v", name, got)
		}
	}
}

// ended is a function whose block 0 jumps to 2, which ends so; 1 goes.
func ended(end api.End) api.Func { return made.Of(made.Jump(2), made.Jump(9), end, api.End{}) }

// What an end doesn't use stays as it is, though it looks like a block's number, there or not.
func TestWhatIsNotUsedStays(t *testing.T) {
	numbers := append(made.NoneOf(4), 0, 1, 2, 3)
	for kind := -2; kind <= 9; kind++ {
		for _, to := range numbers {
			for _, pad := range numbers {
				end := api.End{Kind: kind, A: 2, Dst: 2, F: 2, Args: []int{2}, To: to, Else: to, Pad: pad}
				if len(namesOf(&end)) > 0 {
					continue
				}
				f := ended(end)
				want := made.Of(made.Jump(1), end)
				if got := Func(f); !sameFunc(got, want) {
					t.Errorf("%+v: %+v", end, got)
				}
			}
		}
	}
	for _, c := range []struct{ from, to api.End }{
		{api.End{Kind: api.Jump, A: 2, Dst: 2, F: 2, Args: []int{2}, To: 2, Else: 2, Pad: 9}, api.End{Kind: api.Jump, A: 2, Dst: 2, F: 2, Args: []int{2}, To: 1, Else: 2, Pad: 9}},
		{api.End{Kind: api.Branch, A: 2, Dst: 2, F: 2, Args: []int{2}, To: 2, Else: 0, Pad: -1}, api.End{Kind: api.Branch, A: 2, Dst: 2, F: 2, Args: []int{2}, To: 1, Else: 0, Pad: -1}},
		{api.End{Kind: api.Branch, To: 0, Else: 2, Pad: 2}, api.End{Kind: api.Branch, To: 0, Else: 1, Pad: 2}},
		{api.End{Kind: api.Invoke, A: 2, Dst: 2, F: 2, Args: []int{2}, To: 2, Else: -1, Pad: 0}, api.End{Kind: api.Invoke, A: 2, Dst: 2, F: 2, Args: []int{2}, To: 1, Else: -1, Pad: 0}},
		{api.End{Kind: api.Invoke, To: 0, Else: 2, Pad: 2}, api.End{Kind: api.Invoke, To: 0, Else: 2, Pad: 1}},
	} {
		if got, want := Func(ended(c.from)), made.Of(made.Jump(1), c.to); !sameFunc(got, want) {
			t.Errorf("%+v: %+v", c.from, got)
		}
	}
}

// A block that is reached and names one that isn't there: all stays.
func TestAsItIs(t *testing.T) {
	for _, none := range made.NoneOf(4) {
		for _, end := range []api.End{made.Jump(none), made.Branch(none, 0), made.Branch(0, none), made.Invoke(none, 0), made.Invoke(0, none), made.Invoke(none, none)} {
			f := ended(end)
			if got := Func(f); !sameFunc(got, f) {
				t.Errorf("%+v: %+v", end, got)
			}
			f = made.Of(end, made.Jump(0), made.Jump(0), made.Jump(0))
			if got := Func(f); !sameFunc(got, f) {
				t.Errorf("%+v, ahead: %+v", end, got)
			}
			// What isn't reached may name whatever it will.
			f = made.Of(made.Jump(2), end, made.Jump(0), end)
			if got := Func(f); !sameFunc(got, made.Of(made.Jump(1), made.Jump(0))) {
				t.Errorf("%+v, not reached: %+v", end, got)
			}
		}
	}
	for _, f := range []api.Func{{}, {Params: 3, Regs: -1}, {Params: -1, Regs: 9, Blocks: []api.Block{}}} {
		if got := Func(f); !sameFunc(got, f) {
			t.Errorf("%+v: %+v", f, got)
		}
	}
}

// What may not be is cleared likewise, and else as it was.
func TestWhateverElse(t *testing.T) {
	odd := api.Block{
		Landing: true,
		Pad:     api.Pad{Dst: -3, Catch: []uint16{1, 1, 65535}, All: true, Cleanup: true},
		Ins:     []api.Ins{{Op: 99, Dst: -1, A: 2, B: 2, K: 2, F: 2, Args: []int{2, -2}}, {}, {Op: api.Call, F: 2}, {Op: api.Const, F: -7, Args: []int{}}},
		End:     api.End{Kind: api.Jump, To: 2},
	}
	f := api.Func{Params: -5, Regs: math.MaxInt, Blocks: []api.Block{odd, odd, odd, odd}}
	odd.End.To = 1
	want := api.Func{Params: -5, Regs: math.MaxInt, Blocks: []api.Block{odd, odd}}
	if got := Func(f); !sameFunc(got, want) {
		t.Errorf("%+v", got)
	}
	// A goal that is Landing, and a Pad that isn't.
	f = made.Landing(made.Of(made.Invoke(2, 3), api.End{}, api.End{Kind: api.Ret}, made.Jump(2)), 2)
	want = made.Landing(made.Of(made.Invoke(1, 2), api.End{Kind: api.Ret}, made.Jump(1)), 1)
	if got := Func(f); !sameFunc(got, want) {
		t.Errorf("%+v", got)
	}
}

// tally is of how many functions all stayed, some went, and all stayed since one isn't there.
type tally struct{ all, some, astray int }

func (c *tally) check(t *testing.T, f api.Func) {
	t.Helper()
	got, want := Func(f), clearFunc(f)
	if !sameFunc(got, want) {
		t.Fatalf("%+v: %+v, not %+v", f, got, want)
	}
	reached := comeTo(max(len(f.Blocks), 1), func(n int) []int {
		if n < len(f.Blocks) {
			return told(namesOf(&f.Blocks[n].End))
		}
		return nil
	})
	switch {
	case len(got.Blocks) < len(f.Blocks):
		c.some++
	case slices.Contains(reached, false):
		c.astray++
	default:
		c.all++
	}
	if again := Func(got); !sameFunc(again, got) {
		t.Fatalf("%+v: cleared again %+v", got, again)
	}
}

func TestEveryFunctionOfFewBlocks(t *testing.T) {
	var c tally
	for count := 1; count <= 3; count++ {
		for f := range made.Every(count, made.Ends(count)) {
			c.check(t, f)
		}
	}
	for f := range made.Every(4, made.Ways(4)) {
		c.check(t, f)
	}
	if min(c.all, c.some, c.astray) < 1000 {
		t.Errorf("%+v", c)
	}
}

func TestMadeFunctions(t *testing.T) {
	var c tally
	for seed := range uint64(2000) {
		c.check(t, made.Func(seed))
		c.check(t, made.Web(seed, int(seed%api.MaxBlocks)))
		c.check(t, made.One(seed, 1+int(seed%api.MaxBlocks), 3))
	}
	if min(c.all, c.some, c.astray) < 300 {
		t.Errorf("%+v", c)
	}
}

// Rows of very many blocks, every other one of which goes.
func TestLongRows(t *testing.T) {
	const count = 100001
	for name, end := range map[string]func(n int) api.End{
		"jumps":    func(n int) api.End { return made.Jump(n + 2) },
		"branches": func(n int) api.End { return made.Branch(n+2, max(n-2, 0)) },
		"invokes":  func(n int) api.End { return made.Invoke(0, n+2) },
	} {
		f := made.Row(count, end)
		f.Blocks[count-2].End = made.Jump(0)
		got := Func(f)
		if len(got.Blocks) != count/2+1 {
			t.Fatalf("%s: %d blocks", name, len(got.Blocks))
		}
		for n, b := range got.Blocks[:count/2] {
			want := end(2 * n)
			for _, place := range namesOf(&want) {
				*place /= 2
			}
			if !sameFunc(made.Of(b.End), made.Of(want)) {
				t.Fatalf("%s: block %d: %+v, not %+v", name, n, b.End, want)
			}
		}
	}
}
