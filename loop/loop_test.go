package loop

import (
	"slices"
	"testing"

	"davit/api"
	"davit/made"
)

var jump, branch, invoke, of, landing, row, notThere = made.Jump, made.Branch, made.Invoke, made.Of, made.Landing, made.Row, made.NotThere

var ret = api.End{Kind: api.Ret}

func loop(head int, blocks ...int) api.Loop { return api.Loop{Head: head, Blocks: blocks} }

func same(a, b []api.Loop) bool {
	return slices.EqualFunc(a, b, func(a, b api.Loop) bool { return a.Head == b.Head && slices.Equal(a.Blocks, b.Blocks) })
}

// looped is a function and its loops.
type looped struct {
	name string
	f    api.Func
	want []api.Loop
}

func cases() []looped {
	return []looped{
		{"no block", api.Func{}, nil},
		{"an empty list of blocks", api.Func{Regs: 1, Blocks: []api.Block{}}, nil},
		{"one block that only answers", of(ret), nil},
		{"one that throws", of(api.End{Kind: api.Throw}), nil},
		{"one that goes where nothing is", of(branch(-1, 1)), nil},
		{"one that goes to itself", of(jump(0)), []api.Loop{loop(0, 0)}},
		{"one that goes to itself twice", of(branch(0, 0)), []api.Loop{loop(0, 0)}},
		{"one that goes to itself, or where nothing is", of(branch(7, 0)), []api.Loop{loop(0, 0)}},
		{"the chapter's", of(jump(1), branch(1, 2), ret), []api.Loop{loop(1, 1)}},
		{"the chapter's, the other way", of(jump(1), branch(2, 1), ret), []api.Loop{loop(1, 1)}},
		{"a row", of(jump(1), jump(2), jump(3), ret), nil},
		{"ways to greater numbers alone", of(branch(1, 3), branch(2, 4), branch(3, 4), invoke(4, 5), branch(5, 5), ret), nil},
		{"a row whose numbers fall", of(jump(3), ret, jump(1), jump(2)), nil},
		{"ways to lower numbers, and none back", of(branch(3, 2), ret, jump(1), branch(2, 1)), nil},
		{"two that meet", of(branch(1, 2), jump(3), jump(3), ret), nil},
		{"back from the last one to the first", of(jump(1), jump(2), jump(0)), []api.Loop{loop(0, 0, 1, 2)}},
		{"back from the last one to the second", of(jump(1), jump(2), jump(1)), []api.Loop{loop(1, 1, 2)}},
		{"back from the last one to itself", of(jump(1), jump(2), jump(2)), []api.Loop{loop(2, 2)}},
		{"block 0 a head, and out", of(branch(1, 2), jump(0), ret), []api.Loop{loop(0, 0, 1)}},
		{"block 0 a head by two ways", of(branch(1, 2), jump(0), branch(0, 3), ret), []api.Loop{loop(0, 0, 1, 2)}},
		{"two ways back to one head", of(jump(1), branch(2, 3), jump(1), branch(1, 4), ret), []api.Loop{loop(1, 1, 2, 3)}},
		{"two ways back to one head, one from the other's way", of(jump(1), jump(2), branch(1, 3), jump(1)), []api.Loop{loop(1, 1, 2, 3)}},
		{"back to itself and from another one", of(jump(1), branch(1, 2), branch(1, 3), ret), []api.Loop{loop(1, 1, 2)}},
		{"two ways within that meet", of(jump(1), branch(2, 3), jump(4), jump(4), branch(1, 5), ret), []api.Loop{loop(1, 1, 2, 3, 4)}},
		{"a way out from within", of(jump(1), branch(2, 4), branch(3, 5), jump(1), ret, ret), []api.Loop{loop(1, 1, 2, 3)}},
		{"out to one that the head stands over", of(jump(1), jump(2), branch(1, 3), jump(4), ret), []api.Loop{loop(1, 1, 2)}},
		{"a loop in a loop", of(jump(1), jump(2), branch(2, 3), branch(1, 4), ret), []api.Loop{loop(1, 1, 2, 3), loop(2, 2)}},
		{"a loop in a loop, of two blocks", of(jump(1), jump(2), jump(3), branch(2, 4), branch(1, 5), ret), []api.Loop{loop(1, 1, 2, 3, 4), loop(2, 2, 3)}},
		{"a loop in a loop, both back from one", of(jump(1), jump(2), branch(1, 2)), []api.Loop{loop(1, 1, 2), loop(2, 2)}},
		{"a loop in a loop, back from within the inner one", of(jump(1), jump(2), branch(3, 1), jump(2)), []api.Loop{loop(1, 1, 2, 3), loop(2, 2, 3)}},
		{"a loop in a loop in block 0's", of(jump(1), jump(2), branch(2, 3), branch(1, 4), branch(0, 5), ret), []api.Loop{loop(0, 0, 1, 2, 3, 4), loop(1, 1, 2, 3), loop(2, 2)}},
		{"two loops in one", of(jump(1), branch(2, 3), branch(2, 4), branch(3, 4), branch(1, 5), ret), []api.Loop{loop(1, 1, 2, 3, 4), loop(2, 2), loop(3, 3)}},
		{"two loops side by side", of(branch(1, 2), branch(1, 3), branch(2, 3), ret), []api.Loop{loop(1, 1), loop(2, 2)}},
		{"two loops one behind the other", of(jump(1), branch(2, 3), jump(1), branch(4, 5), jump(3), ret), []api.Loop{loop(1, 1, 2), loop(3, 3, 4)}},
		{"two loops, the one behind of lower numbers", of(jump(3), branch(2, 5), jump(1), branch(4, 1), jump(3), ret), []api.Loop{loop(1, 1, 2), loop(3, 3, 4)}},
		{"two ways into a circle of two", of(branch(1, 2), jump(2), jump(1)), nil},
		{"two ways into a circle of three", of(branch(1, 3), jump(2), jump(3), jump(1)), nil},
		{"two ways into a circle, one of which goes to itself", of(branch(1, 2), branch(1, 2), jump(1)), []api.Loop{loop(1, 1)}},
		{"two ways into a circle in a loop", of(branch(1, 2), jump(2), branch(1, 0)), []api.Loop{loop(0, 0, 1, 2)}},
		{"a loop beside a circle with two ways in", of(branch(1, 2), jump(2), branch(1, 3), branch(3, 4), ret), []api.Loop{loop(3, 3)}},
		{"a head to which another one leads that isn't over it", of(branch(1, 3), branch(1, 2), jump(3), jump(1)), []api.Loop{loop(1, 1)}},
		{"a circle that isn't reached", of(ret, jump(2), jump(1)), nil},
		{"one that isn't reached, and goes to itself", of(ret, jump(1)), nil},
		{"one that isn't reached leads back", of(jump(1), ret, jump(1)), nil},
		{"one that isn't reached leads into a loop", of(jump(1), jump(2), branch(1, 4), jump(2), ret), []api.Loop{loop(1, 1, 2)}},
		{"a circle that isn't reached leads to a head", of(jump(1), branch(1, 2), ret, branch(4, 1), jump(3)), []api.Loop{loop(1, 1)}},
		{"back by a Pad alone", landing(of(jump(1), invoke(2, 1), ret), 1), []api.Loop{loop(1, 1)}},
		{"back by a Pad alone, from another one", landing(of(invoke(3, 1), jump(2), invoke(3, 1), ret), 1), []api.Loop{loop(1, 1, 2)}},
		{"back by a Pad alone, to one that isn't Landing", of(jump(1), invoke(2, 1), ret), []api.Loop{loop(1, 1)}},
		{"back by an Invoke's To alone", landing(of(jump(1), invoke(1, 2), ret), 2), []api.Loop{loop(1, 1)}},
		{"a Pad within", landing(of(jump(1), invoke(3, 2), jump(1), ret), 2), []api.Loop{loop(1, 1, 2)}},
		{"a Pad, and on to its To", landing(of(invoke(1, 2), ret, jump(1)), 2), nil},
		{"a head of greater number than its blocks", of(jump(3), ret, branch(3, 1), jump(2)), []api.Loop{loop(3, 2, 3)}},
		{"heads of greater numbers, one in the other", of(jump(5), ret, branch(5, 1), branch(4, 2), jump(3), jump(4)), []api.Loop{loop(4, 3, 4), loop(5, 2, 3, 4, 5)}},
		{"a head between its blocks", of(jump(2), branch(2, 4), branch(3, 4), jump(1), ret), []api.Loop{loop(2, 1, 2, 3)}},
		{"not by what an end doesn't use", of(jump(1), api.End{Kind: api.Jump, To: 2, Else: 1, Pad: 1}, api.End{Kind: api.Ret, To: 1, Else: 1, Pad: 1}), nil},
		{"not by ends that are none", of(jump(1), api.End{Kind: 7, To: 1, Else: 1, Pad: 1}), nil},
	}
}

func TestAll(t *testing.T) {
	for _, c := range cases() {
		if got := All(c.f); !same(got, c.want) {
			t.Errorf("%s: %+v, not %+v", c.name, got, c.want)
		}
	}
}

func TestDeepIsInHowManyLoops(t *testing.T) {
	for _, c := range cases() {
		for n := range c.f.Blocks {
			want := 0
			for _, l := range c.want {
				if slices.Contains(l.Blocks, n) {
					want++
				}
			}
			if got := Deep(c.f, n); got != want {
				t.Errorf("%s: block %d: %d, not %d", c.name, n, got, want)
			}
		}
		for _, n := range notThere(c.f) {
			if got := Deep(c.f, n); got != 0 {
				t.Errorf("%s: block %d, which isn't there: %d", c.name, n, got)
			}
		}
	}
}

func TestDeep(t *testing.T) {
	for _, c := range []struct {
		name string
		f    api.Func
		want []int
	}{
		{"one that answers", of(ret), []int{0}},
		{"one that goes to itself", of(jump(0)), []int{1}},
		{"the chapter's", of(jump(1), branch(1, 2), ret), []int{0, 1, 0}},
		{"two ways back to one head", of(jump(1), branch(2, 3), jump(1), branch(1, 4), ret), []int{0, 1, 1, 1, 0}},
		{"a loop in a loop", of(jump(1), jump(2), branch(2, 3), branch(1, 4), ret), []int{0, 1, 2, 1, 0}},
		{"three, one in the other", of(jump(1), jump(2), jump(3), branch(3, 4), branch(2, 5), branch(1, 6), ret), []int{0, 1, 2, 3, 2, 1, 0}},
		{"three, all back from one", of(jump(1), jump(2), branch(3, 2), branch(1, 0)), []int{1, 2, 3, 2}},
		{"two side by side in one", of(branch(1, 2), branch(1, 3), branch(2, 3), branch(0, 4), ret), []int{1, 2, 2, 1, 0}},
		{"one that isn't reached, and goes to itself", of(ret, jump(1)), []int{0, 0}},
		{"one that isn't reached leads into a loop", of(jump(1), branch(1, 2), ret, jump(1)), []int{0, 1, 0, 0}},
		{"two ways into a circle", of(branch(1, 2), jump(2), jump(1)), []int{0, 0, 0}},
	} {
		for n, want := range c.want {
			if got := Deep(c.f, n); got != want {
				t.Errorf("%s: block %d: %d, not %d", c.name, n, got, want)
			}
		}
	}
}

// A goal that isn't there goes back nowhere, and is in no loop, though it is named.
func TestWhatIsNamedAndIsNotThereIsInNoLoop(t *testing.T) {
	for _, n := range notThere(of(ret, ret, ret)) {
		f := of(branch(1, n), invoke(2, n), branch(n, 1))
		if got := All(f); !same(got, []api.Loop{loop(1, 1, 2)}) {
			t.Errorf("%d: %+v", n, got)
		}
		if got := Deep(f, n); got != 0 {
			t.Errorf("%d: %d", n, got)
		}
	}
}
