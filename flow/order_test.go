package flow

import (
	"slices"
	"testing"

	"davit/api"
)

// isIn is of each of so many blocks whether it stands in the order.
func isIn(order []int, count int) []bool {
	is := make([]bool, count)
	for n := range is {
		is[n] = slices.Contains(order, n)
	}
	return is
}

func TestOrder(t *testing.T) {
	for _, c := range []struct {
		name string
		f    api.Func
		want []int
	}{
		{"no block", api.Func{}, nil},
		{"an empty list of blocks", api.Func{Params: 1, Regs: 3, Blocks: []api.Block{}}, nil},
		{"one that answers", of(ret), []int{0}},
		{"one that throws", of(api.End{Kind: api.Throw}), []int{0}},
		{"one of no kind", of(all(0, 0, 0, 0)), []int{0}},
		{"one that goes to itself", of(jump(0)), []int{0}},
		{"block 0 alone", of(ret, jump(0), jump(1)), []int{0}},
		{"the chapter's", of(branch(1, 2), jump(3), jump(3), ret), []int{0, 2, 1, 3}},
		{"the chapter's, the other way", of(branch(2, 1), jump(3), jump(3), ret), []int{0, 1, 2, 3}},
		{"in a row", of(jump(1), jump(2), jump(3), ret), []int{0, 1, 2, 3}},
		{"in a row backwards", of(jump(3), ret, jump(1), jump(2)), []int{0, 3, 2, 1}},
		{"one by a Pad alone", landing(of(invoke(2, 1), ret, ret), 1), []int{0, 1, 2}},
		{"one by a Pad alone, behind its To", landing(of(invoke(1, 2), ret, ret), 2), []int{0, 2, 1}},
		{"To and Pad to one", landing(of(invoke(1, 2), jump(3), jump(3), ret), 2), []int{0, 2, 1, 3}},
		{"one that nothing leads to, that leads to others", of(jump(2), jump(2), ret, jump(1)), []int{0, 2}},
		{"a ring that nothing leads to", of(ret, jump(2), jump(1)), []int{0}},
		{"back to block 0", of(jump(1), branch(2, 0), ret), []int{0, 1, 2}},
		{"back, and on first", of(jump(1), branch(0, 2), ret), []int{0, 1, 2}},
		{"back to one on the way", of(jump(1), jump(2), branch(1, 3), ret), []int{0, 1, 2, 3}},
		{"to itself and on", of(jump(1), branch(1, 2), ret), []int{0, 1, 2}},
		{"one named twice", of(branch(1, 1), ret), []int{0, 1}},
		{"one named twice, that goes on", of(branch(2, 2), ret, branch(1, 1)), []int{0, 2, 1}},
		{"a way ahead over another one", of(branch(2, 1), jump(2), ret), []int{0, 1, 2}},
		{"a way over another one first", of(branch(1, 2), jump(2), ret), []int{0, 1, 2}},
		{"in depth, not in breadth", of(branch(1, 4), branch(2, 3), ret, ret, branch(5, 6), ret, ret), []int{0, 4, 6, 5, 1, 3, 2}},
		// 2 is seen first from 0, as its Else, but gone into from 1, as its To.
		{"gone into by the deeper one", of(branch(1, 2), branch(2, 3), jump(3), ret), []int{0, 1, 2, 3}},
		{"gone into by the deeper one, backwards", of(branch(1, 3), branch(2, 3), ret, jump(2)), []int{0, 1, 3, 2}},
		{"two entries of one ring", of(branch(1, 2), jump(2), jump(1)), []int{0, 1, 2}},
		{"a goal that isn't there", of(branch(-1, 1), branch(2, 3), jump(4)), []int{0, 1, 2}},
		{"a Pad that isn't there", of(invoke(1, 2), invoke(-1, 0)), []int{0, 1}},
		{"a first block that is Landing", landing(of(jump(1), jump(0)), 0, 1), []int{0, 1}},
	} {
		if got := Order(c.f); !slices.Equal(got, c.want) {
			t.Errorf("%s: %v, not %v", c.name, got, c.want)
		}
		if got, want := Reached(c.f), isIn(c.want, len(c.f.Blocks)); !slices.Equal(got, want) {
			t.Errorf("%s: reached are %v, not %v", c.name, got, want)
		}
	}
}

// As many blocks as there may be, and more.
func TestBlocksInARow(t *testing.T) {
	for _, count := range []int{2, api.MaxBlocks - 1, api.MaxBlocks, api.MaxBlocks + 1, 1000, 200000} {
		f := of(make([]api.End, count)...)
		var want []int
		for n := range f.Blocks {
			f.Blocks[n].End = branch(n+1, n-1)
			want = append(want, n)
		}
		f.Blocks[count-1].End = ret
		if got := Order(f); !slices.Equal(got, want) {
			t.Errorf("%d blocks in a row", count)
		}
		if slices.Contains(Reached(f), false) {
			t.Errorf("%d blocks in a row aren't all reached", count)
		}
		if got := Before(f, count-1); !slices.Equal(got, []int{count - 2}) {
			t.Errorf("%d blocks: before the last one is %v", count, got)
		}
		f.Blocks[count/2-1].End = ret
		if got := Order(f); !slices.Equal(got, want[:count/2]) {
			t.Errorf("%d blocks, of which half are reached", count)
		}
		if got := Reached(f); len(got) != count || slices.Contains(got[:count/2], false) || slices.Contains(got[count/2:], true) {
			t.Errorf("%d blocks, of which not just half are reached", count)
		}
	}
}

// From the last block backwards, each of them named twice.
func TestBlocksInARowBackwards(t *testing.T) {
	const count = 200000
	f := of(make([]api.End, count)...)
	for n := range f.Blocks {
		f.Blocks[n].End = branch(n-1, n-1)
	}
	f.Blocks[0].End = jump(count - 1)
	got := Order(f)
	if len(got) != count || got[0] != 0 || got[1] != count-1 || got[count-1] != 1 {
		t.Fatal("not all of them, from the last one on")
	}
	if !slices.IsSortedFunc(got[1:], func(a, b int) int { return b - a }) {
		t.Error("not one behind the other")
	}
}
