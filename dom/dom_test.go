package dom

import (
	"math"
	"slices"
	"testing"

	"davit/api"
	"davit/made"
)

var jump, branch, invoke, of, landing, row, notThere = made.Jump, made.Branch, made.Invoke, made.Of, made.Landing, made.Row, made.NotThere

var ret = api.End{Kind: api.Ret}

var chapters = of(branch(1, 2), jump(3), jump(3), ret)

func TestOver(t *testing.T) {
	for _, c := range []struct {
		name string
		f    api.Func
		want []int
	}{
		{"no block", api.Func{}, nil},
		{"an empty list of blocks", api.Func{Blocks: []api.Block{}}, nil},
		{"one block", of(ret), []int{-1}},
		{"one that goes to itself", of(jump(0)), []int{-1}},
		{"one that goes to itself twice", of(branch(0, 0)), []int{-1}},
		{"one that goes where nothing is", of(branch(-1, 1)), []int{-1}},
		{"the chapter's", chapters, []int{-1, 0, 0, 0}},
		{"the chapter's, the other way", of(branch(2, 1), jump(3), jump(3), ret), []int{-1, 0, 0, 0}},
		{"a row", of(jump(1), jump(2), jump(3), ret), []int{-1, 0, 1, 2}},
		{"a row whose numbers fall", of(jump(3), ret, jump(1), jump(2)), []int{-1, 2, 3, 0}},
		{"numbers that rise and fall", of(jump(2), branch(4, 3), jump(1), jump(4), ret), []int{-1, 2, 0, 1, 1}},
		{"a way round one", of(branch(1, 2), jump(2), ret), []int{-1, 0, 0}},
		{"a way round two", of(jump(1), branch(2, 4), jump(3), jump(4), ret), []int{-1, 0, 1, 2, 1}},
		{"to one twice", of(branch(1, 1), ret), []int{-1, 0}},
		{"back to one over it", of(jump(1), jump(2), branch(1, 3), ret), []int{-1, 0, 1, 2}},
		{"back, and on behind that", of(jump(1), branch(2, 3), jump(1), ret), []int{-1, 0, 1, 1}},
		{"back to block 0", of(jump(1), branch(0, 2), ret), []int{-1, 0, 1}},
		{"to itself", of(jump(1), branch(1, 2), ret), []int{-1, 0, 1}},
		{"two ways into a circle of two", of(branch(1, 2), jump(2), jump(1)), []int{-1, 0, 0}},
		{"two ways into a circle of three", of(branch(1, 3), jump(2), jump(3), jump(1)), []int{-1, 0, 1, 0}},
		{"two ways into a circle, and on", of(jump(1), branch(2, 3), branch(3, 4), jump(2), ret), []int{-1, 0, 1, 1, 2}},
		{"circles with ways in at each", of(branch(1, 2), jump(3), branch(4, 5), jump(4), branch(3, 5), jump(4)), []int{-1, 0, 0, 0, 0, 0}},
		{"a block that isn't reached leads in", of(jump(1), ret, jump(1)), []int{-1, 0, -1}},
		{"it leads in behind a row", of(jump(1), jump(2), ret, branch(2, 0)), []int{-1, 0, 1, -1}},
		{"a circle that isn't reached leads in", of(jump(1), ret, jump(3), branch(2, 1)), []int{-1, 0, -1, -1}},
		{"block 0 alone is reached", of(ret, jump(2), jump(1)), []int{-1, -1, -1}},
		{"by a Pad alone", landing(of(invoke(1, 2), ret, ret), 2), []int{-1, 0, 0}},
		{"by a Pad alone, behind a row", landing(of(jump(1), invoke(3, 2), jump(4), ret, ret), 2), []int{-1, 0, 1, 1, 2}},
		{"by To and by Pad", landing(of(invoke(1, 2), jump(3), jump(3), ret), 2), []int{-1, 0, 0, 0}},
		{"by a Pad that isn't Landing", of(invoke(1, 2), ret, ret), []int{-1, 0, 0}},
		{"by the Pads of two", landing(of(invoke(1, 2), invoke(3, 2), ret, ret), 2), []int{-1, 0, 0, 1}},
		{"goals that aren't there", of(branch(-1, 1), branch(2, 3), invoke(7, math.MaxInt)), []int{-1, 0, 1}},
		{"not by what an end doesn't use", of(jump(1), api.End{Kind: api.Ret, To: 2, Else: 2, Pad: 2}, ret), []int{-1, 0, -1}},
		{"ends that are none", of(api.End{Kind: 7, To: 1}, api.End{To: 0}), []int{-1, -1}},
	} {
		if got := Over(c.f); !slices.Equal(got, c.want) {
			t.Errorf("%s: %v, not %v", c.name, got, c.want)
		}
	}
}

// Those that stand over each block, in words for each block.
func TestIs(t *testing.T) {
	for _, c := range []struct {
		name string
		f    api.Func
		want [][]int
	}{
		{"one block", of(ret), [][]int{{0}}},
		{"one that goes to itself", of(jump(0)), [][]int{{0}}},
		{"the chapter's", chapters, [][]int{{0}, {0, 1}, {0, 2}, {0, 3}}},
		{"a row", of(jump(1), jump(2), ret), [][]int{{0}, {0, 1}, {0, 1, 2}}},
		{"a row whose numbers fall", of(jump(2), ret, jump(1)), [][]int{{0}, {0, 1, 2}, {0, 2}}},
		{"back to one over it", of(jump(1), jump(2), branch(1, 3), ret), [][]int{{0}, {0, 1}, {0, 1, 2}, {0, 1, 2, 3}}},
		{"back to block 0", of(jump(1), jump(0)), [][]int{{0}, {0, 1}}},
		{"two ways into a circle", of(branch(1, 2), jump(2), jump(1)), [][]int{{0}, {0, 1}, {0, 2}}},
		{"one that isn't reached", of(jump(1), ret, jump(1)), [][]int{{0}, {0, 1}, nil}},
		{"one that isn't reached, and goes to itself", of(ret, jump(1)), [][]int{{0}, nil}},
		{"by a Pad alone", landing(of(invoke(1, 2), ret, jump(3), ret), 2), [][]int{{0}, {0, 1}, {0, 2}, {0, 2, 3}}},
		{"no block", api.Func{}, nil},
	} {
		for b := range c.f.Blocks {
			for a := range c.f.Blocks {
				if got, want := Is(c.f, a, b), slices.Contains(c.want[b], a); got != want {
					t.Errorf("%s: %d over %d: %v, not %v", c.name, a, b, got, want)
				}
			}
			for _, n := range notThere(c.f) {
				if Is(c.f, n, b) || Is(c.f, b, n) {
					t.Errorf("%s: %d over %d, or the other way", c.name, n, b)
				}
			}
		}
		for _, n := range notThere(c.f) {
			if Is(c.f, n, n) || Is(c.f, n, -1) || Is(c.f, -1, n) || Is(c.f, n, len(c.f.Blocks)) || Is(c.f, len(c.f.Blocks), n) {
				t.Errorf("%s: %d over one that isn't there, or the other way", c.name, n)
			}
		}
	}
}

func TestEdge(t *testing.T) {
	for _, c := range []struct {
		name string
		f    api.Func
		want [][]int
	}{
		{"one block", of(ret), [][]int{nil}},
		{"one that goes to itself", of(jump(0)), [][]int{{0}}},
		{"one that goes to itself twice", of(branch(0, 0)), [][]int{{0}}},
		{"the chapter's", chapters, [][]int{nil, {3}, {3}, nil}},
		{"a row", of(jump(1), jump(2), ret), [][]int{nil, nil, nil}},
		{"back to block 0", of(jump(1), branch(0, 2), ret), [][]int{{0}, {0}, nil}},
		{"back to one over it", of(jump(1), jump(2), branch(1, 3), ret), [][]int{nil, {1}, {1}, nil}},
		{"to itself", of(jump(1), branch(1, 2), ret), [][]int{nil, {1}, nil}},
		{"two circles, one in the other", of(jump(1), jump(2), branch(2, 3), branch(1, 4), ret), [][]int{nil, {1}, {1, 2}, {1}, nil}},
		{"two ways into a circle", of(branch(1, 2), jump(2), jump(1)), [][]int{nil, {2}, {1}}},
		{"rising, from falling ones", of(branch(4, 5), ret, jump(1), ret, branch(3, 2), branch(3, 2)), [][]int{nil, nil, {}, nil, {2, 3}, {2, 3}}},
		{"none twice", of(branch(1, 4), branch(2, 3), jump(4), jump(4), ret), [][]int{nil, {4}, {4}, {4}, nil}},
		{"from far below", of(branch(1, 5), jump(2), jump(3), jump(4), jump(5), ret), [][]int{nil, {5}, {5}, {5}, {5}, nil}},
		{"one that isn't reached", of(jump(1), ret, jump(1)), [][]int{nil, nil, nil}},
		{"one that isn't reached, and goes to itself", of(ret, branch(1, 0)), [][]int{nil, nil}},
		{"by Pads", landing(of(invoke(1, 3), invoke(2, 3), ret, jump(2)), 3), [][]int{nil, {2, 3}, nil, {2}}},
		{"goals that aren't there", of(branch(1, 2), branch(-1, 2), branch(9, 1)), [][]int{nil, {2}, {1}}},
		{"no block", api.Func{}, nil},
	} {
		for n := range c.f.Blocks {
			if got := Edge(c.f, n); !slices.Equal(got, c.want[n]) {
				t.Errorf("%s: the edge of %d is %v, not %v", c.name, n, got, c.want[n])
			}
		}
		for _, n := range notThere(c.f) {
			if got := Edge(c.f, n); len(got) != 0 {
				t.Errorf("%s: the edge of %d is %v", c.name, n, got)
			}
		}
	}
}

// A block that isn't there has no edge, though it is named.
func TestWhatIsNamedAndIsNotThereIsNowhere(t *testing.T) {
	for _, n := range notThere(of(ret, ret, ret)) {
		f := of(branch(1, n), invoke(2, n), invoke(n, 1))
		if got := Over(f); !slices.Equal(got, []int{-1, 0, 1}) {
			t.Errorf("%d: over are %v", n, got)
		}
		if got := Edge(f, 1); !slices.Equal(got, []int{1}) {
			t.Errorf("%d: the edge of 1 is %v", n, got)
		}
		if got := Edge(f, n); len(got) != 0 || Is(f, n, n) || Is(f, 0, n) || Is(f, n, 0) {
			t.Errorf("%d: its edge is %v, or it stands over one, or one over it", n, got)
		}
	}
}
