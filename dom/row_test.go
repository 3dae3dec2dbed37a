package dom

import (
	"slices"
	"testing"

	"davit/api"
)

// Rows of as many blocks as there may be, and more: each block leads to the one behind it, the last one nowhere.
func TestRows(t *testing.T) {
	for _, count := range []int{2, 3, api.MaxBlocks - 1, api.MaxBlocks, api.MaxBlocks + 1, 1000, 100000} {
		last := count - 1
		for name, end := range map[string]func(n int) api.End{
			"a row":                            func(n int) api.End { return jump(n + 1) },
			"each back to itself":              func(n int) api.End { return branch(n+1, n) },
			"each back to the one ahead of it": func(n int) api.End { return branch(n+1, n-1) },
			"each back to block 0":             func(n int) api.End { return branch(0, n+1) },
			"each back to block 1":             func(n int) api.End { return invoke(1, n+1) },
			"each to one that isn't there":     func(n int) api.End { return invoke(n+1, count) },
		} {
			if f := row(count, end); !slices.Equal(Over(f), numbers(count)) {
				t.Errorf("%s, of %d blocks: over are not those ahead", name, count)
			}
		}
		f := row(count, func(n int) api.End { return jump(n + 1) })
		f.Blocks[last].End = branch(count/2, 1)
		if !Is(f, count/2, last) || !Is(f, 0, last) || Is(f, last, count/2) != (last == count/2) {
			t.Errorf("%d blocks: which stands over which", count)
		}
		for _, n := range []int{1, count / 2} {
			if got, want := Edge(f, n), slices.Compact([]int{1, n}); !slices.Equal(got, want) {
				t.Errorf("%d blocks: the edge of %d is %v, not %v", count, n, got, want)
			}
		}
	}
}

// numbers from -1 on.
func numbers(count int) []int {
	list := make([]int, count)
	for n := range list {
		list[n] = n - 1
	}
	return list
}

func TestARowWhoseNumbersFall(t *testing.T) {
	const count = 100000
	f := row(count, func(n int) api.End { return branch(n-1, n-1) })
	f.Blocks[0].End = jump(count - 1)
	f.Blocks[count-1].End = jump(count - 2)
	want := make([]int, count)
	for n := range want {
		want[n] = n + 1
	}
	want[0], want[count-1] = -1, 0
	if got := Over(f); !slices.Equal(got, want) {
		t.Errorf("over are %v and so on, not %v", got[:4], want[:4])
	}
	if !Is(f, count-1, 1) || !Is(f, count/2, 1) || Is(f, 1, 2) {
		t.Error("which stands over which")
	}
	f.Blocks[1].End = branch(count/2, count-1)
	if got := Edge(f, count/2); !slices.Equal(got, []int{count / 2, count - 1}) {
		t.Errorf("the edge of the one in the middle is %v", got)
	}
}

// Each of a row leads to the last one, too: over that stands the first one alone.
func TestARowWithAWayOutOfEach(t *testing.T) {
	for _, count := range []int{3, api.MaxBlocks, 1000, 100000} {
		last := count - 1
		want := numbers(count)
		want[last] = 0
		for name, end := range map[string]func(n int) api.End{
			"the last one first":  func(n int) api.End { return branch(last, n+1) },
			"the last one second": func(n int) api.End { return branch(n+1, last) },
			"the last one a Pad":  func(n int) api.End { return invoke(n+1, last) },
		} {
			f := row(count, end)
			if got := Over(f); !slices.Equal(got, want) {
				t.Errorf("%s, %d blocks: over the last one stands %d", name, count, got[last])
			}
			if got := Edge(f, 1); !slices.Equal(got, []int{last}) {
				t.Errorf("%s, %d blocks: the edge of 1 is %v", name, count, got)
			}
		}
	}
}

// Two rows side by side, each block of which leads to the one behind it in both: over each of them stands block 0 alone.
func TestRowsSideBySide(t *testing.T) {
	const count = 20001
	f := of(make([]api.End, count)...)
	for n := range f.Blocks {
		last := n + n%2 // of its pair
		f.Blocks[n].End = branch(last+1, last+2)
	}
	want := make([]int, count)
	want[0] = -1
	if got := Over(f); !slices.Equal(got, want) {
		t.Errorf("over are %v and so on", got[:8])
	}
	if got := Edge(f, 0); len(got) != 0 {
		t.Errorf("the edge of 0 is %v", got)
	}
	if got := Edge(f, 2); !slices.Equal(got, []int{3, 4}) {
		t.Errorf("the edge of 2 is %v", got)
	}
}
