package walk

import (
	"slices"
	"testing"
)

func TestLeft(t *testing.T) {
	for _, c := range []struct {
		name string
		next [][]int
		from []int
		want []int
	}{
		{"nothing", nil, nil, nil},
		{"from nowhere", [][]int{{1}, {0}}, nil, nil},
		{"one", [][]int{nil}, []int{0}, []int{0}},
		{"one next to itself", [][]int{{0}}, []int{0}, []int{0}},
		{"a row", [][]int{{1}, {2}, nil}, []int{0}, []int{2, 1, 0}},
		{"a row from its middle", [][]int{{1}, {2}, nil}, []int{1}, []int{2, 1}},
		{"a ring", [][]int{{1}, {2}, {0}}, []int{1}, []int{0, 2, 1}},
		{"what is next in order", [][]int{{2, 1, 3}, nil, nil, nil}, []int{0}, []int{2, 1, 3, 0}},
		{"in depth", [][]int{{1, 3}, {2}, nil, nil}, []int{0}, []int{2, 1, 3, 0}},
		{"what was gone into already", [][]int{{1, 2}, {2}, {1}}, []int{0}, []int{2, 1, 0}},
		{"two that meet", [][]int{{1, 2}, {3}, {3}, nil}, []int{0}, []int{3, 1, 2, 0}},
		{"next more than once", [][]int{{1, 1, 0, 1}, nil}, []int{0}, []int{1, 0}},
		{"from several, in order", [][]int{nil, nil, nil}, []int{2, 0, 1}, []int{2, 0, 1}},
		{"from what was come to", [][]int{{1}, nil, {0, 1}}, []int{0, 1, 2, 0}, []int{1, 0, 2}},
	} {
		was := make([][]int, len(c.next))
		for n, list := range c.next {
			was[n] = slices.Clone(list)
		}
		if got := Left(len(c.next), c.from, func(n int) []int { return c.next[n] }); !slices.Equal(got, c.want) {
			t.Errorf("%s: %v, not %v", c.name, got, c.want)
		}
		if !slices.EqualFunc(c.next, was, slices.Equal[[]int]) {
			t.Errorf("%s: what is next was changed: %v", c.name, c.next)
		}
	}
}

func TestALongRow(t *testing.T) {
	const count = 1 << 21
	left := Left(count, []int{0}, func(n int) []int { return []int{(n + 1) % count} })
	if len(left) != count || left[0] != count-1 || left[count-1] != 0 {
		t.Errorf("%d were left", len(left))
	}
}
