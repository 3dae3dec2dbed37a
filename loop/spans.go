package loop

import (
	"slices"

	"davit/api"
	"davit/dom"
)

// spans has the blocks that are reached in a row in which all that one stands over lie together, it first: dom.Is would reckon anew for each pair of blocks who stands over whom.
type spans struct {
	first []int // where each one stands in the row
	count []int // how many it stands over, itself as well
}

// spansOf needs the blocks in order (flow.Order): there each stands behind the one next over it.
func spansOf(f api.Func, order []int) spans {
	over, all := dom.Over(f), len(f.Blocks)
	s := spans{first: make([]int, all), count: make([]int, all)}
	for _, n := range slices.Backward(order) {
		s.count[n]++
		if n != 0 {
			s.count[over[n]] += s.count[n]
		}
	}
	free := make([]int, all) // where those over which each stands next go on
	for _, n := range order {
		if n != 0 {
			s.first[n] = free[over[n]]
			free[over[n]] += s.count[n]
		}
		free[n] = s.first[n] + 1
	}
	return s
}

// isOver: does a stand over b? Both are reached.
func (s spans) isOver(a, b int) bool {
	return s.first[a] <= s.first[b] && s.first[b] < s.first[a]+s.count[a]
}
