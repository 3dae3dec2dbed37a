package dom

import (
	"slices"

	"davit/api"
	"davit/flow"
)

// ranks has the blocks that are reached, each by its rank, which is its number in order (flow.Order).
//
// Each but block 0 was gone into from one of lower rank. So a way leads to it through lower ranks alone, and all others over it are of lower rank.
type ranks struct {
	blocks []int
	before [][]int // those to which each one is next, rising
	over   []int   // of each one but 0 one of lower rank: going on from there to that one's, and so on, all others over it are met
}

// rank begins with the lowest one before each: that is of lower rank, and from one before it to the next one leads a way, on which all are that stand over it.
func rank(f api.Func) ranks {
	blocks := flow.Order(f)
	r := ranks{blocks: blocks, before: before(f, blocks), over: make([]int, len(blocks))}
	for n := 1; n < len(blocks); n++ {
		r.over[n] = r.before[n][0]
	}
	return r
}

// before asks each block once what is next to it: flow.Before would ask all of them for each.
func before(f api.Func, blocks []int) [][]int {
	of := make([]int, len(f.Blocks))
	for n, block := range blocks {
		of[block] = n
	}
	list := make([][]int, len(blocks))
	for n, block := range blocks {
		for _, next := range flow.Next(f, block) {
			list[of[next]] = append(list[of[next]], n)
		}
	}
	return list
}

// settle holds each one against all before it, and tells whether that changed anything.
//
// It only ever lowers, so that once nothing is changed any more. Then what is met from a block on is met from each one before it, too, or is that one: so it is on every way.
func (r ranks) settle() bool {
	changed := false
	for n := 1; n < len(r.over); n++ {
		if over := r.all(r.before[n]); over != r.over[n] {
			r.over[n] = over
			changed = true
		}
	}
	return changed
}

// all is the highest one that is met from all of these on. It begins with the highest of them: where each of a long row leads to a block, the row is gone along once, then, and not once from each.
func (r ranks) all(list []int) int {
	over := list[len(list)-1]
	for _, n := range slices.Backward(list) {
		over = r.both(over, n)
	}
	return over
}

// both is the highest one that is met from a and from b on.
func (r ranks) both(a, b int) int {
	for a != b {
		if a > b {
			a = r.over[a]
		} else {
			b = r.over[b]
		}
	}
	return a
}
