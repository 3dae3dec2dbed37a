package loop

import (
	"iter"
	"slices"

	"davit/api"
	"davit/flow"
)

// nest has a function's loops as they lie one in the other.
//
// Where two loops have a block in common, the head of one stands over the other one's, and that one lies in it whole. So the loops that have a block are a row, from the inmost one outwards.
type nest struct {
	before [][]int // of each block those that are reached and that it is next to
	span   spans
	isHead []bool
	around []int // of each block the head of the inmost loop that has it, a head's own left out; -1: there is none
	outer  []int // of each block itself, or the head of a loop that has it: going on so leads to the outermost one found so far
}

// nestOf gathers the inmost loops first: in order a head stands behind all that stand over it.
func nestOf(f api.Func) nest {
	order, count := flow.Order(f), len(f.Blocks)
	n := nest{
		before: make([][]int, count),
		span:   spansOf(f, order),
		isHead: make([]bool, count),
		around: make([]int, count),
		outer:  make([]int, count),
	}
	for k := range f.Blocks {
		n.around[k], n.outer[k] = -1, k
	}
	for _, k := range order {
		for _, next := range flow.Next(f, k) {
			n.before[next] = append(n.before[next], k)
		}
	}
	for _, k := range slices.Backward(order) {
		n.gather(k)
	}
	return n
}

// goBack are those that go back to a block.
func (n nest) goBack(head int) []int {
	var back []int
	for _, k := range n.before[head] {
		if n.span.isOver(head, k) {
			back = append(back, k)
		}
	}
	return back
}

// gather goes from those that go back to a block backwards, as far as to it. What lies in a loop that was found already is put into this one by that loop's head, so that no block is gone through once for each loop that has it.
func (n nest) gather(head int) {
	open := n.goBack(head)
	n.isHead[head] = len(open) > 0
	for len(open) > 0 {
		last := len(open) - 1
		k := n.outermost(open[last])
		open = open[:last]
		if k != head {
			n.around[k], n.outer[k] = head, head
			open = append(open, n.before[k]...)
		}
	}
}

// outermost is the head of the outermost loop found so far that has a block, or the block itself. It shortens the way that it goes: many may come the same long way.
func (n nest) outermost(k int) int {
	for n.outer[k] != k {
		n.outer[k] = n.outer[n.outer[k]]
		k = n.outer[k]
	}
	return k
}

// heads are those of the loops that have a block, from the inmost one outwards.
func (n nest) heads(k int) iter.Seq[int] {
	return func(yield func(int) bool) {
		head := n.around[k]
		if n.isHead[k] {
			head = k
		}
		for head >= 0 && yield(head) {
			head = n.around[head]
		}
	}
}
