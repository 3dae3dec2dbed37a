package calls

import "container/heap"

// row is the groups, each behind all others to which it comes; of those that may stand next always the one that is handed in first.
func (w web) row(groups [][]int) [][]int {
	callers := w.callersOf(groups)
	waits := make([]int, len(groups)) // of each one how many of its calls lead to groups that don't stand in the row yet
	for _, list := range callers {
		for _, g := range list {
			waits[g]++
		}
	}
	var next queue
	for g, calls := range waits {
		if calls == 0 {
			heap.Push(&next, g)
		}
	}
	var row [][]int
	for len(next) > 0 {
		g := heap.Pop(&next).(int)
		row = append(row, groups[g])
		for _, caller := range callers[g] {
			waits[caller]--
			if waits[caller] == 0 {
				heap.Push(&next, caller)
			}
		}
	}
	return row
}

// callersOf each group are the others whose functions call its functions, each as often as there are two such functions.
func (w web) callersOf(groups [][]int) [][]int {
	of := make([]int, len(w.calls))
	for g, group := range groups {
		for _, n := range group {
			of[n] = g
		}
	}
	callers := make([][]int, len(groups))
	for n, list := range w.calls {
		for _, k := range list {
			if of[n] != of[k] {
				callers[of[k]] = append(callers[of[k]], of[n])
			}
		}
	}
	return callers
}

// queue gives the least of its numbers first. It is a heap, since looking through all of them each time would take steps in the square of how many functions there are.
type queue []int

func (q queue) Len() int           { return len(q) }
func (q queue) Less(i, j int) bool { return q[i] < q[j] }
func (q queue) Swap(i, j int)      { q[i], q[j] = q[j], q[i] }
func (q *queue) Push(x any)        { *q = append(*q, x.(int)) }

func (q *queue) Pop() any {
	last := len(*q) - 1
	n := (*q)[last]
	*q = (*q)[:last]
	return n
}
