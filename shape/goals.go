package shape

import "davit/api"

// Goals of a block's end.
func Goals(b api.Block) []int {
	use := usesOfEnd(b.End.Kind)
	var goals []int
	if use.has(useTo) {
		goals = append(goals, b.End.To)
	}
	if use.has(useElse) {
		goals = append(goals, b.End.Else)
	}
	return goals
}

// Cleans: which blocks does a cleanup lead to?
func Cleans(f api.Func) []bool {
	cleans := make([]bool, len(f.Blocks))
	var open []int
	for n, b := range f.Blocks {
		if b.Landing && b.Pad.Cleanup {
			cleans[n] = true
			open = append(open, n)
		}
	}
	// A list instead of calls within calls: a function that may not be can have any number of blocks in a row.
	for len(open) > 0 {
		n := open[len(open)-1]
		open = open[:len(open)-1]
		for _, goal := range Goals(f.Blocks[n]) {
			if 0 <= goal && goal < len(cleans) && !cleans[goal] {
				cleans[goal] = true
				open = append(open, goal)
			}
		}
	}
	return cleans
}
