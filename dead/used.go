package dead

import (
	"iter"

	"davit/api"
	"davit/walk"
)

// calls of a function: where the number of the one that is called stands, so that it can be named anew there.
func calls(f api.Func) iter.Seq[*int] {
	return func(yield func(*int) bool) {
		for i := range f.Blocks {
			b := &f.Blocks[i]
			for j := range b.Ins {
				if b.Ins[j].Op == api.Call && !yield(&b.Ins[j].F) {
					return
				}
			}
			if b.End.Kind == api.Invoke && !yield(&b.End.F) {
				return
			}
		}
	}
}

// usedOf functions: which is function 0, or one to which that one comes?
func usedOf(funcs []api.Func) []bool {
	used := make([]bool, len(funcs))
	for _, n := range walk.Left(len(funcs), []int{0}, func(n int) []int { return calledBy(funcs[n]) }) {
		used[n] = true
	}
	return used
}

func calledBy(f api.Func) []int {
	var list []int
	for called := range calls(f) {
		list = append(list, *called)
	}
	return list
}
