package calls

import (
	"slices"

	"davit/api"
	"davit/walk"
)

// web has of each function those that it calls, and those that call it.
type web struct {
	calls, callers [][]int
}

func webOf(m api.Module) web {
	w := web{calls: make([][]int, len(m.Funcs)), callers: make([][]int, len(m.Funcs))}
	for n := range m.Funcs {
		w.calls[n] = Of(m, n)
		for _, k := range w.calls[n] {
			w.callers[k] = append(w.callers[k], n)
		}
	}
	return w
}

// groups rise by their least numbers.
//
// Where one group comes to another one, the walk leaves one of its own functions behind all of the other one's. So the groups that come to the one of the function left last are found ahead of it, and going from there to callers leads to no others.
func (w web) groups() [][]int {
	var groups [][]int
	met := make([]bool, len(w.calls))
	for _, n := range slices.Backward(w.left()) {
		if !met[n] {
			groups = append(groups, w.back(n, met))
		}
	}
	slices.SortFunc(groups, slices.Compare[[]int])
	return groups
}

// back are the functions that come to n, and n, but for those that were met already; they are met then.
func (w web) back(n int, met []bool) []int {
	met[n] = true
	list := []int{n}
	for at := 0; at < len(list); at++ {
		for _, k := range w.callers[list[at]] {
			if !met[k] {
				met[k] = true
				list = append(list, k)
			}
		}
	}
	slices.Sort(list)
	return list
}

// left are all functions, as a walk from callers to those that they call leaves them.
func (w web) left() []int {
	all := make([]int, len(w.calls))
	for n := range all {
		all[n] = n
	}
	return walk.Left(len(all), all, func(n int) []int { return w.calls[n] })
}
