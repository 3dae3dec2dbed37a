// Package walk goes through things in depth, from each to those that are next to it.
package walk

// Left are the numbers of the things, as a walk leaves them, from each of these on that it didn't come to yet: what is next in order, and what was gone into already not again.
func Left(count int, from []int, next func(n int) []int) []int {
	w := walk{next: next, into: make([]bool, count)}
	for _, n := range from {
		w.enter(n)
		for len(w.way) > 0 {
			w.step()
		}
	}
	return w.left
}

// walk keeps its way as a list instead of as calls within calls: any number of things can stand in a row.
type walk struct {
	next func(n int) []int
	into []bool  // which were gone into
	way  []visit // to where it stands
	left []int   // those that were left, the last one last
}

// visit of n: open is what is next to it and was not looked at yet.
type visit struct {
	n    int
	open []int
}

func (w *walk) enter(n int) {
	if !w.into[n] {
		w.into[n] = true
		w.way = append(w.way, visit{n: n, open: w.next(n)})
	}
}

func (w *walk) leave() {
	last := len(w.way) - 1
	w.left = append(w.left, w.way[last].n)
	w.way = w.way[:last]
}

// step looks at one more of what is next, or leaves where nothing is.
func (w *walk) step() {
	v := &w.way[len(w.way)-1]
	if len(v.open) == 0 {
		w.leave()
		return
	}
	n := v.open[0]
	v.open = v.open[1:]
	w.enter(n)
}
