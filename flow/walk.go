package flow

import "davit/api"

// walk goes through a function in depth.
//
// It keeps its way as a list instead of as calls within calls: a function that may not be can have any number of blocks in a row.
type walk struct {
	f    api.Func
	into []bool  // which blocks were gone into
	way  []visit // to the block at which it stands
	left []int   // the blocks that were left, the last one last
}

// visit of a block: open is what is next to it and was not looked at yet.
type visit struct {
	block int
	open  []int
}

func (w *walk) enter(n int) {
	w.into[n] = true
	w.way = append(w.way, visit{block: n, open: Next(w.f, n)})
}

func (w *walk) leave() {
	last := len(w.way) - 1
	w.left = append(w.left, w.way[last].block)
	w.way = w.way[:last]
}

// step looks at one more of what is next, or leaves where nothing is.
func (w *walk) step() {
	v := &w.way[len(w.way)-1]
	if len(v.open) == 0 {
		w.leave()
		return
	}
	n := v.open[0]
	v.open = v.open[1:]
	if !w.into[n] {
		w.enter(n)
	}
}
