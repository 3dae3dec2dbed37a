package made

import (
	"slices"

	"davit/api"
)

// Frame of function n at this place, with whatever words.
func Frame(m api.Module, n, block, at int) api.Frame {
	f := api.Frame{F: n, Block: block, At: at, Fly: uint16(block)}
	for place := range m.Funcs[n].Regs {
		f.Regs = append(f.Regs, []uint16{0, 1, 5, 2, 65535}[(place+block+at)%5])
	}
	return f
}

// Tower of up to so many frames, this one on top, each other one at a Call or an Invoke of the one above it, which one a number chooses.
func Tower(m api.Module, top api.Frame, height, number int) []api.Frame {
	list := []api.Frame{top}
	for len(list) < height {
		below := callers(m, list[0].F)
		if len(below) == 0 {
			break
		}
		list = slices.Insert(list, 0, below[number%len(below)])
		number = number/2 + 1
	}
	return list
}

// callers are frames, one for each Call and Invoke of function n that there is.
func callers(m api.Module, n int) []api.Frame {
	var list []api.Frame
	for k, f := range m.Funcs {
		for i, b := range f.Blocks {
			for at, x := range b.Ins {
				if x.Op == api.Call && x.F == n {
					list = append(list, Frame(m, k, i, at))
				}
			}
			if b.End.Kind == api.Invoke && b.End.F == n {
				list = append(list, Frame(m, k, i, len(b.Ins)))
			}
		}
	}
	return list
}
