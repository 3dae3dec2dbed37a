package made

import "davit/api"

// Jump to a block.
func Jump(to int) api.End { return api.End{Kind: api.Jump, To: to} }

// Branch to two blocks.
func Branch(to, other int) api.End { return api.End{Kind: api.Branch, To: to, Else: other} }

// Invoke of function 0.
func Invoke(to, pad int) api.End { return api.End{Kind: api.Invoke, To: to, Pad: pad} }

// Of is a function of blocks that end so.
func Of(ends ...api.End) api.Func {
	f := api.Func{Regs: 1, Blocks: make([]api.Block, len(ends))}
	for n, end := range ends {
		f.Blocks[n].End = end
	}
	return f
}

// Landing is the function, changed: these blocks are Landing.
func Landing(f api.Func, pads ...int) api.Func {
	for _, n := range pads {
		f.Blocks[n].Landing, f.Blocks[n].Pad.All = true, true
	}
	return f
}

// Ends of a function of so many blocks: one that leads nowhere, and each that leads to one or two blocks that are there, or to one that isn't, instead.
func Ends(count int) []api.End {
	ends := []api.End{{Kind: api.Ret}, Jump(count), Branch(-1, count)}
	for to := range count {
		ends = append(ends, Jump(to), Branch(to, -1), Invoke(count, to))
		for other := range count {
			ends = append(ends, Branch(to, other), Invoke(to, other))
		}
	}
	return ends
}
