package made

import "davit/api"

// maker makes a module's functions, whose Params and Regs are there already.
type maker struct {
	*rule
	funcs []api.Func
}

// Module that may be, of up to 5 functions; among many of them are all ways to end.
func Module(seed uint64) api.Module {
	r := &rule{seed}
	k := maker{r, make([]api.Func, 1+r.below(5))}
	for i := range k.funcs {
		if i > 0 {
			k.funcs[i].Params = r.below(3)
		}
		k.funcs[i].Regs = k.funcs[i].Params + 1 + r.below(3)
	}
	for i, f := range k.funcs {
		k.funcs[i].Blocks = k.blocks(f, 1+r.below(6))
	}
	return api.Module{Funcs: k.funcs}
}

// One function that may be, of so many blocks and places, whose calls suit functions 0 to 2 of as many Params.
func One(seed uint64, blocks, regs int) api.Func {
	f := api.Func{Regs: regs}
	k := maker{&rule{seed}, []api.Func{f, {Params: 1}, {Params: 2}}}
	f.Blocks = k.blocks(f, blocks)
	return f
}

func (k maker) blocks(f api.Func, count int) []api.Block {
	blocks := make([]api.Block, count)
	var goals, pads []int
	for i := range blocks {
		if i > 0 && k.below(5) < 2 {
			blocks[i].Landing, blocks[i].Pad = true, k.pad(f)
			pads = append(pads, i)
		} else {
			goals = append(goals, i)
		}
	}
	for i := range blocks {
		for range k.below(4) {
			blocks[i].Ins = append(blocks[i].Ins, k.ins(f))
		}
		blocks[i].End = k.end(f, goals, pads)
	}
	return blocks
}

func (k maker) pad(f api.Func) api.Pad {
	p := api.Pad{Dst: k.below(f.Regs)}
	switch k.below(5) {
	case 0:
		p.All = true
	case 1, 2:
		p.Catch = []uint16{k.word()}
		p.Cleanup = k.below(2) == 0
	default:
		p.Cleanup = true
	}
	return p
}

func (k maker) call(f api.Func) (int, []int) {
	n := k.below(len(k.funcs))
	return n, k.places(k.funcs[n].Params, f.Regs)
}

// ins is a Const more often than any other: what ends a run, or puts frames on top, is to be rare enough that runs go on.
func (k maker) ins(f api.Func) api.Ins {
	p := k.places(3, f.Regs)
	switch op := k.below(18); op {
	case api.Copy:
		return api.Ins{Op: op, Dst: p[0], A: p[1]}
	case api.Add, api.Sub, api.Mul, api.Eq, api.Lt:
		return api.Ins{Op: op, Dst: p[0], A: p[1], B: p[2]}
	case api.Div:
		if k.below(4) == 0 {
			return api.Ins{Op: op, Dst: p[0], A: p[1], B: p[2]}
		}
	case api.Load:
		if k.below(3) == 0 {
			return api.Ins{Op: op, Dst: p[0], A: p[1]}
		}
	case api.Store:
		if k.below(3) == 0 {
			return api.Ins{Op: op, A: p[1], B: p[2]}
		}
	case api.Call:
		n, args := k.call(f)
		return api.Ins{Op: op, Dst: p[0], F: n, Args: args}
	case api.Out:
		return api.Ins{Op: op, A: p[0]}
	case api.In:
		return api.Ins{Op: op, Dst: p[0]}
	}
	return api.Ins{Op: api.Const, Dst: p[0], K: k.word()}
}

func (k maker) end(f api.Func, goals, pads []int) api.End {
	a := k.below(f.Regs)
	switch k.below(10) {
	case 0:
		return api.End{Kind: api.Jump, To: k.one(goals)}
	case 1, 2:
		return api.End{Kind: api.Branch, A: a, To: k.one(goals), Else: k.one(goals)}
	case 3:
		return api.End{Kind: api.Throw, A: a}
	case 4:
		return api.End{Kind: api.Resume}
	case 5:
		return api.End{Kind: api.Ret, A: a}
	}
	if len(pads) == 0 {
		return api.End{Kind: api.Ret, A: a}
	}
	n, args := k.call(f)
	return api.End{Kind: api.Invoke, Dst: a, F: n, Args: args, To: k.one(goals), Pad: k.one(pads)}
}
