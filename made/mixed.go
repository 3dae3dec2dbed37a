package made

import (
	"slices"

	"davit/api"
)

// Mixed is a module that may be, some functions of which, or all, do much, and others little.
func Mixed(seed uint64) api.Module {
	m := Module(seed)
	for _, n := range [][]int{nil, {1}, {0, 2}, {1, 3}, {2, 3, 4}}[seed%5] {
		if n < len(m.Funcs) {
			quieten(m.Funcs[n])
		}
	}
	return m
}

// quieten the function, changed, so that it does nothing itself: Copy stands for Out, In and Store, Ret for Throw and Resume.
func quieten(f api.Func) {
	for n := range f.Blocks {
		b := &f.Blocks[n]
		for i, x := range b.Ins {
			if x.Op == api.Out || x.Op == api.In || x.Op == api.Store {
				b.Ins[i] = api.Ins{Op: api.Copy, Dst: x.Dst, A: x.A}
			}
		}
		if b.End.Kind == api.Throw || b.End.Kind == api.Resume {
			b.End = api.End{Kind: api.Ret, A: b.End.A}
		}
	}
}

// Stuffed is the module, changed: ahead of its blocks' instructions stand others, so that many blocks are full, or nearly.
func Stuffed(m api.Module, seed int) api.Module {
	for n, f := range m.Funcs {
		for i := range f.Blocks {
			b := &f.Blocks[i]
			count := []int{0, api.MaxIns - 2, api.MaxIns - 1, api.MaxIns}[(seed+5*n+3*i)%4]
			if count > len(b.Ins) {
				b.Ins = append(slices.Repeat([]api.Ins{{Op: api.Load}}, count-len(b.Ins)), b.Ins...)
			}
		}
	}
	return m
}

// Padded is the module, changed: many of its Landing blocks do nothing, or nearly, and many of its pads have All, and more.
func Padded(m api.Module, seed int) api.Module {
	for n, f := range m.Funcs {
		for i := range f.Blocks {
			if b := &f.Blocks[i]; b.Landing {
				pad(b, (seed+3*n+i)%6)
			}
		}
	}
	return m
}

// pad the Landing block, changed, in one of six ways; one of them leaves it as it is.
func pad(b *api.Block, way int) {
	p := api.Pad{Dst: b.Pad.Dst, Cleanup: true}
	resume := api.End{Kind: api.Resume}
	switch way {
	case 1, 2:
		b.Pad, b.Ins, b.End = p, nil, resume
	case 3:
		b.Pad, b.End = p, resume
	case 4:
		p.Catch = []uint16{1, 5}
		b.Pad, b.Ins, b.End = p, nil, resume
	case 5:
		p.Catch, p.All = []uint16{3}, true
		b.Pad = p
	}
}
