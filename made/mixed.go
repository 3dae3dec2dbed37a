package made

import "davit/api"

// Mixed is a module that may be, some functions of which, or all, do much, and others little.
func Mixed(seed uint64) api.Module {
	m := Module(seed)
	for _, n := range [][]int{nil, {1}, {0, 2}, {1, 3}, {2, 3, 4}}[seed%5] {
		if n < len(m.Funcs) {
			quieten(m.Funcs[n])
		}
	}
	return m
}

// quieten the function, changed, so that it does nothing itself: Copy stands for Out, In and Store, Ret for Throw and Resume.
func quieten(f api.Func) {
	for n := range f.Blocks {
		b := &f.Blocks[n]
		for i, x := range b.Ins {
			if x.Op == api.Out || x.Op == api.In || x.Op == api.Store {
				b.Ins[i] = api.Ins{Op: api.Copy, Dst: x.Dst, A: x.A}
			}
		}
		if b.End.Kind == api.Throw || b.End.Kind == api.Resume {
			b.End = api.End{Kind: api.Ret, A: b.End.A}
		}
	}
}
