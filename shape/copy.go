package shape

import (
	"slices"

	"davit/api"
	"davit/lists"
)

// Copy of a module.
func Copy(m api.Module) api.Module {
	funcs := lists.Own(m.Funcs)
	for i := range funcs {
		blocks := lists.Own(funcs[i].Blocks)
		for j, b := range blocks {
			blocks[j] = copyBlock(b)
		}
		funcs[i].Blocks = blocks
	}
	return api.Module{Funcs: funcs}
}

func copyBlock(b api.Block) api.Block {
	b.Pad.Catch = lists.Own(b.Pad.Catch)
	b.Ins = lists.Own(b.Ins)
	for i := range b.Ins {
		b.Ins[i].Args = lists.Own(b.Ins[i].Args)
	}
	b.End.Args = lists.Own(b.End.Args)
	return b
}

// Same modules?
func Same(a, b api.Module) bool {
	return slices.EqualFunc(a.Funcs, b.Funcs, sameFunc)
}

func sameFunc(a, b api.Func) bool {
	return a.Params == b.Params && a.Regs == b.Regs && slices.EqualFunc(a.Blocks, b.Blocks, sameBlock)
}

func sameBlock(a, b api.Block) bool {
	return a.Landing == b.Landing && samePad(a.Pad, b.Pad) && slices.EqualFunc(a.Ins, b.Ins, sameIns) && sameEnd(a.End, b.End)
}

func samePad(a, b api.Pad) bool {
	return a.Dst == b.Dst && slices.Equal(a.Catch, b.Catch) && a.All == b.All && a.Cleanup == b.Cleanup
}

func sameIns(a, b api.Ins) bool {
	return a.Op == b.Op && a.Dst == b.Dst && a.A == b.A && a.B == b.B && a.K == b.K && a.F == b.F && slices.Equal(a.Args, b.Args)
}

func sameEnd(a, b api.End) bool {
	return a.Kind == b.Kind && a.A == b.A && a.Dst == b.Dst && a.F == b.F && slices.Equal(a.Args, b.Args) &&
		a.To == b.To && a.Else == b.Else && a.Pad == b.Pad
}
