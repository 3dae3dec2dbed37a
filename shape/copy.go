package shape

import (
	"slices"

	"davit/api"
)

// Copy of a module.
func Copy(m api.Module) api.Module {
	funcs := own(m.Funcs)
	for i := range funcs {
		blocks := own(funcs[i].Blocks)
		for j, b := range blocks {
			blocks[j] = copyBlock(b)
		}
		funcs[i].Blocks = blocks
	}
	return api.Module{Funcs: funcs}
}

func copyBlock(b api.Block) api.Block {
	b.Pad.Catch = own(b.Pad.Catch)
	b.Ins = own(b.Ins)
	for i := range b.Ins {
		b.Ins[i].Args = own(b.Ins[i].Args)
	}
	b.End.Args = own(b.End.Args)
	return b
}

// own is not slices.Clone, which answers an empty list by a piece of the one handed in.
func own[T any](list []T) []T {
	if list == nil {
		return nil
	}
	mine := make([]T, len(list))
	copy(mine, list)
	return mine
}

// Same modules?
func Same(a, b api.Module) bool {
	return slices.EqualFunc(a.Funcs, b.Funcs, sameFunc)
}

func sameFunc(a, b api.Func) bool {
	return a.Params == b.Params && a.Regs == b.Regs && slices.EqualFunc(a.Blocks, b.Blocks, sameBlock)
}

func sameBlock(a, b api.Block) bool {
	return a.Landing == b.Landing && samePad(a.Pad, b.Pad) && slices.EqualFunc(a.Ins, b.Ins, sameIns) && sameEnd(a.End, b.End)
}

func samePad(a, b api.Pad) bool {
	return a.Dst == b.Dst && slices.Equal(a.Catch, b.Catch) && a.All == b.All && a.Cleanup == b.Cleanup
}

func sameIns(a, b api.Ins) bool {
	return a.Op == b.Op && a.Dst == b.Dst && a.A == b.A && a.B == b.B && a.K == b.K && a.F == b.F && slices.Equal(a.Args, b.Args)
}

func sameEnd(a, b api.End) bool {
	return a.Kind == b.Kind && a.A == b.A && a.Dst == b.Dst && a.F == b.F && slices.Equal(a.Args, b.Args) &&
		a.To == b.To && a.Else == b.Else && a.Pad == b.Pad
}
