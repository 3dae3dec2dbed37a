// Package runs has what tests run machines with, and by what they hold them against each other.
package runs

import (
	"slices"

	"davit/api"
)

// Most steps that a machine runs on, where a test looks at each of them.
const Most = 60

// Inputs are what is told to machines from outside.
func Inputs() []uint16 { return []uint16{3, 0, 1, 65535, 2, 5, 16, 1, 0} }

// From is a machine that runs on from these frames, with words in some of its cells.
func From(stack []api.Frame) api.Mach {
	return api.Mach{Stack: stack, Cells: [api.MaxCells]uint16{1, 2, 15: 3}, Inputs: Inputs()}
}

// Alike machines: the same in all, a list nil or empty alike.
func Alike(a, b api.Mach) bool {
	return slices.EqualFunc(a.Stack, b.Stack, AlikeFrames) && a.Cells == b.Cells && slices.Equal(a.Inputs, b.Inputs) &&
		slices.Equal(a.Events, b.Events) && a.Done == b.Done && a.Value == b.Value
}

// AlikeFrames are likewise.
func AlikeFrames(a, b api.Frame) bool {
	return a.F == b.F && a.Block == b.Block && a.At == b.At && slices.Equal(a.Regs, b.Regs) && a.Fly == b.Fly
}

// Landed: does the top frame stand at the beginning of a Landing block?
func Landed(m api.Module, s api.Mach) bool {
	if len(s.Stack) == 0 {
		return false
	}
	top := s.Stack[len(s.Stack)-1]
	return top.At == 0 && m.Funcs[top.F].Blocks[top.Block].Landing
}

// Begins: does the list of events begin so?
func Begins(events, so []int) bool {
	return len(events) >= len(so) && slices.Equal(events[:len(so)], so)
}
