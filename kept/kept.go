// Package kept tells for tests whether memory is kept apart: what is handed in, and what is answered.
package kept

import (
	"slices"

	"davit/api"
	"davit/shape"
)

// Func: does a function stay as it was, with what lies in the spare room behind its lists, when this is done with it?
func Func(f api.Func, do func(f api.Func)) bool {
	return Module(api.Module{Funcs: []api.Func{f}}, func(m api.Module) { do(m.Funcs[0]) })
}

// Module: does a module stay as it was, with what lies in the spare room behind its lists, when this is done with it?
func Module(m api.Module, do func(m api.Module)) bool {
	given := roomy(m)
	do(given)
	return shape.Same(given, m) && shape.Same(whole(given), whole(roomy(m)))
}

// roomy is the module in memory of its own, with something in the spare room behind each list.
func roomy(m api.Module) api.Module {
	m.Funcs = behind(m.Funcs, api.Func{Regs: 7})
	for i := range m.Funcs {
		f := &m.Funcs[i]
		f.Blocks = behind(f.Blocks, api.Block{Landing: true, Ins: []api.Ins{{Op: api.Out}}, End: api.End{Kind: api.Branch, To: 1}})
		for j := range f.Blocks {
			b := &f.Blocks[j]
			b.Pad.Catch = behind(b.Pad.Catch, 7)
			b.Ins = behind(b.Ins, api.Ins{Op: api.Out})
			for k := range b.Ins {
				b.Ins[k].Args = behind(b.Ins[k].Args, 7)
			}
			b.End.Args = behind(b.End.Args, 7)
		}
	}
	return m
}

// behind is the same list in memory of its own, this twice in its spare room.
func behind[T any](list []T, room T) []T {
	return append(slices.Clone(list), room, room)[: len(list) : len(list)+2]
}

// whole is the module, changed: what lies in the spare room of its lists stands in them.
func whole(m api.Module) api.Module {
	m.Funcs = all(m.Funcs)
	for i := range m.Funcs {
		f := &m.Funcs[i]
		f.Blocks = all(f.Blocks)
		for j := range f.Blocks {
			b := &f.Blocks[j]
			b.Pad.Catch = all(b.Pad.Catch)
			b.Ins = all(b.Ins)
			for k := range b.Ins {
				b.Ins[k].Args = all(b.Ins[k].Args)
			}
			b.End.Args = all(b.End.Args)
		}
	}
	return m
}

func all[T any](list []T) []T { return list[:cap(list)] }

// Apart: is what is written to an answer, its spare room too, seen in no other answer of the call?
func Apart[T comparable](call func() []T, written T) bool {
	want := slices.Clone(call())
	ahead, answer := call(), call()
	answer = answer[:cap(answer)]
	for i := range answer {
		answer[i] = written
	}
	return slices.Equal(ahead, want) && slices.Equal(call(), want)
}
