// Package kept tells for tests whether memory is kept apart: what is handed in, and what is answered.
package kept

import (
	"slices"

	"davit/api"
	"davit/shape"
)

// Func: does a function stay as it was, with what lies in the spare room behind its blocks, when this is done with it?
func Func(f api.Func, do func(f api.Func)) bool {
	room := api.Block{Landing: true, Ins: []api.Ins{{Op: api.Out}}, End: api.End{Kind: api.Branch, To: 1}}
	blocks := append(slices.Clone(f.Blocks), room, room)
	given, whole := f, f
	given.Blocks, whole.Blocks = blocks[:len(f.Blocks)], blocks
	m := api.Module{Funcs: []api.Func{whole}}
	was := shape.Copy(m)
	do(given)
	return shape.Same(was, m)
}

// Apart: is what is written to an answer, its spare room too, seen in no other answer of the call?
func Apart[T comparable](call func() []T, written T) bool {
	want := slices.Clone(call())
	ahead, answer := call(), call()
	answer = answer[:cap(answer)]
	for i := range answer {
		answer[i] = written
	}
	return slices.Equal(ahead, want) && slices.Equal(call(), want)
}
