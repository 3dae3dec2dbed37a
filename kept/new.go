package kept

import (
	"davit/api"
	"davit/shape"
)

// NewFunc: does a call answer a function that is new memory, as New says it of a module?
func NewFunc(f api.Func, call func(f api.Func) api.Func) bool {
	return New(api.Module{Funcs: []api.Func{f}}, func(m api.Module) api.Module {
		return api.Module{Funcs: []api.Func{call(m.Funcs[0])}}
	})
}

// New: does a call answer a module that is new memory? What is written to what was handed in, to another answer, or to one list of the answer, spare room too, is seen in no other list of it; what is written to the answer isn't seen in what was handed in.
func New(m api.Module, call func(m api.Module) api.Module) bool {
	given := roomy(m)
	ahead, answer := call(given), call(given)
	want := shape.Copy(answer)
	mark(whole(given))
	mark(whole(ahead))
	if !shape.Same(answer, want) {
		return false
	}
	given = roomy(m)
	answer = whole(call(given))
	mark(answer)
	return marked(answer) && shape.Same(whole(given), whole(roomy(m)))
}

// marks are how many there are: what a pad catches is to have room for each.
const marks = 65521

// mark writes a number into each item of each list, another one than into those around it.
func mark(m api.Module) {
	next := 0
	each(m, func(place *int) {
		next = (next + 1) % marks
		*place = next
	})
}

// marked: has each item the number still that mark wrote?
func marked(m api.Module) bool {
	next, are := 0, true
	each(m, func(place *int) {
		next = (next + 1) % marks
		are = are && *place == next
	})
	return are
}

// each does this with a number of each item of each list.
func each(m api.Module, do func(place *int)) {
	for i := range m.Funcs {
		f := &m.Funcs[i]
		do(&f.Regs)
		for j := range f.Blocks {
			b := &f.Blocks[j]
			do(&b.End.Kind)
			for k := range b.Pad.Catch {
				word := int(b.Pad.Catch[k])
				do(&word)
				b.Pad.Catch[k] = uint16(word)
			}
			for k := range b.Ins {
				do(&b.Ins[k].Op)
				eachOf(b.Ins[k].Args, do)
			}
			eachOf(b.End.Args, do)
		}
	}
}

func eachOf(list []int, do func(place *int)) {
	for k := range list {
		do(&list[k])
	}
}
