package made

import "davit/api"

// Calls is a module each of whose functions calls these, in this order, each in a block of its own: by a Call, the next one by an Invoke, and so on. It may be, where they are there and aren't too many.
func Calls(lists ...[]int) api.Module {
	m := api.Module{Funcs: make([]api.Func, len(lists))}
	for n, list := range lists {
		m.Funcs[n] = calling(list)
	}
	return m
}

// calling is a function that calls these, the last block but one of which answers; its last one is the Pad of all Invokes.
func calling(list []int) api.Func {
	f := api.Func{Regs: 1, Blocks: make([]api.Block, len(list)+2)}
	last := len(list) + 1
	for i, n := range list {
		if i%2 == 0 {
			f.Blocks[i] = api.Block{Ins: []api.Ins{{Op: api.Call, F: n}}, End: Jump(i + 1)}
		} else {
			f.Blocks[i].End = api.End{Kind: api.Invoke, F: n, To: i + 1, Pad: last}
		}
	}
	f.Blocks[last-1].End.Kind, f.Blocks[last].End.Kind = api.Ret, api.Ret
	return Landing(f, last)
}

// Callers is a module of so many functions, which call one another, and some that aren't there, by Calls and Invokes; the number of a function stands in instructions and ends that are neither, too. Few of them may be.
func Callers(seed uint64, count int) api.Module {
	r := &rule{seed}
	m := api.Module{Funcs: make([]api.Func, count)}
	for n := range m.Funcs {
		m.Funcs[n].Regs = 1
		for range r.below(4) {
			b := api.Block{Ins: make([]api.Ins, r.below(3))}
			for i := range b.Ins {
				b.Ins[i] = api.Ins{Op: r.one([]int{api.Call, r.below(16)}), F: r.function(count)}
			}
			b.End = api.End{Kind: r.one([]int{api.Invoke, api.Ret, r.below(8)}), F: r.function(count)}
			m.Funcs[n].Blocks = append(m.Funcs[n].Blocks, b)
		}
	}
	return m
}

// function is most often the number of one of so many, else of one that isn't there.
func (r *rule) function(count int) int {
	if r.below(5) == 0 {
		return r.one(NoneOf(count))
	}
	return r.below(count)
}
