package dead

import (
	"slices"

	"davit/api"
	"davit/shape"
)

// namesOf an end: where the blocks stand that it names.
func namesOf(e *api.End) []*int {
	return map[int][]*int{api.Jump: {&e.To}, api.Branch: {&e.To, &e.Else}, api.Invoke: {&e.To, &e.Pad}}[e.Kind]
}

func copyFunc(f api.Func) api.Func { return shape.Copy(api.Module{Funcs: []api.Func{f}}).Funcs[0] }

func sameFunc(a, b api.Func) bool {
	return shape.Same(api.Module{Funcs: []api.Func{a}}, api.Module{Funcs: []api.Func{b}})
}

// come to, from 0 on, of so many: round by round, what stands behind those that were come to, till no more comes.
func comeTo(count int, behind func(n int) []int) []bool {
	list := make([]bool, count)
	list[0] = true
	for range count {
		for n, is := range list {
			if !is {
				continue
			}
			for _, k := range behind(n) {
				if 0 <= k && k < count {
					list[k] = true
				}
			}
		}
	}
	return list
}

// clearFunc is the function cleared, said another way: blocks go one by one, and whoever names one behind it names one number less.
func clearFunc(f api.Func) api.Func {
	f = copyFunc(f)
	if len(f.Blocks) == 0 {
		return f
	}
	reached := comeTo(len(f.Blocks), func(n int) []int { return told(namesOf(&f.Blocks[n].End)) })
	for n, is := range reached {
		for _, k := range told(namesOf(&f.Blocks[n].End)) {
			if is && (k < 0 || k >= len(f.Blocks)) {
				return f
			}
		}
	}
	for n := len(f.Blocks) - 1; n > 0; n-- {
		if !reached[n] {
			f.Blocks = slices.Delete(f.Blocks, n, n+1)
			for i := range f.Blocks {
				lessAbove(n, namesOf(&f.Blocks[i].End))
			}
		}
	}
	return f
}

// callsOf a function: where the functions stand that it calls.
func callsOf(f api.Func) []*int {
	var list []*int
	for i := range f.Blocks {
		for j := range f.Blocks[i].Ins {
			if f.Blocks[i].Ins[j].Op == api.Call {
				list = append(list, &f.Blocks[i].Ins[j].F)
			}
		}
		if f.Blocks[i].End.Kind == api.Invoke {
			list = append(list, &f.Blocks[i].End.F)
		}
	}
	return list
}

// clearModule is a module that may be, cleared likewise, and of each function that it had whether it stays.
func clearModule(m api.Module) (api.Module, []bool) {
	m = shape.Copy(m)
	for n, f := range m.Funcs {
		m.Funcs[n] = clearFunc(f)
	}
	stays := comeTo(len(m.Funcs), func(n int) []int { return told(callsOf(m.Funcs[n])) })
	for n := len(m.Funcs) - 1; n > 0; n-- {
		if !stays[n] {
			m.Funcs = slices.Delete(m.Funcs, n, n+1)
			for _, f := range m.Funcs {
				lessAbove(n, callsOf(f))
			}
		}
	}
	return m, stays
}

func told(places []*int) []int {
	var list []int
	for _, place := range places {
		list = append(list, *place)
	}
	return list
}

// lessAbove makes each of these that is above n one less.
func lessAbove(n int, places []*int) {
	for _, place := range places {
		if *place > n {
			*place--
		}
	}
}
