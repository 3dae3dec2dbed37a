package made

import (
	"iter"

	"davit/api"
)

// bit of a number.
func bit(number, n int) bool { return number>>n&1 == 1 }

// Doing is a function that throws, tells and writes itself, or not.
func Doing(throw, tell, write bool) api.Func {
	f := Of(api.End{Kind: api.Ret})
	b := &f.Blocks[0]
	if throw {
		b.End.Kind = api.Throw
	}
	if tell {
		b.Ins = append(b.Ins, api.Ins{Op: api.In})
	}
	if write {
		b.Ins = append(b.Ins, api.Ins{Op: api.Store})
	}
	return f
}

// How AddCall calls a function.
const (
	NoCall   = iota // it doesn't
	ByCall          // by a Call
	ByInvoke        // by an Invoke whose pad has not All
	ByAll           // by an Invoke whose pad has All
)

// AddCall puts a call of function n into the function, changed, in this way.
func AddCall(f *api.Func, n, how int) {
	goal := len(f.Blocks)
	switch how {
	case ByCall:
		f.Blocks = append(f.Blocks, api.Block{Ins: []api.Ins{{Op: api.Call, F: n}}, End: api.End{Kind: api.Ret}})
	case ByInvoke, ByAll:
		pad := api.Pad{Cleanup: n == 0, Catch: []uint16{uint16(n)}, All: how == ByAll}
		f.Blocks = append(f.Blocks,
			api.Block{End: api.End{Kind: api.Invoke, F: n, To: goal, Pad: goal + 1}},
			api.Block{Landing: true, Pad: pad, End: api.End{Kind: api.Ret}})
	}
}

// Doers is every module of so many functions, each of which calls each in one of these ways, and throws, tells and writes itself, or not.
func Doers(count int, hows []int) iter.Seq[api.Module] {
	return func(yield func(api.Module) bool) {
		for ways := range power(len(hows), count*count) {
			for doers := range 1 << count {
				if !yield(doersOf(count, ways, hows, doers)) {
					return
				}
			}
		}
	}
}

// doersOf numbers: who calls whom how, by the digits of the one, and who does what itself, by the bits of the other one.
func doersOf(count, ways int, hows []int, doers int) api.Module {
	m := api.Module{Funcs: make([]api.Func, count)}
	for n := range m.Funcs {
		// By odd factors each of the three is done by any of the functions alone and together, as doers goes through all.
		f := Doing(bit(doers, n), bit(doers*3, n), bit(doers*5+1, n))
		for k := range count {
			AddCall(&f, k, hows[ways%len(hows)])
			ways /= len(hows)
		}
		m.Funcs[n] = f
	}
	return m
}

func power(base, exponent int) int {
	n := 1
	for range exponent {
		n *= base
	}
	return n
}
