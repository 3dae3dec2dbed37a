package throws

import (
	"math"
	"slices"
	"testing"

	"davit/api"
	"davit/made"
	"davit/shape"
)

// counts are of how many functions each call says something.
func counts(m api.Module) [3]int {
	return [3]int{len(Out(m)), len(Tells(m)), len(Writes(m))}
}

// wide has each Op and each Kind, and a Pad of each sort, in two functions.
func wide(t *testing.T) api.Module {
	t.Helper()
	return module(t, "func 0 4 / block / const 0 7 / copy 1 0 / add 2 0 1 / div 2 0 1 / load 2 1 / store 1 2 / call 3 1 0 2 / out 3 / in 3 / invoke 3 1 1 3 0 2"+
		" / block / branch 3 2 2 / block / ret 3 / pad 3 catch 5 65535 / jump 1 / pad 2 all / throw 2 / pad 1 cleanup / call 1 1 2 2 / resume"+
		" / func 2 2 / block / invoke 0 0 1 2 / block / ret 0 / pad 0 catch 1 all cleanup / throw 0")
}

func TestSomethingIsSaidOfWhatMayBe(t *testing.T) {
	for name, change := range map[string]func(m *api.Module){
		"as it is":          func(m *api.Module) {},
		"one function":      func(m *api.Module) { *m = module(t, "func 0 1 / block / ret 0") },
		"as many functions": func(m *api.Module) { m.Funcs = slices.Repeat(m.Funcs, api.MaxFuncs/2)[:api.MaxFuncs]; fit(m) },
		"as many blocks": func(m *api.Module) {
			for len(m.Funcs[1].Blocks) < api.MaxBlocks {
				m.Funcs[1].Blocks = append(m.Funcs[1].Blocks, m.Funcs[1].Blocks[1])
			}
		},
		"as many instructions": func(m *api.Module) {
			m.Funcs[1].Blocks[1].Ins = slices.Repeat([]api.Ins{{Op: api.Out}}, api.MaxIns)
		},
		"as many places": func(m *api.Module) { m.Funcs[1].Regs = api.MaxRegs },
	} {
		m := wide(t)
		change(&m)
		if got, want := counts(m), len(m.Funcs); got != [3]int{want, want, want} {
			t.Errorf("%s: of %v functions something is said, not of %d", name, got, want)
		}
	}
}

// fit makes all functions but the first one ones of two arguments.
func fit(m *api.Module) {
	for n := range m.Funcs[1:] {
		m.Funcs[n+1] = m.Funcs[1]
	}
}

func TestNothingIsSaidOfWhatMayNot(t *testing.T) {
	for name, change := range map[string]func(m *api.Module){
		"no function":              func(m *api.Module) { m.Funcs = nil },
		"an empty list":            func(m *api.Module) { m.Funcs = []api.Func{} },
		"a function without any":   func(m *api.Module) { m.Funcs[1] = api.Func{} },
		"too many functions":       func(m *api.Module) { m.Funcs = slices.Repeat(m.Funcs, 9)[:api.MaxFuncs+1]; fit(m) },
		"very many functions":      func(m *api.Module) { m.Funcs = slices.Repeat(m.Funcs, 50000); fit(m) },
		"arguments of function 0":  func(m *api.Module) { m.Funcs[0].Params = 1 },
		"Params below 0":           func(m *api.Module) { m.Funcs[1].Params = -1 },
		"too many places":          func(m *api.Module) { m.Funcs[1].Regs = api.MaxRegs + 1 },
		"no block":                 func(m *api.Module) { m.Funcs[1].Blocks = nil },
		"the first one Landing":    func(m *api.Module) { m.Funcs[0].Blocks[0] = m.Funcs[0].Blocks[4] },
		"a place that isn't there": func(m *api.Module) { m.Funcs[0].Blocks[2].End.A = 4 },
		"no such function called":  func(m *api.Module) { m.Funcs[0].Blocks[0].Ins[6].F = 2 },
		"one below 0 called":       func(m *api.Module) { m.Funcs[0].Blocks[0].Ins[6].F = -1 },
		"a far one called":         func(m *api.Module) { m.Funcs[0].Blocks[0].Ins[6].F = math.MaxInt },
		"no such function invoked": func(m *api.Module) { m.Funcs[0].Blocks[0].End.F = 2 },
		"one below 0 invoked":      func(m *api.Module) { m.Funcs[0].Blocks[0].End.F = math.MinInt },
		"too few Args":             func(m *api.Module) { m.Funcs[0].Blocks[0].Ins[6].Args = []int{1} },
		"no such Pad":              func(m *api.Module) { m.Funcs[1].Blocks[0].End.Pad = 3 },
		"a Pad below 0":            func(m *api.Module) { m.Funcs[1].Blocks[0].End.Pad = -1 },
		"a Pad that isn't Landing": func(m *api.Module) { m.Funcs[1].Blocks[0].End.Pad = 1 },
		"a goal that is Landing":   func(m *api.Module) { m.Funcs[1].Blocks[0].End.To = 2 },
		"a pad that does nothing":  func(m *api.Module) { m.Funcs[1].Blocks[2].Pad = api.Pad{} },
		"a pad of no Landing one":  func(m *api.Module) { m.Funcs[1].Blocks[1].Pad.All = true },
		"no such Op":               func(m *api.Module) { m.Funcs[0].Blocks[0].Ins[0].Op = 14 },
		"no Op":                    func(m *api.Module) { m.Funcs[0].Blocks[0].Ins[0] = api.Ins{} },
		"no such Kind":             func(m *api.Module) { m.Funcs[0].Blocks[2].End.Kind = 7 },
		"no Kind":                  func(m *api.Module) { m.Funcs[0].Blocks[2].End = api.End{} },
		"what isn't used":          func(m *api.Module) { m.Funcs[0].Blocks[2].End.Pad = 3 },
	} {
		m := wide(t)
		change(&m)
		if got := counts(m); got != [3]int{} {
			t.Errorf("%s: something is said of %v functions", name, got)
		}
	}
}

// Something is said just of modules that may be.
func TestWhateverModules(t *testing.T) {
	right, wrong := 0, 0
	try := func(m api.Module) {
		want := 0
		if shape.Right(m) {
			want = len(m.Funcs)
			right++
		} else {
			wrong++
		}
		if got := counts(m); got != [3]int{want, want, want} {
			t.Fatalf("%+v: of %v functions something is said, not of %d", m, got, want)
		}
	}
	for seed := range uint64(1000) {
		try(made.Module(seed))
		try(made.Callers(seed, int(seed%20)))
		try(api.Module{Funcs: []api.Func{made.Func(seed)}})
		try(api.Module{Funcs: []api.Func{made.One(seed, 5, 3), {Params: 1}, {Params: 2}}})
	}
	if right < 1000 || wrong < 1000 {
		t.Errorf("%d may be, %d may not", right, wrong)
	}
}
