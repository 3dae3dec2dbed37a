package samples

import (
	"math"
	"slices"

	"davit/api"
)

// Wrong are modules that may not be, by what is wrong: each of them is Wide, changed.
func Wrong() map[string]api.Module {
	return changed(slices.Concat(lengths(), numbers(), calls(), goals(), rest()))
}

func lengths() []change {
	return []change{
		{"no function", func(m *api.Module) { m.Funcs = nil }},
		{"an empty list", func(m *api.Module) { m.Funcs = []api.Func{} }},
		{"a function without any", func(m *api.Module) { m.Funcs[1] = api.Func{} }},
		{"too many functions", func(m *api.Module) { addFuncs(m, api.MaxFuncs+1) }},
		{"very many functions", func(m *api.Module) { addFuncs(m, 100000) }},
		{"no block", func(m *api.Module) { m.Funcs[1].Blocks = nil }},
		{"too many blocks", func(m *api.Module) { addBlocks(&m.Funcs[1], api.MaxBlocks+1) }},
		{"very many blocks", func(m *api.Module) { addBlocks(&m.Funcs[1], 100000) }},
		{"too many instructions", func(m *api.Module) { fill(&m.Funcs[1].Blocks[0], api.MaxIns+1) }},
		{"too many ahead of an Invoke", func(m *api.Module) { fill(&m.Funcs[2].Blocks[0], api.MaxIns+1) }},
		{"very many instructions", func(m *api.Module) { fill(&m.Funcs[1].Blocks[0], 100000) }},
		{"too many numbers caught", func(m *api.Module) { m.Funcs[0].Blocks[3].Pad.Catch = []uint16{1, 2, 3, 4, 5, 6, 7, 8, 9} }},
	}
}

func numbers() []change {
	return []change{
		{"arguments of function 0", func(m *api.Module) { m.Funcs[0].Params = 1 }},
		{"Params below 0", func(m *api.Module) { m.Funcs[1].Params = -1 }},
		{"fewer places than Params", func(m *api.Module) { m.Funcs[2].Regs = 1 }},
		{"too many places", func(m *api.Module) { m.Funcs[1].Regs = api.MaxRegs + 1 }},
		{"no place", func(m *api.Module) { m.Funcs[1].Regs = 0 }},
		{"a place that isn't there", func(m *api.Module) { m.Funcs[0].Blocks[2].End.A = 4 }},
		{"one where nobody comes to", func(m *api.Module) { m.Funcs[0].Blocks[1].End.A = 4 }},
		{"one in a function that nobody calls", func(m *api.Module) { m.Funcs[3].Blocks[0].End.A = 1 }},
		{"an Invoke's place that isn't there", func(m *api.Module) { m.Funcs[2].Blocks[0].End.Dst = 2 }},
		{"a pad's place below 0", func(m *api.Module) { m.Funcs[2].Blocks[2].Pad.Dst = -1 }},
	}
}

func calls() []change {
	return []change{
		{"no such function called", func(m *api.Module) { m.Funcs[0].Blocks[0].Ins[6].F = 4 }},
		{"one below 0 called", func(m *api.Module) { m.Funcs[0].Blocks[0].Ins[6].F = -1 }},
		{"a far one called", func(m *api.Module) { m.Funcs[0].Blocks[0].Ins[6].F = math.MaxInt }},
		{"none called where nobody comes to", func(m *api.Module) { m.Funcs[0].Blocks[5].Ins[0].F = math.MaxInt }},
		{"no such function invoked", func(m *api.Module) { m.Funcs[2].Blocks[0].End.F = 4 }},
		{"one below 0 invoked", func(m *api.Module) { m.Funcs[2].Blocks[0].End.F = math.MinInt }},
		{"too few Args", func(m *api.Module) { m.Funcs[0].Blocks[0].Ins[6].Args = []int{1} }},
		{"too many Args of an Invoke", func(m *api.Module) { m.Funcs[2].Blocks[0].End.Args = []int{0} }},
		{"an Arg that isn't there", func(m *api.Module) { m.Funcs[0].Blocks[0].End.Args[1] = 4 }},
	}
}

func goals() []change {
	return []change{
		{"the first one Landing", func(m *api.Module) { m.Funcs[0].Blocks[0] = m.Funcs[0].Blocks[4] }},
		{"no such goal", func(m *api.Module) { m.Funcs[0].Blocks[0].End.To = 6 }},
		{"no such goal where nobody comes to", func(m *api.Module) { m.Funcs[0].Blocks[1].End.Else = -1 }},
		{"no such goal of an Invoke", func(m *api.Module) { m.Funcs[2].Blocks[0].End.To = -1 }},
		{"a goal that is Landing", func(m *api.Module) { m.Funcs[2].Blocks[0].End.To = 2 }},
		{"no such Pad", func(m *api.Module) { m.Funcs[2].Blocks[0].End.Pad = 5 }},
		{"a Pad below 0", func(m *api.Module) { m.Funcs[2].Blocks[0].End.Pad = -1 }},
		{"a Pad that isn't Landing", func(m *api.Module) { m.Funcs[2].Blocks[0].End.Pad = 1 }},
		{"a pad that does nothing", func(m *api.Module) { m.Funcs[2].Blocks[2].Pad = api.Pad{} }},
		{"a pad that catches a number twice", func(m *api.Module) { m.Funcs[2].Blocks[2].Pad.Catch = []uint16{1, 1} }},
		{"a pad of no Landing one", func(m *api.Module) { m.Funcs[2].Blocks[1].Pad.All = true }},
	}
}

func rest() []change {
	return []change{
		{"no such Op", func(m *api.Module) { m.Funcs[0].Blocks[0].Ins[0].Op = 14 }},
		{"no Op", func(m *api.Module) { m.Funcs[0].Blocks[0].Ins[0] = api.Ins{} }},
		{"no such Kind", func(m *api.Module) { m.Funcs[0].Blocks[2].End.Kind = 7 }},
		{"no Kind", func(m *api.Module) { m.Funcs[0].Blocks[2].End = api.End{} }},
		{"what isn't used", func(m *api.Module) { m.Funcs[0].Blocks[2].End.Pad = 4 }},
		{"what isn't used where nobody comes to", func(m *api.Module) { m.Funcs[0].Blocks[1].End.Pad = 4 }},
		{"what an Invoke doesn't use", func(m *api.Module) { m.Funcs[2].Blocks[0].End.Else = 1 }},
		{"what an instruction doesn't use", func(m *api.Module) { m.Funcs[0].Blocks[0].Ins[0].A = 1 }},
	}
}
