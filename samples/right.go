package samples

import (
	"slices"

	"davit/api"
)

// Right are modules that may be, of which there may be no more: each of them is Wide, changed.
func Right() map[string]api.Module {
	return changed([]change{
		{"as many functions", func(m *api.Module) { addFuncs(m, api.MaxFuncs) }},
		{"as many blocks", func(m *api.Module) { addBlocks(&m.Funcs[2], api.MaxBlocks) }},
		{"as many instructions", func(m *api.Module) { fill(&m.Funcs[1].Blocks[0], api.MaxIns) }},
		{"as many ahead of an Invoke", func(m *api.Module) { fill(&m.Funcs[2].Blocks[0], api.MaxIns) }},
		{"as many places", func(m *api.Module) { m.Funcs[1].Regs = api.MaxRegs }},
		{"as many Params", func(m *api.Module) { m.Funcs[3].Params, m.Funcs[3].Regs = api.MaxArgs, api.MaxArgs }},
		{"as many numbers caught", func(m *api.Module) { m.Funcs[0].Blocks[3].Pad.Catch = []uint16{1, 2, 3, 4, 5, 6, 7, 8} }},
	})
}

// change makes of a module that is Wide another one.
type change struct {
	name string
	do   func(m *api.Module)
}

func changed(changes []change) map[string]api.Module {
	list := map[string]api.Module{}
	for _, c := range changes {
		m := Wide()
		c.do(&m)
		list[c.name] = m
	}
	return list
}

// addFuncs that answer, till there are so many.
func addFuncs(m *api.Module, count int) {
	m.Funcs = append(m.Funcs, slices.Repeat(m.Funcs[1:2], count-len(m.Funcs))...)
}

// addBlocks like the last one, till there are so many.
func addBlocks(f *api.Func, count int) {
	last := len(f.Blocks) - 1
	f.Blocks = append(f.Blocks, slices.Repeat(f.Blocks[last:], count-len(f.Blocks))...)
}

// fill the block with so many instructions.
func fill(b *api.Block, count int) {
	b.Ins = slices.Repeat([]api.Ins{{Op: api.Const}}, count)
}
