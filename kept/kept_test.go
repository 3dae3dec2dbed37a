package kept

import (
	"reflect"
	"slices"
	"testing"

	"davit/api"
)

func example() api.Func {
	return api.Func{Regs: 2, Blocks: []api.Block{
		{Ins: []api.Ins{{Op: api.Call, Args: []int{1}}}, End: api.End{Kind: api.Invoke, Args: []int{0}, To: 1, Pad: 2}},
		{End: api.End{Kind: api.Ret}},
		{Landing: true, Pad: api.Pad{Catch: []uint16{5}}, End: api.End{Kind: api.Resume}},
	}}
}

func TestFunc(t *testing.T) {
	for name, c := range map[string]struct {
		want bool
		do   func(f api.Func)
	}{
		"nothing":                       {true, func(f api.Func) {}},
		"a field of its own":            {true, func(f api.Func) { f.Regs++ }},
		"a list of its own":             {true, func(f api.Func) { _ = append(slices.Clone(f.Blocks), api.Block{}) }},
		"a block":                       {false, func(f api.Func) { f.Blocks[1] = api.Block{} }},
		"an instruction":                {false, func(f api.Func) { f.Blocks[0].Ins[0].Op = api.Const }},
		"an argument":                   {false, func(f api.Func) { f.Blocks[0].Ins[0].Args[0] = 0 }},
		"an end":                        {false, func(f api.Func) { f.Blocks[0].End.To = 0 }},
		"an end's argument":             {false, func(f api.Func) { f.Blocks[0].End.Args[0] = 1 }},
		"a pad's number":                {false, func(f api.Func) { f.Blocks[2].Pad.Catch[0] = 6 }},
		"what lies behind its blocks":   {false, func(f api.Func) { _ = append(f.Blocks, api.Block{}) }},
		"what lies further behind them": {false, func(f api.Func) { f.Blocks[:5][4].Ins = nil }},
		"behind instructions":           {false, func(f api.Func) { _ = append(f.Blocks[0].Ins, api.Ins{}) }},
		"behind no instruction":         {false, func(f api.Func) { _ = append(f.Blocks[1].Ins, api.Ins{}) }},
		"behind arguments":              {false, func(f api.Func) { _ = append(f.Blocks[0].Ins[0].Args, 1) }},
		"behind an end's arguments":     {false, func(f api.Func) { _ = append(f.Blocks[0].End.Args, 1) }},
		"behind a pad's numbers":        {false, func(f api.Func) { _ = append(f.Blocks[2].Pad.Catch, 1) }},
	} {
		if got := Func(example(), c.do); got != c.want {
			t.Errorf("%s: %v", name, got)
		}
	}
	if !Func(api.Func{}, func(f api.Func) {}) || Func(api.Func{}, func(f api.Func) { _ = append(f.Blocks, api.Block{}) }) {
		t.Error("no block")
	}
}

func TestModule(t *testing.T) {
	for name, c := range map[string]struct {
		want bool
		do   func(m api.Module)
	}{
		"nothing":                 {true, func(m api.Module) {}},
		"a list of its own":       {true, func(m api.Module) { m.Funcs = append(slices.Clone(m.Funcs), api.Func{}) }},
		"what it was handed":      {true, func(m api.Module) { m.Funcs = m.Funcs[:1] }},
		"a function":              {false, func(m api.Module) { m.Funcs[1] = api.Func{} }},
		"a function's field":      {false, func(m api.Module) { m.Funcs[0].Params++ }},
		"a function's list":       {false, func(m api.Module) { m.Funcs[1].Blocks = m.Funcs[1].Blocks[:2] }},
		"a list cut":              {false, func(m api.Module) { m.Funcs[1].Blocks = m.Funcs[1].Blocks[:1:1] }},
		"a block":                 {false, func(m api.Module) { m.Funcs[1].Blocks[0].Landing = true }},
		"what lies behind it":     {false, func(m api.Module) { _ = append(m.Funcs, api.Func{}) }},
		"what lies further off":   {false, func(m api.Module) { m.Funcs[:4][3].Regs++ }},
		"behind a function's own": {false, func(m api.Module) { _ = append(m.Funcs[1].Blocks, api.Block{}) }},
	} {
		m := api.Module{Funcs: []api.Func{example(), example()}}
		if got := Module(m, c.do); got != c.want {
			t.Errorf("%s: %v", name, got)
		}
		if !reflect.DeepEqual(m, api.Module{Funcs: []api.Func{example(), example()}}) {
			t.Errorf("%s: not done with a module of its own", name)
		}
	}
	if !Module(api.Module{}, func(m api.Module) {}) || Module(api.Module{}, func(m api.Module) { _ = append(m.Funcs, api.Func{}) }) {
		t.Error("no function")
	}
}

func TestApart(t *testing.T) {
	list := []int{1, 2, 3}
	for name, c := range map[string]struct {
		want bool
		call func() []int
	}{
		"nothing":              {true, func() []int { return nil }},
		"new":                  {true, func() []int { return []int{1, 2} }},
		"one list":             {false, func() []int { return list }},
		"a piece of it":        {false, func() []int { return list[1:2] }},
		"spare room alone":     {true, func() []int { return make([]int, 0, 3) }},
		"a new list each time": {true, func() []int { return slices.Clone(list) }},
	} {
		list[0], list[1], list[2] = 1, 2, 3
		if got := Apart(c.call, -7); got != c.want {
			t.Errorf("%s: %v", name, got)
		}
	}
	if truths := []bool{true}; Apart(func() []bool { return truths }, false) {
		t.Error("one list of truths")
	}
}
