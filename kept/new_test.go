package kept

import (
	"reflect"
	"slices"
	"testing"

	"davit/api"
	"davit/shape"
)

// two functions, each of which has lists of all sorts, nil and empty ones, too.
func two() api.Module {
	m := api.Module{Funcs: []api.Func{example(), example()}}
	m.Funcs[1].Blocks[1].Ins = []api.Ins{}
	return m
}

func TestNew(t *testing.T) {
	other := shape.Copy(two())
	for name, c := range map[string]struct {
		want bool
		call func(m api.Module) api.Module
	}{
		"a copy":                  {true, shape.Copy},
		"nothing":                 {true, func(m api.Module) api.Module { return api.Module{} }},
		"a copy with spare room":  {true, changed(func(c, m api.Module) { c.Funcs[0].Blocks[0].End.Args = append(make([]int, 0, 9), 0) })},
		"what it was handed":      {false, func(m api.Module) api.Module { return m }},
		"a list of functions":     {false, func(m api.Module) api.Module { return api.Module{Funcs: slices.Clone(m.Funcs)} }},
		"one kept":                {false, func(m api.Module) api.Module { return other }},
		"a function of it":        {false, changed(func(c, m api.Module) { c.Funcs[1] = m.Funcs[1] })},
		"a block of it":           {false, changed(func(c, m api.Module) { c.Funcs[0].Blocks[1] = m.Funcs[0].Blocks[0] })},
		"instructions of it":      {false, changed(func(c, m api.Module) { c.Funcs[0].Blocks[0].Ins = m.Funcs[0].Blocks[0].Ins })},
		"arguments of it":         {false, changed(func(c, m api.Module) { c.Funcs[0].Blocks[0].Ins[0].Args = m.Funcs[0].Blocks[0].Ins[0].Args })},
		"an end's arguments":      {false, changed(func(c, m api.Module) { c.Funcs[0].Blocks[1].End.Args = m.Funcs[0].Blocks[0].End.Args })},
		"a pad's numbers":         {false, changed(func(c, m api.Module) { c.Funcs[0].Blocks[1].Pad.Catch = m.Funcs[1].Blocks[2].Pad.Catch })},
		"a piece of arguments":    {false, changed(func(c, m api.Module) { c.Funcs[0].Blocks[1].End.Args = m.Funcs[0].Blocks[0].End.Args[:0] })},
		"spare room of it":        {false, changed(func(c, m api.Module) { c.Funcs[1].Blocks[1].Ins = m.Funcs[1].Blocks[1].Ins })},
		"one list twice":          {false, changed(func(c, m api.Module) { c.Funcs[0].Blocks[0].End.Args = c.Funcs[0].Blocks[0].Ins[0].Args })},
		"blocks twice":            {false, changed(func(c, m api.Module) { c.Funcs[1].Blocks = c.Funcs[0].Blocks })},
		"instructions twice":      {false, changed(func(c, m api.Module) { c.Funcs[1].Blocks[0].Ins = c.Funcs[0].Blocks[0].Ins })},
		"what is caught twice":    {false, changed(func(c, m api.Module) { c.Funcs[1].Blocks[2].Pad.Catch = c.Funcs[0].Blocks[2].Pad.Catch })},
		"a list behind another":   {false, changed(func(c, m api.Module) { halves(&c.Funcs[0].Blocks[0], 2) })},
		"one apart from another":  {true, changed(func(c, m api.Module) { halves(&c.Funcs[0].Blocks[0], 1) })},
		"what is handed in again": {false, func(m api.Module) api.Module { m.Funcs = m.Funcs[:1]; return m }},
	} {
		m := two()
		if got := New(m, c.call); got != c.want {
			t.Errorf("%s: %v", name, got)
		}
		if !reflect.DeepEqual(m, two()) {
			t.Errorf("%s: not done with a module of its own", name)
		}
	}
}

// changed is a call that answers a copy with which this is done.
func changed(do func(c, m api.Module)) func(m api.Module) api.Module {
	return func(m api.Module) api.Module {
		c := shape.Copy(m)
		do(c, m)
		return c
	}
}

// halves gives a block's end, and its first instruction, one half each of an array; the end's goes on so far with its spare room.
func halves(b *api.Block, room int) {
	both := []int{1, 2}
	b.End.Args, b.Ins[0].Args = both[:1:room], both[1:]
}

func TestNewOfManyItems(t *testing.T) {
	m := api.Module{Funcs: slices.Repeat([]api.Func{example()}, 30000)}
	if !New(m, shape.Copy) {
		t.Error("a copy")
	}
	if New(m, changed(func(c, m api.Module) { c.Funcs[29999].Blocks[2].Pad.Catch = c.Funcs[0].Blocks[2].Pad.Catch })) {
		t.Error("what is caught twice")
	}
}

func TestNewFunc(t *testing.T) {
	f := example()
	if !NewFunc(f, func(f api.Func) api.Func { return shape.Copy(api.Module{Funcs: []api.Func{f}}).Funcs[0] }) {
		t.Error("a copy")
	}
	if !NewFunc(f, func(f api.Func) api.Func { return api.Func{} }) {
		t.Error("nothing")
	}
	if NewFunc(f, func(f api.Func) api.Func { return f }) {
		t.Error("what it was handed")
	}
	if NewFunc(f, func(f api.Func) api.Func { f.Blocks = slices.Clone(f.Blocks); return f }) {
		t.Error("a list of blocks")
	}
}
