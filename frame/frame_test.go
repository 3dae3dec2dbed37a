package frame

import (
	"math"
	"reflect"
	"slices"
	"testing"

	"davit/api"
	"davit/runs"
	"davit/shape"
)

// Numbers far from any that is right, some of which would be right if they were cut to fewer bits.
var farNumbers = []int{-1000, -256, 256, 1000, 1 << 16, 1<<16 + 1, 1 << 32, 1<<32 + 1, math.MaxInt, math.MaxInt - 1, math.MinInt, math.MinInt + 1}

// example is a module of four functions, each unlike the others in Params, Regs, blocks and instructions.
func example() api.Module {
	return api.Module{Funcs: []api.Func{
		{Regs: 4, Blocks: []api.Block{
			{Ins: exampleIns(), End: api.End{Kind: api.Invoke, Dst: 1, F: 1, Args: []int{3}, To: 1, Pad: 2}},
			{End: api.End{Kind: api.Ret, A: 2}},
			{Landing: true, Pad: api.Pad{Dst: 3, Catch: []uint16{5, 65535}}, Ins: []api.Ins{{Op: api.Const, Dst: 3, K: 9}}, End: api.End{Kind: api.Jump, To: 1}},
			{Landing: true, Pad: api.Pad{Dst: 0, Cleanup: true}, End: api.End{Kind: api.Resume}},
			{Landing: true, Pad: api.Pad{Dst: 2, All: true}, Ins: []api.Ins{{Op: api.In, Dst: 3}, {Op: api.Out, A: 3}}, End: api.End{Kind: api.Ret, A: 3}},
		}},
		{Params: 1, Regs: 2, Blocks: []api.Block{
			{Ins: []api.Ins{{Op: api.Lt, Dst: 1, A: 0, B: 0}}, End: api.End{Kind: api.Jump, To: 2}},
			{Landing: true, Pad: api.Pad{Dst: 1, All: true}, End: api.End{Kind: api.Resume}},
			{End: api.End{Kind: api.Throw}},
		}},
		{Params: 3, Regs: 5, Blocks: []api.Block{{Ins: []api.Ins{{Op: api.Add, Dst: 4, A: 1, B: 2}, {Op: api.Copy, Dst: 0, A: 4}}, End: api.End{Kind: api.Ret}}}},
		{Params: api.MaxArgs, Regs: api.MaxArgs, Blocks: []api.Block{{End: api.End{Kind: api.Ret, A: 7}}}},
	}}
}

func exampleIns() []api.Ins {
	return []api.Ins{
		{Op: api.Const, Dst: 0, K: 7},
		{Op: api.Mul, Dst: 1, A: 0, B: 0},
		{Op: api.Store, A: 0, B: 1},
		{Op: api.Div, Dst: 2, A: 1, B: 3},
	}
}

// mayNotBe are modules with frames that could be theirs, if the modules themselves could be.
func mayNotBe() map[string]api.Module {
	broken := func(change func(m *api.Module)) api.Module {
		m := example()
		change(&m)
		return m
	}
	return map[string]api.Module{
		"no function":                     {},
		"too many functions":              broken(func(m *api.Module) { m.Funcs = slices.Repeat(m.Funcs, 5) }),
		"a first function with Params":    broken(func(m *api.Module) { m.Funcs[0].Params = 1 }),
		"a first block that is Landing":   broken(func(m *api.Module) { m.Funcs[1].Blocks[0] = m.Funcs[1].Blocks[1] }),
		"an Op that is none":              broken(func(m *api.Module) { m.Funcs[2].Blocks[0].Ins[1].Op = 14 }),
		"a place that isn't there":        broken(func(m *api.Module) { m.Funcs[0].Blocks[4].Pad.Dst = 4 }),
		"an end that is none":             broken(func(m *api.Module) { m.Funcs[3].Blocks[0].End = api.End{} }),
		"a function without a block":      broken(func(m *api.Module) { m.Funcs[3].Blocks = nil }),
		"a pad that does nothing at all":  broken(func(m *api.Module) { m.Funcs[0].Blocks[3].Pad.Cleanup = false }),
		"a call with too few arguments":   broken(func(m *api.Module) { m.Funcs[0].Blocks[0].End.Args = nil }),
		"more places than there may be":   broken(func(m *api.Module) { m.Funcs[1].Regs = 257 }),
		"fewer places than its arguments": broken(func(m *api.Module) { m.Funcs[3].Regs = 7 }),
	}
}

// words are so many, all unlike, none 0.
func words(count int) []uint16 {
	list := make([]uint16, max(count, 0))
	for i := range list {
		list[i] = uint16(40000 + 7*i)
	}
	return list
}

// allRight calls do with each frame that the module may have, but for the words in it.
func allRight(m api.Module, do func(f api.Frame)) {
	for n, of := range m.Funcs {
		for i, b := range of.Blocks {
			for at := range len(b.Ins) + 1 {
				do(api.Frame{F: n, Block: i, At: at, Regs: words(of.Regs), Fly: 77})
			}
		}
	}
}

func TestFramesThatMayBe(t *testing.T) {
	m := example()
	if !shape.Right(m) {
		t.Fatal("the example may not be")
	}
	count := 0
	allRight(m, func(f api.Frame) {
		count++
		if !Right(m, f) {
			t.Errorf("%+v may not be", f)
		}
		f.Regs, f.Fly = make([]uint16, len(f.Regs)), 0
		if !Right(m, f) {
			t.Errorf("%+v may not be", f)
		}
	})
	if count != 20 {
		t.Errorf("%d frames were tried", count)
	}
}

// An oracle that knows the example's numbers by heart, not from the module.
func mayBe(f api.Frame) bool {
	ins := [][]int{{4, 0, 1, 0, 2}, {1, 0, 0}, {2}, {0}}
	regs := []int{4, 2, 5, 8}
	if f.F < 0 || f.F > 3 || f.Block < 0 || f.Block >= len(ins[f.F]) {
		return false
	}
	return f.At >= 0 && f.At <= ins[f.F][f.Block] && len(f.Regs) == regs[f.F]
}

func TestEveryFrameByTheEdges(t *testing.T) {
	m := example()
	var right int
	for n := -2; n <= 5; n++ {
		for block := -2; block <= 6; block++ {
			for at := -2; at <= 6; at++ {
				for regs := range 11 {
					f := api.Frame{F: n, Block: block, At: at, Regs: words(regs)}
					if got, want := Right(m, f), mayBe(f); got != want {
						t.Errorf("%+v: Right is %v", f, got)
					} else if got {
						right++
					}
				}
			}
		}
	}
	if right != 20 {
		t.Errorf("%d frames may be", right)
	}
}

func TestFramesFarOff(t *testing.T) {
	m := example()
	for _, n := range farNumbers {
		allRight(m, func(f api.Frame) {
			for i, g := range []api.Frame{
				{F: n, Block: f.Block, At: f.At, Regs: f.Regs},
				{F: f.F, Block: n, At: f.At, Regs: f.Regs},
				{F: f.F, Block: f.Block, At: n, Regs: f.Regs},
				{F: n, Block: n, At: n, Regs: f.Regs},
			} {
				if Right(m, g) {
					t.Errorf("%d: %+v may be", i, g)
				}
			}
		})
	}
	for _, count := range []int{255, 256, 257, 65536, 65540} {
		if Right(m, api.Frame{Regs: make([]uint16, count)}) {
			t.Errorf("%d places may be", count)
		}
	}
}

func TestNoFrameOfAModuleThatMayNotBe(t *testing.T) {
	for name, m := range mayNotBe() {
		if shape.Right(m) {
			t.Fatalf("%s: the module may be", name)
		}
		allRight(m, func(f api.Frame) {
			if Right(m, f) {
				t.Errorf("%s: %+v may be", name, f)
			}
		})
		if Right(m, api.Frame{}) {
			t.Errorf("%s: a frame of nothing may be", name)
		}
	}
}

// One block, no place: the least frame there is, whose list may be nil or empty.
func TestAFrameWithoutPlaces(t *testing.T) {
	m := api.Module{Funcs: []api.Func{{Blocks: []api.Block{{End: api.End{Kind: api.Resume}}}}}}
	if !Right(m, api.Frame{}) || !Right(m, api.Frame{Regs: []uint16{}}) || Right(m, api.Frame{Regs: words(1)}) {
		t.Error("Right of no place")
	}
	for _, args := range [][]uint16{nil, {}} {
		if f, err := New(m, 0, args); err != api.OK || !runs.AlikeFrames(f, api.Frame{}) {
			t.Error(f, err)
		}
	}
	f, err := New(m, 0, words(1))
	if err != api.ErrArg || !reflect.DeepEqual(f, api.Frame{}) {
		t.Error(f, err)
	}
}

func TestTheGreatestFrame(t *testing.T) {
	last := api.Block{Ins: slices.Repeat([]api.Ins{{Op: api.In, Dst: 255}}, api.MaxIns), End: api.End{Kind: api.Ret}}
	of := api.Func{Params: 8, Regs: 256, Blocks: slices.Repeat([]api.Block{last}, api.MaxBlocks)}
	m := api.Module{Funcs: append([]api.Func{{Regs: 1, Blocks: []api.Block{{End: api.End{Kind: api.Ret}}}}}, slices.Repeat([]api.Func{of}, 15)...)}
	if !Right(m, api.Frame{F: 15, Block: 63, At: 64, Regs: words(256)}) {
		t.Error("the greatest may not be")
	}
	for i, f := range []api.Frame{
		{F: 16, Block: 63, At: 64, Regs: words(256)},
		{F: 15, Block: 64, At: 64, Regs: words(256)},
		{F: 15, Block: 63, At: 65, Regs: words(256)},
		{F: 15, Block: 63, At: 64, Regs: words(257)},
		{F: 15, Block: 63, At: 64, Regs: words(255)},
	} {
		if Right(m, f) {
			t.Errorf("%d: one more may be", i)
		}
	}
	f, err := New(m, 15, words(8))
	if err != api.OK || !runs.AlikeFrames(f, api.Frame{F: 15, Regs: append(words(8), make([]uint16, 248)...)}) {
		t.Error(f, err)
	}
}

func TestNew(t *testing.T) {
	m := example()
	for _, c := range []struct {
		name string
		f    int
		args []uint16
		regs []uint16
	}{
		{"no argument, nil", 0, nil, []uint16{0, 0, 0, 0}},
		{"no argument, empty", 0, []uint16{}, []uint16{0, 0, 0, 0}},
		{"one argument", 1, []uint16{65535}, []uint16{65535, 0}},
		{"three arguments", 2, []uint16{7, 0, 9}, []uint16{7, 0, 9, 0, 0}},
		{"as many arguments as places", 3, []uint16{8, 7, 6, 5, 4, 3, 2, 1}, []uint16{8, 7, 6, 5, 4, 3, 2, 1}},
	} {
		f, err := New(m, c.f, c.args)
		if err != api.OK || !runs.AlikeFrames(f, api.Frame{F: c.f, Block: 0, At: 0, Regs: c.regs, Fly: 0}) {
			t.Errorf("%s: %+v, %v", c.name, f, err)
		}
		if !Right(m, f) {
			t.Errorf("%s: what begins may not be", c.name)
		}
	}
}

func TestNoNewFrame(t *testing.T) {
	refused := func(name string, m api.Module, n, args int) {
		t.Helper()
		if f, err := New(m, n, words(args)); err != api.ErrArg || !reflect.DeepEqual(f, api.Frame{}) {
			t.Errorf("%s: function %d with %d arguments: %+v, %v", name, n, args, f, err)
		}
	}
	for name, m := range mayNotBe() {
		for n, of := range m.Funcs {
			refused(name, m, n, of.Params)
		}
		refused(name, m, 0, 0)
	}
	m := example()
	for args := range 12 {
		for _, n := range append([]int{-3, -2, -1, 4, 5, 15, 16}, farNumbers...) {
			refused("no such function", m, n, args)
		}
		for n, of := range m.Funcs {
			if args != of.Params {
				refused("another number of arguments", m, n, args)
			}
		}
	}
	refused("as many arguments as would be right, cut to 8 bits", m, 1, 257)
	refused("as many arguments as would be right, cut to 16 bits", m, 1, 65537)
}
