package live

import (
	"math"
	"slices"
	"testing"

	"davit/api"
)

// right has each Op and each Kind, and a Pad of each sort; it calls functions 1 and 2.
func right(t *testing.T) api.Func {
	f := function(t, 4, "block / const 0 7 / copy 1 0 / add 2 0 1 / sub 2 0 1 / mul 2 0 1 / div 2 0 1 / eq 2 0 1 / lt 2 0 1"+
		" / load 2 1 / store 1 2 / call 3 1 0 2 / out 3 / in 3 / invoke 3 1 1 3 0 2 / block / branch 3 2 2 / block / ret 3"+
		" / pad 3 catch 5 65535 / jump 1 / pad 2 all / throw 2 / pad 1 cleanup / call 1 2 / resume")
	f.Params = 2
	return f
}

// check: is something told of the function behind this change?
func check(t *testing.T, name string, want bool, change func(f *api.Func)) {
	t.Helper()
	f := right(t)
	change(&f)
	if at := At(f); (len(at) > 0) != want {
		t.Errorf("%s: at the beginnings is told %v", name, at)
	}
	if behind := Behind(f); (len(behind) > 0) != want {
		t.Errorf("%s: behind is told %v", name, behind)
	}
}

func TestSomethingIsToldOfWhatCouldBe(t *testing.T) {
	greatest := func(f *api.Func) {
		f.Params, f.Regs = api.MaxArgs, api.MaxRegs
		f.Blocks[1].Ins = slices.Repeat([]api.Ins{{Op: api.In, Dst: api.MaxRegs - 1}}, api.MaxIns)
		for len(f.Blocks) < api.MaxBlocks {
			f.Blocks = append(f.Blocks, f.Blocks[1])
		}
	}
	for name, change := range map[string]func(f *api.Func){
		"as it is":                         func(f *api.Func) {},
		"no Params":                        func(f *api.Func) { f.Params = 0 },
		"as many Params as places":         func(f *api.Func) { f.Params = 4 },
		"the greatest":                     greatest,
		"Catch full":                       func(f *api.Func) { f.Blocks[3].Pad.Catch = []uint16{0, 1, 2, 3, 4, 5, 6, 65535} },
		"a call of no Args":                func(f *api.Func) { f.Blocks[5].Ins[0].Args = []int{} },
		"the last function":                func(f *api.Func) { f.Blocks[5].Ins[0].F = api.MaxFuncs - 1 },
		"function 0":                       func(f *api.Func) { f.Blocks[5].Ins[0].F = 0 },
		"function 0 with Args":             func(f *api.Func) { f.Blocks[5].Ins[0].F, f.Blocks[5].Ins[0].Args = 0, []int{1, 2} },
		"function 0 with Args, first":      func(f *api.Func) { f.Blocks[0].Ins[10].F = 0 },
		"function 0 with Args, by Invoke":  func(f *api.Func) { f.Blocks[0].End.F = 0 },
		"as many Args as there may be":     func(f *api.Func) { f.Blocks[5].Ins[0].Args = []int{0, 1, 2, 3, 3, 2, 1, 0} },
		"other Args of the same functions": func(f *api.Func) { f.Blocks[0].Ins[10].Args, f.Blocks[0].End.Args = []int{3}, []int{1} },
	} {
		check(t, name, true, change)
	}
}

func TestNothingIsToldOfWhatCouldNot(t *testing.T) {
	for name, change := range map[string]func(f *api.Func){
		"Params below 0":                 func(f *api.Func) { f.Params = -1 },
		"too many Params":                func(f *api.Func) { f.Params, f.Regs = api.MaxArgs+1, api.MaxArgs+1 },
		"fewer places than Params":       func(f *api.Func) { f.Params = 5 },
		"too many places":                func(f *api.Func) { f.Regs = api.MaxRegs + 1 },
		"places below 0":                 func(f *api.Func) { f.Params, f.Regs = -1, -1 },
		"no block":                       func(f *api.Func) { f.Blocks = nil },
		"an empty list of blocks":        func(f *api.Func) { f.Blocks = f.Blocks[:0] },
		"too many blocks":                func(f *api.Func) { f.Blocks = append(f.Blocks, slices.Repeat(f.Blocks[1:2], api.MaxBlocks-5)...) },
		"a first block that is Landing":  func(f *api.Func) { f.Blocks[0].Landing, f.Blocks[0].Pad.All = true, true },
		"too many instructions":          func(f *api.Func) { f.Blocks[1].Ins = slices.Repeat(f.Blocks[0].Ins[12:], api.MaxIns+1) },
		"a Pad that does nothing":        func(f *api.Func) { f.Blocks[4].Pad.All = false },
		"a Pad where it isn't Landing":   func(f *api.Func) { f.Blocks[2].Pad.Dst = 1 },
		"one number twice in Catch":      func(f *api.Func) { f.Blocks[3].Pad.Catch[0] = 65535 },
		"too many numbers in Catch":      func(f *api.Func) { f.Blocks[3].Pad.Catch = []uint16{0, 1, 2, 3, 4, 5, 6, 7, 8} },
		"an Op that is none":             func(f *api.Func) { f.Blocks[0].Ins[4].Op = 14 },
		"Op 0":                           func(f *api.Func) { f.Blocks[0].Ins[4].Op = 0 },
		"a Kind that is none":            func(f *api.Func) { f.Blocks[4].End.Kind = 7 },
		"Kind 0":                         func(f *api.Func) { f.Blocks[4].End = api.End{} },
		"a field that isn't used":        func(f *api.Func) { f.Blocks[0].Ins[1].B = 1 },
		"K where it isn't used":          func(f *api.Func) { f.Blocks[0].Ins[2].K = 1 },
		"F where it isn't used":          func(f *api.Func) { f.Blocks[0].Ins[2].F = 1 },
		"Args where they aren't used":    func(f *api.Func) { f.Blocks[0].Ins[2].Args = []int{0} },
		"an end's field that isn't used": func(f *api.Func) { f.Blocks[2].End.To = 1 },
		"a goal that isn't there":        func(f *api.Func) { f.Blocks[3].End.To = 6 },
		"an Else that isn't there":       func(f *api.Func) { f.Blocks[1].End.Else = 6 },
		"an Invoke's To not there":       func(f *api.Func) { f.Blocks[0].End.To = 6 },
		"a Pad that isn't there":         func(f *api.Func) { f.Blocks[0].End.Pad = 6 },
		"a goal that is Landing":         func(f *api.Func) { f.Blocks[3].End.To = 4 },
		"a Pad that isn't Landing":       func(f *api.Func) { f.Blocks[0].End.Pad = 2 },
		"one place too few":              func(f *api.Func) { f.Regs = 3 },
		"calls of one that are unlike":   func(f *api.Func) { f.Blocks[0].Ins[10].Args = []int{3} },
		"an Invoke unlike a Call":        func(f *api.Func) { f.Blocks[0].End.Args = nil },
		"too many Args":                  func(f *api.Func) { f.Blocks[5].Ins[0].Args = []int{0, 1, 2, 3, 3, 2, 1, 0, 1} },
		"too many Args of an Invoke":     func(f *api.Func) { f.Blocks[0].End.F, f.Blocks[0].End.Args = 3, make([]int, 9) },
	} {
		check(t, name, false, change)
	}
}

// Numbers that are no place, no block and no function here, some of which would be one if they were cut to fewer bits.
func TestNothingIsToldOfNumbersOfNothing(t *testing.T) {
	for _, n := range []int{-1, -2, 16, 64, 256, 1 << 16, 1<<16 + 1, 1 << 32, 1<<32 + 1, math.MaxInt, math.MinInt, math.MinInt + 1} {
		for name, change := range map[string]func(f *api.Func){
			"Dst of an instruction": func(f *api.Func) { f.Blocks[0].Ins[0].Dst = n },
			"A of an instruction":   func(f *api.Func) { f.Blocks[0].Ins[1].A = n },
			"B of an instruction":   func(f *api.Func) { f.Blocks[0].Ins[2].B = n },
			"A of a Store":          func(f *api.Func) { f.Blocks[0].Ins[9].A = n },
			"Args of a Call":        func(f *api.Func) { f.Blocks[0].Ins[10].Args[1] = n },
			"F of a Call":           func(f *api.Func) { f.Blocks[0].Ins[10].F = n },
			"A of an Out":           func(f *api.Func) { f.Blocks[0].Ins[11].A = n },
			"Dst of an Invoke":      func(f *api.Func) { f.Blocks[0].End.Dst = n },
			"Args of an Invoke":     func(f *api.Func) { f.Blocks[0].End.Args[0] = n },
			"F of an Invoke":        func(f *api.Func) { f.Blocks[0].End.F = n },
			"To of an Invoke":       func(f *api.Func) { f.Blocks[0].End.To = n },
			"Pad of an Invoke":      func(f *api.Func) { f.Blocks[0].End.Pad = n },
			"A of a Branch":         func(f *api.Func) { f.Blocks[1].End.A = n },
			"To of a Branch":        func(f *api.Func) { f.Blocks[1].End.To = n },
			"Else of a Branch":      func(f *api.Func) { f.Blocks[1].End.Else = n },
			"A of a Ret":            func(f *api.Func) { f.Blocks[2].End.A = n },
			"Dst of a Pad":          func(f *api.Func) { f.Blocks[3].Pad.Dst = n },
			"To of a Jump":          func(f *api.Func) { f.Blocks[3].End.To = n },
			"A of a Throw":          func(f *api.Func) { f.Blocks[4].End.A = n },
			"Regs":                  func(f *api.Func) { f.Regs = max(n, -n, api.MaxRegs+1) },
			"Params":                func(f *api.Func) { f.Params = max(n, -n, 9) },
		} {
			check(t, name, false, change)
		}
	}
}
