package shape

import (
	"math"
	"slices"
	"strings"
	"testing"

	"davit/api"
)

const regs = 4

// Numbers far from any that is right, some of which would be right if they were cut to fewer bits.
var farNumbers = []int{-2, -256, 256, 1 << 16, 1<<16 + 1, 1 << 32, 1<<32 + 1, math.MaxInt, math.MinInt, math.MinInt + 1}

// example is a module with each Op and each Kind, of which every test breaks one thing.
func example() api.Module {
	return api.Module{Funcs: []api.Func{exampleFirst(), answers(2), answers(2), answers(0), answers(api.MaxArgs)}}
}

func exampleFirst() api.Func {
	return api.Func{Params: 0, Regs: regs, Blocks: []api.Block{
		{Ins: exampleIns(), End: api.End{Kind: api.Jump, To: 1}},
		{End: api.End{Kind: api.Branch, A: 3, To: 2, Else: 1}},
		{End: api.End{Kind: api.Invoke, Dst: 1, F: 1, Args: []int{3, 0}, To: 3, Pad: 4}},
		{End: api.End{Kind: api.Ret, A: 2}},
		{Landing: true, Pad: api.Pad{Dst: 3, Catch: []uint16{5, 65535}, All: true, Cleanup: true}, End: api.End{Kind: api.Throw, A: 3}},
		{Landing: true, Pad: api.Pad{Cleanup: true}, Ins: []api.Ins{{Op: api.Out, A: 1}}, End: api.End{Kind: api.Resume}},
	}}
}

func exampleIns() []api.Ins {
	return []api.Ins{
		{Op: api.Const, Dst: 3, K: 65535},
		{Op: api.Copy, Dst: 1, A: 2},
		{Op: api.Add, Dst: 1, A: 2, B: 3},
		{Op: api.Sub, Dst: 1, A: 2, B: 3},
		{Op: api.Mul, Dst: 1, A: 2, B: 3},
		{Op: api.Div, Dst: 1, A: 2, B: 3},
		{Op: api.Eq, Dst: 1, A: 2, B: 3},
		{Op: api.Lt, Dst: 1, A: 2, B: 3},
		{Op: api.Load, Dst: 1, A: 3},
		{Op: api.Store, A: 2, B: 3},
		{Op: api.Call, Dst: 1, F: 1, Args: []int{3, 3}},
		{Op: api.Out, A: 3},
		{Op: api.In, Dst: 3},
	}
}

// answers is a function that answers its first place.
func answers(params int) api.Func {
	return api.Func{Params: params, Regs: max(params, 1), Blocks: []api.Block{{End: api.End{Kind: api.Ret}}}}
}

// check holds Right against want, and Func of each function but the one numbered n, which alone may be at fault.
func check(t *testing.T, name string, m api.Module, n int, want bool) {
	t.Helper()
	if got := Right(m); got != want {
		t.Errorf("%s: Right is %v", name, got)
	}
	for i, f := range m.Funcs {
		if got := Func(m, f); got != (want || i != n) {
			t.Errorf("%s: Func of function %d is %v", name, i, got)
		}
	}
}

// checkFirst is check of the example, its first function changed.
func checkFirst(t *testing.T, name string, want bool, change func(f *api.Func)) {
	t.Helper()
	m := example()
	change(&m.Funcs[0])
	check(t, name, m, 0, want)
}

func TestModulesThatMayBe(t *testing.T) {
	check(t, "each Op and Kind", example(), 0, true)
	check(t, "the chapter's example", api.Module{Funcs: []api.Func{answers(0)}}, 0, true)
	check(t, "no place at all", api.Module{Funcs: []api.Func{{Blocks: []api.Block{{End: api.End{Kind: api.Resume}}}}}}, 0, true)
	check(t, "a function that calls itself and goes round", api.Module{Funcs: []api.Func{{Regs: 1, Blocks: []api.Block{
		{Ins: []api.Ins{{Op: api.Call}}, End: api.End{Kind: api.Jump}},
	}}}}, 0, true)
	check(t, "empty lists where none are", api.Module{Funcs: []api.Func{{Regs: 1, Blocks: []api.Block{
		{Pad: api.Pad{Catch: []uint16{}}, Ins: []api.Ins{{Op: api.In, Args: []int{}}}, End: api.End{Kind: api.Ret, Args: []int{}}},
	}}}}, 0, true)
}

func TestHowManyFunctions(t *testing.T) {
	for _, c := range []struct {
		count int
		want  bool
	}{{0, false}, {1, true}, {2, true}, {api.MaxFuncs, true}, {api.MaxFuncs + 1, false}, {1000, false}} {
		var m api.Module
		for range c.count {
			m.Funcs = append(m.Funcs, answers(0))
		}
		if Right(m) != c.want {
			t.Errorf("%d functions: Right is %v", c.count, !c.want)
		}
		if !Func(m, answers(0)) {
			t.Errorf("%d functions: Func asks how many", c.count)
		}
	}
}

func TestFirstFunctionHasNoParams(t *testing.T) {
	for params := 1; params <= api.MaxArgs; params++ {
		m := api.Module{Funcs: []api.Func{answers(params), answers(0)}}
		if Right(m) {
			t.Errorf("Right of a first function with %d Params", params)
		}
		if !Func(m, m.Funcs[0]) {
			t.Errorf("Func of %d Params asks whether it is the first", params)
		}
		check(t, "a second one with Params", api.Module{Funcs: []api.Func{answers(0), answers(params)}}, 1, true)
	}
}

// A fault counts in whichever function it stands.
func TestAnyFunctionMayBeAtFault(t *testing.T) {
	for n := range example().Funcs {
		m := example()
		m.Funcs[n].Blocks[0].End = api.End{}
		check(t, "an end of Kind 0", m, n, false)
	}
}

func TestParamsAndRegs(t *testing.T) {
	for _, c := range []struct {
		params, regs int
		want         bool
	}{
		{0, 1, true}, {1, 1, true}, {3, 3, true}, {3, 4, true}, {3, 2, false},
		{8, 8, true}, {8, 256, true}, {0, 256, true}, {8, 7, false},
		{9, 9, false}, {9, 256, false}, {8, 257, false}, {0, 257, false},
		{-1, 1, false}, {-1, 256, false}, {math.MinInt, 256, false},
		{math.MaxInt, math.MaxInt, false}, {0, math.MaxInt, false}, {1 << 32, 1 << 32, false},
	} {
		m := api.Module{Funcs: []api.Func{answers(0), {Params: c.params, Regs: c.regs, Blocks: []api.Block{{End: api.End{Kind: api.Ret}}}}}}
		check(t, "Params and Regs", m, 1, c.want)
		if t.Failed() {
			t.Fatalf("at Params %d, Regs %d", c.params, c.regs)
		}
	}
	// No place is used here, so that Regs alone is at fault, or is not.
	for _, c := range []struct {
		params, regs int
		want         bool
	}{{0, 0, true}, {0, -1, false}, {-1, -1, false}, {-1, 0, false}, {1, 0, false}, {0, math.MinInt, false}} {
		m := api.Module{Funcs: []api.Func{answers(0), {Params: c.params, Regs: c.regs, Blocks: []api.Block{{End: api.End{Kind: api.Resume}}}}}}
		check(t, "Params and Regs without a place used", m, 1, c.want)
	}
}

func TestHowManyBlocks(t *testing.T) {
	for _, c := range []struct {
		count int
		want  bool
	}{{0, false}, {1, true}, {api.MaxBlocks, true}, {api.MaxBlocks + 1, false}} {
		m := api.Module{Funcs: []api.Func{answers(0), answers(1)}}
		m.Funcs[1].Blocks = nil
		for range c.count {
			m.Funcs[1].Blocks = append(m.Funcs[1].Blocks, api.Block{End: api.End{Kind: api.Ret}})
		}
		check(t, "how many blocks", m, 1, c.want)
		if c.count == 0 {
			m.Funcs[1].Blocks = []api.Block{}
			check(t, "an empty list of blocks", m, 1, false)
		}
	}
}

func TestFirstBlockIsNotLanding(t *testing.T) {
	landing := api.Block{Landing: true, Pad: api.Pad{All: true}, End: api.End{Kind: api.Resume}}
	plain := api.Block{End: api.End{Kind: api.Resume}}
	check(t, "second Landing", api.Module{Funcs: []api.Func{{Regs: 1, Blocks: []api.Block{plain, landing}}}}, 0, true)
	check(t, "first Landing", api.Module{Funcs: []api.Func{{Regs: 1, Blocks: []api.Block{landing, plain}}}}, 0, false)
	check(t, "alone and Landing", api.Module{Funcs: []api.Func{{Regs: 1, Blocks: []api.Block{landing}}}}, 0, false)
}

func TestHowManyInstructions(t *testing.T) {
	for block := range exampleFirst().Blocks {
		for _, c := range []struct {
			count int
			want  bool
		}{{0, true}, {1, true}, {api.MaxIns, true}, {api.MaxIns + 1, false}} {
			checkFirst(t, "how many instructions", c.want, func(f *api.Func) {
				f.Blocks[block].Ins = nil
				for range c.count {
					f.Blocks[block].Ins = append(f.Blocks[block].Ins, api.Ins{Op: api.In, Dst: 1})
				}
			})
		}
	}
}

// An instruction or an end counts in whichever block, and wherever in it, it stands.
func TestAnyBlockMayBeAtFault(t *testing.T) {
	for block := range exampleFirst().Blocks {
		checkFirst(t, "an end of Kind 0", false, func(f *api.Func) { f.Blocks[block].End = api.End{} })
		for _, at := range []int{0, 1, api.MaxIns - 1} {
			checkFirst(t, "an Op 0", false, func(f *api.Func) {
				f.Blocks[block].Ins = make([]api.Ins, api.MaxIns)
				for i := range f.Blocks[block].Ins {
					f.Blocks[block].Ins[i] = api.Ins{Op: api.In}
				}
				f.Blocks[block].Ins[at] = api.Ins{}
			})
		}
	}
}

func TestPads(t *testing.T) {
	full := []uint16{0, 1, 2, 3, 4, 5, 6, 65535}
	for _, c := range []struct {
		name string
		pad  api.Pad
		want bool
	}{
		{"a number", api.Pad{Catch: []uint16{0}}, true},
		{"All", api.Pad{All: true}, true},
		{"Cleanup", api.Pad{Cleanup: true}, true},
		{"all of it", api.Pad{Dst: 3, Catch: full, All: true, Cleanup: true}, true},
		{"neither catches nor cleans up", api.Pad{}, false},
		{"neither, with a place", api.Pad{Dst: 3}, false},
		{"neither, an empty list", api.Pad{Catch: []uint16{}}, false},
		{"Catch full", api.Pad{Catch: full}, true},
		{"Catch too long", api.Pad{Catch: append([]uint16{9}, full...)}, false},
		{"Catch too long beside All", api.Pad{Catch: append([]uint16{9}, full...), All: true}, false},
		{"Catch too long beside Cleanup", api.Pad{Catch: append([]uint16{9}, full...), Cleanup: true}, false},
		{"two alike", api.Pad{Catch: []uint16{5, 5}}, false},
		{"two noughts", api.Pad{Catch: []uint16{0, 0}}, false},
		{"first and last alike", api.Pad{Catch: []uint16{0, 1, 2, 3, 4, 5, 6, 0}}, false},
		{"last two alike", api.Pad{Catch: []uint16{0, 1, 2, 3, 4, 5, 6, 6}}, false},
		{"two alike beside All", api.Pad{Catch: []uint16{5, 7, 5}, All: true}, false},
		{"two alike beside Cleanup", api.Pad{Catch: []uint16{5, 7, 5}, Cleanup: true}, false},
		{"falling", api.Pad{Catch: []uint16{7, 5, 6}}, true},
		{"Dst last", api.Pad{Dst: regs - 1, All: true}, true},
		{"Dst beyond", api.Pad{Dst: regs, All: true}, false},
		{"Dst below 0", api.Pad{Dst: -1, All: true}, false},
	} {
		checkFirst(t, c.name, c.want, func(f *api.Func) { f.Blocks[4].Pad = c.pad })
	}
	for _, n := range farNumbers {
		checkFirst(t, "Dst far off", false, func(f *api.Func) { f.Blocks[4].Pad.Dst = n })
	}
	for i := range full {
		for j := range i {
			catch := append([]uint16{}, full...)
			catch[i] = catch[j]
			checkFirst(t, "alike in Catch", false, func(f *api.Func) { f.Blocks[4].Pad.Catch = catch })
		}
	}
}

func TestPadOfABlockThatIsNotLanding(t *testing.T) {
	for block := range 4 {
		for _, c := range []struct {
			name string
			pad  api.Pad
			want bool
		}{
			{"nought", api.Pad{}, true},
			{"an empty Catch", api.Pad{Catch: []uint16{}}, true},
			{"Dst", api.Pad{Dst: 1}, false},
			{"Dst below 0", api.Pad{Dst: -1}, false},
			{"Catch", api.Pad{Catch: []uint16{0}}, false},
			{"All", api.Pad{All: true}, false},
			{"Cleanup", api.Pad{Cleanup: true}, false},
		} {
			checkFirst(t, c.name+" where it isn't Landing", c.want, func(f *api.Func) { f.Blocks[block].Pad = c.pad })
		}
	}
}

// opUses says of each Op what the chapter says that it uses.
var opUses = map[int]string{
	api.Const: "Dst K", api.Copy: "Dst A",
	api.Add: "Dst A B", api.Sub: "Dst A B", api.Mul: "Dst A B", api.Div: "Dst A B", api.Eq: "Dst A B", api.Lt: "Dst A B",
	api.Load: "Dst A", api.Store: "A B", api.Call: "Dst F", api.Out: "A", api.In: "Dst",
}

// endUses likewise, of each Kind.
var endUses = map[int]string{
	api.Ret: "A", api.Jump: "To", api.Branch: "A To Else", api.Invoke: "Dst F To Pad", api.Throw: "A", api.Resume: "",
}

func checkIns(t *testing.T, field string, x api.Ins, want bool) {
	t.Helper()
	checkFirst(t, field, want, func(f *api.Func) { f.Blocks[0].Ins = []api.Ins{{Op: api.In}, x} })
	if t.Failed() {
		t.Fatalf("at %+v", x)
	}
}

// placeValues are held against a place: what it may be where it is used, and where it isn't.
var placeValues = []struct {
	n            int
	used, unused bool
}{{0, true, true}, {1, true, false}, {regs - 1, true, false}, {regs, false, false}, {-1, false, false}}

func pick(list, field string, used, unused bool) bool {
	if slices.Contains(strings.Fields(list), field) {
		return used
	}
	return unused
}

func TestPlacesOfInstructions(t *testing.T) {
	for _, right := range exampleIns() {
		use := opUses[right.Op]
		for _, field := range []string{"Dst", "A", "B"} {
			set := func(n int) api.Ins {
				x := right
				*map[string]*int{"Dst": &x.Dst, "A": &x.A, "B": &x.B}[field] = n
				return x
			}
			for _, v := range placeValues {
				checkIns(t, field, set(v.n), pick(use, field, v.used, v.unused))
			}
			for _, n := range farNumbers {
				checkIns(t, field, set(n), false)
			}
		}
	}
}

func TestConstOfInstructions(t *testing.T) {
	for _, x := range exampleIns() {
		for _, k := range []uint16{0, 1, 255, 256, 32768, 65535} {
			x.K = k
			checkIns(t, "K", x, k == 0 || x.Op == api.Const)
		}
	}
}

func TestCallsThatAreNot(t *testing.T) {
	for _, right := range exampleIns() {
		if right.Op == api.Call {
			continue
		}
		for _, n := range append([]int{1, 3, -1, 4, 5}, farNumbers...) {
			x := right
			x.F = n
			checkIns(t, "F of no call", x, false)
		}
		for _, args := range [][]int{{0}, {1, 1}, {-1}} {
			x := right
			x.Args = args
			checkIns(t, "Args of no call", x, false)
		}
		x := right
		x.F, x.Args = 1, []int{0, 1}
		checkIns(t, "F and Args of no call", x, false)
		x = right
		x.Args = []int{}
		checkIns(t, "empty Args of no call", x, true)
	}
}

// calleeCases are what F and Args of the example's first function may be.
var calleeCases = []struct {
	name string
	f    int
	args []int
	want bool
}{
	{"two", 1, []int{0, 3}, true},
	{"another one of two", 2, []int{2, 2}, true},
	{"itself, none", 0, nil, true},
	{"itself, an empty list", 0, []int{}, true},
	{"itself, one", 0, []int{0}, false},
	{"none", 3, nil, true},
	{"eight", 4, []int{0, 1, 2, 3, 3, 2, 1, 0}, true},
	{"too few", 1, []int{0}, false},
	{"far too few", 1, nil, false},
	{"too many", 1, []int{0, 1, 2}, false},
	{"one where none", 3, []int{0}, false},
	{"seven of eight", 4, []int{0, 1, 2, 3, 3, 2, 1}, false},
	{"nine of eight", 4, []int{0, 1, 2, 3, 3, 2, 1, 0, 1}, false},
	{"function below 0", -1, nil, false},
	{"function beyond", 5, nil, false},
	{"function beyond, two", 5, []int{0, 1}, false},
	{"place below 0", 1, []int{-1, 0}, false},
	{"second place below 0", 1, []int{0, -1}, false},
	{"place beyond", 1, []int{regs, 0}, false},
	{"second place beyond", 1, []int{0, regs}, false},
	{"last of eight beyond", 4, []int{0, 1, 2, 3, 3, 2, 1, regs}, false},
}

func TestCalls(t *testing.T) {
	checkBoth := func(name string, n int, args []int, want bool) {
		t.Helper()
		checkFirst(t, name+", by Call", want, func(f *api.Func) {
			f.Blocks[0].Ins = []api.Ins{{Op: api.Call, Dst: 1, F: n, Args: args}}
		})
		checkFirst(t, name+", by Invoke", want, func(f *api.Func) {
			f.Blocks[2].End.F, f.Blocks[2].End.Args = n, args
		})
	}
	for _, c := range calleeCases {
		checkBoth(c.name, c.f, c.args, c.want)
	}
	for _, n := range farNumbers {
		checkBoth("function far off", n, nil, false)
		checkBoth("place far off", 1, []int{0, n}, false)
	}
}

// Func holds F and Args against the module's functions alone, of which the function need not be one.
func TestFuncOfAModuleThatItIsNotIn(t *testing.T) {
	f := api.Func{Params: 1, Regs: 2, Blocks: []api.Block{{
		Ins: []api.Ins{{Op: api.Call, F: 1, Args: []int{1, 0}}}, End: api.End{Kind: api.Ret},
	}}}
	for _, c := range []struct {
		name string
		m    api.Module
		want bool
	}{
		{"two Params", api.Module{Funcs: []api.Func{answers(0), answers(2)}}, true},
		{"one of them", api.Module{Funcs: []api.Func{answers(0), answers(1)}}, false},
		{"three of them", api.Module{Funcs: []api.Func{answers(0), answers(3)}}, false},
		{"no such function", api.Module{Funcs: []api.Func{answers(2)}}, false},
		{"no function", api.Module{}, false},
		{"a callee that may not be itself", api.Module{Funcs: []api.Func{answers(0), {Params: 2}}}, true},
		{"a callee of fewer than no Params", api.Module{Funcs: []api.Func{answers(0), {Params: -1}}}, false},
	} {
		if Func(c.m, f) != c.want {
			t.Errorf("%s: Func is %v", c.name, !c.want)
		}
	}
	if !Func(api.Module{}, answers(3)) {
		t.Error("one that calls none needs no function")
	}
}

func checkEnd(t *testing.T, field string, x api.End, want bool) {
	t.Helper()
	checkFirst(t, field, want, func(f *api.Func) { f.Blocks[3].End = x })
	if t.Failed() {
		t.Fatalf("at %+v", x)
	}
}

// exampleEnds has one end of each Kind.
func exampleEnds() []api.End {
	return []api.End{
		{Kind: api.Ret, A: 3},
		{Kind: api.Jump, To: 3},
		{Kind: api.Branch, A: 3, To: 3, Else: 2},
		{Kind: api.Invoke, Dst: 3, F: 1, Args: []int{3, 2}, To: 3, Pad: 5},
		{Kind: api.Throw, A: 3},
		{Kind: api.Resume},
	}
}

// goalValues are held against To, Else and Pad: blocks 0 to 3 are goals, 4 and 5 are Landing.
var goalValues = []struct {
	n         int
	goal, pad bool
}{
	{0, true, false}, {1, true, false}, {2, true, false}, {3, true, false},
	{4, false, true}, {5, false, true}, {6, false, false}, {-1, false, false},
}

func TestPlacesOfEnds(t *testing.T) {
	for _, right := range exampleEnds() {
		use := endUses[right.Kind]
		checkEnd(t, "an end", right, true)
		for _, field := range []string{"Dst", "A"} {
			set := func(n int) api.End {
				x := right
				*map[string]*int{"Dst": &x.Dst, "A": &x.A}[field] = n
				return x
			}
			for _, v := range placeValues {
				checkEnd(t, field, set(v.n), pick(use, field, v.used, v.unused))
			}
			for _, n := range farNumbers {
				checkEnd(t, field, set(n), false)
			}
		}
	}
}

func TestGoalsAndPadsOfEnds(t *testing.T) {
	for _, right := range exampleEnds() {
		use := endUses[right.Kind]
		for _, field := range []string{"To", "Else", "Pad"} {
			set := func(n int) api.End {
				x := right
				*map[string]*int{"To": &x.To, "Else": &x.Else, "Pad": &x.Pad}[field] = n
				return x
			}
			for _, v := range goalValues {
				used := v.goal
				if field == "Pad" {
					used = v.pad
				}
				checkEnd(t, field, set(v.n), pick(use, field, used, v.n == 0))
			}
			for _, n := range farNumbers {
				checkEnd(t, field, set(n), false)
			}
		}
	}
}

func TestInvokesThatAreNot(t *testing.T) {
	for _, right := range exampleEnds() {
		if right.Kind == api.Invoke {
			continue
		}
		for _, n := range append([]int{1, 3, -1, 4, 5}, farNumbers...) {
			x := right
			x.F = n
			checkEnd(t, "F of no invoke", x, false)
		}
		for _, args := range [][]int{{0}, {1, 1}, {-1}} {
			x := right
			x.Args = args
			checkEnd(t, "Args of no invoke", x, false)
		}
		x := right
		x.F, x.Args = 1, []int{0, 1}
		checkEnd(t, "F and Args of no invoke", x, false)
		x = right
		x.Args = []int{}
		checkEnd(t, "empty Args of no invoke", x, true)
	}
}

func TestNumbersThatAreNoOpAndNoKind(t *testing.T) {
	for n := -300; n <= 300; n++ {
		checkIns(t, "Op", api.Ins{Op: n}, n >= api.Const && n <= api.In)
		if n == api.Invoke {
			continue
		}
		checkEnd(t, "Kind", api.End{Kind: n}, n >= api.Ret && n <= api.Resume)
	}
	checkEnd(t, "Kind", api.End{Kind: api.Invoke, Pad: 4}, true)
	for _, n := range append([]int{1<<32 + api.Ret, 1<<16 + api.Ret, math.MinInt + api.Ret}, farNumbers...) {
		checkIns(t, "Op", api.Ins{Op: n}, false)
		checkEnd(t, "Kind", api.End{Kind: n}, false)
	}
}

// Places are of the function in which they stand: one may have more than another.
func TestPlacesAreTheFunctionsOwn(t *testing.T) {
	for _, count := range []int{1, 2, api.MaxRegs} {
		for _, place := range []int{0, count - 1, count} {
			m := example()
			m.Funcs[1].Params, m.Funcs[1].Regs = 0, count
			m.Funcs[0].Blocks[0].Ins = nil
			m.Funcs[0].Blocks[2].End = api.End{Kind: api.Ret}
			m.Funcs[1].Blocks[0].End.A = place
			check(t, "a place of function 1", m, 1, place < count)
		}
	}
}
