package dead

import (
	"slices"
	"testing"

	"davit/api"
	"davit/made"
	"davit/samples"
	"davit/shape"
)

const (
	answers = " / func 0 1 / block / ret 0"
	throws  = " / func 0 1 / block / throw 0"
	tells   = " / func 0 1 / block / out 0 / ret 0"
)

func TestModule(t *testing.T) {
	for name, c := range map[string]struct{ from, to string }{
		"one function":                  {answers[3:], answers[3:]},
		"its blocks":                    {"func 0 1 / block / jump 2 / block / ret 0 / block / ret 0", "func 0 1 / block / jump 1 / block / ret 0"},
		"each one's blocks":             {"func 0 1 / block / call 0 1 / ret 0 / block / ret 0 / func 0 1 / block / jump 2 / block / throw 0 / block / out 0 / ret 0", "func 0 1 / block / call 0 1 / ret 0 / func 0 1 / block / jump 1 / block / out 0 / ret 0"},
		"nobody calls it":               {answers[3:] + throws, answers[3:]},
		"all are used":                  {"func 0 1 / block / call 0 2 / ret 0 / func 0 1 / block / throw 0 / func 0 1 / block / call 0 1 / ret 0", "func 0 1 / block / call 0 2 / ret 0 / func 0 1 / block / throw 0 / func 0 1 / block / call 0 1 / ret 0"},
		"a Call's F":                    {"func 0 1 / block / call 0 2 / ret 0" + throws + tells, "func 0 1 / block / call 0 1 / ret 0" + tells},
		"an Invoke's F":                 {"func 0 1 / block / invoke 0 3 1 2 / block / ret 0 / pad 0 all / ret 0" + throws + answers + tells + answers, "func 0 1 / block / invoke 0 1 1 2 / block / ret 0 / pad 0 all / ret 0" + tells},
		"one ahead, one between":        {"func 0 1 / block / call 0 2 / call 0 4 / ret 0" + answers + throws + answers + tells + answers, "func 0 1 / block / call 0 1 / call 0 2 / ret 0" + throws + tells},
		"they stay as they stood":       {"func 0 1 / block / call 0 3 / ret 0" + tells + throws + " / func 0 1 / block / call 0 1 / ret 0", "func 0 1 / block / call 0 2 / ret 0" + tells + " / func 0 1 / block / call 0 1 / ret 0"},
		"one that is called by another": {"func 0 1 / block / call 0 3 / ret 0" + answers + tells + " / func 0 1 / block / invoke 0 2 0 1 / pad 0 all / ret 0", "func 0 1 / block / call 0 2 / ret 0" + tells + " / func 0 1 / block / invoke 0 1 0 1 / pad 0 all / ret 0"},
		"called by one that goes":       {answers[3:] + " / func 0 1 / block / call 0 2 / ret 0" + tells, answers[3:]},
		"a ring goes":                   {answers[3:] + " / func 0 1 / block / call 0 2 / ret 0 / func 0 1 / block / call 0 1 / ret 0", answers[3:]},
		"one that calls itself goes":    {answers[3:] + " / func 0 1 / block / call 0 1 / ret 0", answers[3:]},
		"one that calls the first goes": {answers[3:] + " / func 0 1 / block / call 0 0 / ret 0" + answers, answers[3:]},
		"the first calls itself":        {"func 0 1 / block / call 0 0 / ret 0" + answers, "func 0 1 / block / call 0 0 / ret 0"},
		"one that calls itself stays":   {"func 0 1 / block / call 0 2 / ret 0" + throws + " / func 0 1 / block / call 0 2 / ret 0", "func 0 1 / block / call 0 1 / ret 0 / func 0 1 / block / call 0 1 / ret 0"},
		"called where nobody comes to":  {"func 0 1 / block / ret 0 / block / call 0 1 / ret 0" + tells, answers[3:]},
		"invoked where nobody comes to": {"func 0 1 / block / ret 0 / block / invoke 0 1 0 2 / pad 0 all / call 0 2 / ret 0" + tells + throws, answers[3:]},
		"called in a pad of one left":   {"func 0 1 / block / invoke 0 2 0 1 / pad 0 all / call 0 3 / ret 0" + answers + tells + throws, "func 0 1 / block / invoke 0 1 0 1 / pad 0 all / call 0 2 / ret 0" + tells + throws},
		"no longer called, by a block":  {"func 0 1 / block / call 0 1 / ret 0 / func 0 1 / block / ret 0 / block / call 0 2 / ret 0" + throws, "func 0 1 / block / call 0 1 / ret 0" + answers},
		"arguments stay":                {"func 0 3 / block / call 0 2 1 2 / invoke 1 2 0 1 2 1 / pad 0 all / ret 0" + answers + " / func 2 3 / block / add 2 0 1 / ret 2", "func 0 3 / block / call 0 1 1 2 / invoke 1 1 0 1 2 1 / pad 0 all / ret 0 / func 2 3 / block / add 2 0 1 / ret 2"},
		"no other number is a function": {"func 0 4 / block / const 3 3 / copy 3 2 / store 3 2 / out 3 / call 3 3 / branch 3 0 0" + throws + throws + tells, "func 0 4 / block / const 3 3 / copy 3 2 / store 3 2 / out 3 / call 3 1 / branch 3 0 0" + tells},
	} {
		got, err := Module(samples.Module(c.from))
		if err != api.OK || !shape.Same(got, samples.Module(c.to)) {
			t.Errorf("%s: %v, %+v", name, err, got)
		}
	}
}

// checkModule holds it against the chapter said another way, and tells whether functions went, and blocks.
func checkModule(t *testing.T, m api.Module) (funcs, blocks bool) {
	t.Helper()
	got, err := Module(m)
	if !shape.Right(m) {
		if err != api.ErrArg || !shape.Same(got, m) {
			t.Fatalf("%+v: %v, %+v", m, err, got)
		}
		return false, false
	}
	want, stays := clearModule(m)
	if err != api.OK || !shape.Same(got, want) {
		t.Fatalf("%+v: %v, %+v, not %+v", m, err, got, want)
	}
	if !shape.Right(got) {
		t.Fatalf("%+v may not be", got)
	}
	if again, err := Module(got); err != api.OK || !shape.Same(again, got) {
		t.Fatalf("%+v: cleared again %+v", got, again)
	}
	for n, f := range m.Funcs {
		blocks = blocks || stays[n] && len(clearFunc(f).Blocks) < len(f.Blocks)
	}
	return slices.Contains(stays, false), blocks
}

// Every module of up to three functions, by who calls whom, and of four none of which calls itself.
func TestEveryModuleOfFewFunctions(t *testing.T) {
	some, all := 0, 0
	for count := 1; count <= 4; count++ {
		for bits := range 1 << (count * count) {
			lists, itself := make([][]int, count), false
			for n := range count * count {
				if bits>>n&1 == 1 {
					lists[n/count] = append(lists[n/count], n%count)
					itself = itself || n/count == n%count
				}
			}
			if count == 4 && itself {
				continue
			}
			if gone, _ := checkModule(t, made.Calls(lists...)); gone {
				some++
			} else {
				all++
			}
		}
	}
	if min(some, all) < 1000 {
		t.Errorf("of %d some go, of %d none", some, all)
	}
}

func TestMadeModules(t *testing.T) {
	var met [2][2]int
	for seed := range uint64(10000) {
		funcs, blocks := checkModule(t, made.Module(seed))
		met[number(funcs)][number(blocks)]++
		checkModule(t, made.Callers(seed, int(seed%20)))
		checkModule(t, api.Module{Funcs: []api.Func{made.Func(seed)}})
	}
	if min(met[0][0], met[0][1], met[1][0], met[1][1]) < 100 {
		t.Errorf("%v", met)
	}
}

func number(is bool) int {
	if is {
		return 1
	}
	return 0
}

// Rows of as many functions as there may be: each calls the next one but the one at which the row is cut.
func TestRowsOfFunctions(t *testing.T) {
	for cut := range api.MaxFuncs {
		up, skip := make([][]int, api.MaxFuncs), make([][]int, api.MaxFuncs)
		for n := range api.MaxFuncs - 1 {
			if n != cut {
				up[n], skip[n] = []int{n + 1}, []int{min(n+2, api.MaxFuncs-1)}
			}
		}
		got, err := Module(made.Calls(up...))
		if err != api.OK || len(got.Funcs) != cut+1 {
			t.Errorf("cut at %d: %v, %d functions", cut, err, len(got.Funcs))
		}
		checkModule(t, made.Calls(up...))
		checkModule(t, made.Calls(skip...))
	}
}

// great is a module of as many functions, blocks and instructions as there may be, every other function and block of which goes.
func great() api.Module {
	m := api.Module{Funcs: make([]api.Func, api.MaxFuncs)}
	for n := range m.Funcs {
		f := made.Row(api.MaxBlocks, func(k int) api.End { return made.Jump(min(k+2, api.MaxBlocks-1)) })
		f.Blocks[api.MaxBlocks-2].End = api.End{Kind: api.Ret}
		for k := range f.Blocks {
			f.Blocks[k].Ins = slices.Repeat([]api.Ins{{Op: api.Call, F: (n + k) % api.MaxFuncs}}, api.MaxIns)
		}
		f.Regs = api.MaxRegs
		m.Funcs[n] = f
	}
	return m
}

func TestTheGreatestModules(t *testing.T) {
	funcs, blocks := checkModule(t, great())
	if !funcs || !blocks || !shape.Right(great()) {
		t.Errorf("functions go: %v, blocks: %v", funcs, blocks)
	}
	if got, _ := Module(great()); len(got.Funcs) != api.MaxFuncs/2 || len(got.Funcs[0].Blocks) != api.MaxBlocks/2 {
		t.Errorf("%d functions, the first one of %d blocks", len(got.Funcs), len(got.Funcs[0].Blocks))
	}
}

func TestWide(t *testing.T) {
	got, err := Module(samples.Wide())
	want := samples.Module("func 0 4 / block / const 0 7 / copy 1 0 / add 2 0 1 / div 2 0 1 / load 2 1 / store 1 2 / call 3 2 0 2 / out 3 / in 3 / sub 2 2 0 / mul 2 2 2 / eq 2 2 1 / lt 2 1 2" +
		" / invoke 3 2 1 2 0 2 / block / ret 3 / pad 2 all / throw 2" + answers +
		" / func 2 2 / block / invoke 0 1 1 2 / block / invoke 0 0 3 2 / pad 0 catch 1 all cleanup / throw 0 / block / ret 0")
	if err != api.OK || !shape.Same(got, want) {
		t.Errorf("%v, %+v", err, got)
	}
}

// A module that may not be stays as it is, though blocks and functions could go.
func TestWhatMayNotBe(t *testing.T) {
	for name, m := range samples.Wrong() {
		if got, err := Module(m); err != api.ErrArg || !shape.Same(got, m) {
			t.Errorf("%s: %v, %+v", name, err, got)
		}
	}
}
