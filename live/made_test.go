package live

import (
	"slices"
	"testing"

	"davit/api"
	"davit/made"
	"davit/shape"
)

// isAsked: does a way lead from a block's beginning on to where the place is asked for, ahead of which nothing on the way sets it?
func isAsked(f api.Func, n, place int, met []bool) bool {
	if met[n] {
		return false
	}
	met[n] = true
	b := f.Blocks[n]
	for _, x := range b.Ins {
		if slices.Contains(insNames(x), place) {
			return true
		}
		if insSets[x.Op] && x.Dst == place {
			return false
		}
	}
	return slices.Contains(endNames(b.End), place) || isAskedBehind(f, n, place, met)
}

func isAskedBehind(f api.Func, n, place int, met []bool) bool {
	e := f.Blocks[n].End
	switch e.Kind {
	case api.Jump:
		return isAsked(f, e.To, place, met)
	case api.Branch:
		return isAsked(f, e.To, place, met) || isAsked(f, e.Else, place, met)
	case api.Invoke:
		return e.Dst != place && isAsked(f, e.To, place, met) ||
			f.Blocks[e.Pad].Pad.Dst != place && isAsked(f, e.Pad, place, met)
	}
	return false
}

// checkWays holds both calls of a function that may be against the chapter, by ways.
func checkWays(t *testing.T, f api.Func) {
	t.Helper()
	at, behind := At(f), Behind(f)
	checkSizes(t, f, at)
	checkSizes(t, f, behind)
	for n := range f.Blocks {
		for place := range f.Regs {
			if want := isAsked(f, n, place, make([]bool, len(f.Blocks))); at[n][place] != want {
				t.Fatalf("%+v: place %d at the beginning of block %d: %v", f, place, n, !want)
			}
			if want := isAskedBehind(f, n, place, make([]bool, len(f.Blocks))); behind[n][place] != want {
				t.Fatalf("%+v: place %d behind block %d: %v", f, place, n, !want)
			}
		}
	}
}

// everyEnd of a function in which these blocks are goals, and these Landing.
func everyEnd(goals, pads []int) []api.End {
	ends := []api.End{{Kind: api.Ret, A: 0}, {Kind: api.Ret, A: 1}}
	for i, to := range goals {
		ends = append(ends, api.End{Kind: api.Jump, To: to})
		for _, other := range goals[:i] {
			ends = append(ends, api.End{Kind: api.Branch, A: 1, To: to, Else: other})
		}
		for _, pad := range pads {
			ends = append(ends, api.End{Kind: api.Invoke, Dst: 0, To: to, Pad: pad}, api.End{Kind: api.Invoke, Dst: 1, To: to, Pad: pad})
		}
	}
	return ends
}

// everyBlock of these ends, in which stands nothing, or what sets the place 0, or what asks for it; a Landing one sets either place.
func everyBlock(ends []api.End, landing bool) []api.Block {
	pads := []api.Pad{{}}
	if landing {
		pads = []api.Pad{{Dst: 0, All: true}, {Dst: 1, All: true}}
	}
	var blocks []api.Block
	for _, pad := range pads {
		for _, end := range ends {
			for _, list := range [][]api.Ins{nil, {{Op: api.In, Dst: 0}}, {{Op: api.Out, A: 0}}} {
				blocks = append(blocks, api.Block{Landing: landing, Pad: pad, Ins: list, End: end})
			}
		}
	}
	return blocks
}

// every calls do with each function whose blocks, from n on, are each one of those that it may be.
func every(f api.Func, n int, may [][]api.Block, do func(f api.Func)) {
	if n == len(f.Blocks) {
		do(f)
		return
	}
	for _, b := range may[n] {
		f.Blocks[n] = b
		every(f, n+1, may, do)
	}
}

// Every function of up to three blocks, of which the last ones are Landing, or none is.
func TestEveryFuncOfFewBlocks(t *testing.T) {
	tried := 0
	for _, c := range []struct{ goals, pads []int }{
		{[]int{0}, nil}, {[]int{0, 1}, nil}, {[]int{0, 1, 2}, nil},
		{[]int{0}, []int{1}}, {[]int{0, 1}, []int{2}}, {[]int{0}, []int{1, 2}},
	} {
		ends := everyEnd(c.goals, c.pads)
		var may [][]api.Block
		for range c.goals {
			may = append(may, everyBlock(ends, false))
		}
		for range c.pads {
			may = append(may, everyBlock(ends, true))
		}
		every(api.Func{Regs: 2, Blocks: make([]api.Block, len(may))}, 0, may, func(f api.Func) {
			checkWays(t, f)
			tried++
		})
	}
	if tried < 50000 {
		t.Errorf("only %d", tried)
	}
}

func TestFuncsOfModulesThatMayBe(t *testing.T) {
	for seed := range uint64(5000) {
		for _, f := range made.Module(seed).Funcs {
			checkWays(t, f)
		}
	}
}

func TestFuncsOfManyBlocks(t *testing.T) {
	for seed := range uint64(600) {
		checkWays(t, made.One(seed, 1+int(seed)%20, 1+int(seed)%7))
	}
	for seed := range uint64(4) {
		checkWays(t, made.One(seed, api.MaxBlocks, 40))
	}
	checkWays(t, made.One(7, api.MaxBlocks, api.MaxRegs))
}

// tidy makes nought what isn't used, so that goals and pads alone are at fault.
func tidy(f api.Func) api.Func {
	f.Regs = 1
	for n, b := range f.Blocks {
		e := b.End
		f.Blocks[n].Pad.All = b.Landing
		f.Blocks[n].Pad.Cleanup = b.Landing && b.Pad.Cleanup
		f.Blocks[n].End = map[int]api.End{
			api.Jump:   {To: e.To},
			api.Branch: {To: e.To, Else: e.Else},
			api.Invoke: {To: e.To, Pad: e.Pad},
		}[e.Kind]
		f.Blocks[n].End.Kind = e.Kind
	}
	return f
}

// Functions most of which may not be, by goals and pads: something is told just of those that could be.
func TestFuncsOfWhateverBlocks(t *testing.T) {
	could := 0
	for seed := range uint64(50000) {
		f := tidy(made.Func(seed))
		if shape.Func(api.Module{Funcs: []api.Func{{}}}, f) {
			checkWays(t, f)
			could++
			continue
		}
		if at, behind := At(f), Behind(f); len(at) > 0 || len(behind) > 0 {
			t.Fatalf("%+v: %v, %v", f, at, behind)
		}
	}
	if could < 1000 {
		t.Errorf("only %d could be", could)
	}
}
