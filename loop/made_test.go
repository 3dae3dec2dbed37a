package loop

import (
	"slices"
	"testing"

	"davit/api"
	"davit/dom"
	"davit/flow"
	"davit/made"
)

// stands says of each pair of blocks whether the first one stands over the second one.
func stands(f api.Func) [][]bool {
	is := make([][]bool, len(f.Blocks))
	for a := range is {
		for b := range is {
			is[a] = append(is[a], dom.Is(f, a, b))
		}
	}
	return is
}

// goersBack to a block are those to which it is next and over which it stands.
func goersBack(f api.Func, stands [][]bool, head int) []int {
	var list []int
	for b := range f.Blocks {
		if stands[head][b] && slices.Contains(flow.Next(f, b), head) {
			list = append(list, b)
		}
	}
	return list
}

// comes tells whether a way leads from block n on to one of these without the head, and past none that was met already.
func comes(f api.Func, n int, to []int, head int, met []bool) bool {
	if n == head || met[n] {
		return false
	}
	met[n] = true
	if slices.Contains(to, n) {
		return true
	}
	return slices.ContainsFunc(flow.Next(f, n), func(k int) bool { return comes(f, k, to, head, met) })
}

// loops by the chapter's words.
func loops(f api.Func) []api.Loop {
	stands := stands(f)
	var list []api.Loop
	for head := range f.Blocks {
		back := goersBack(f, stands, head)
		if len(back) == 0 {
			continue
		}
		l := api.Loop{Head: head}
		for n := range f.Blocks {
			if n == head || stands[head][n] && comes(f, n, back, head, make([]bool, len(f.Blocks))) {
				l.Blocks = append(l.Blocks, n)
			}
		}
		list = append(list, l)
	}
	return list
}

// check holds both calls of a function against the chapter, said over again.
func check(t *testing.T, f api.Func) {
	t.Helper()
	got, want := All(f), loops(f)
	if !same(got, want) {
		t.Fatalf("%+v: the loops are %+v, not %+v", f, got, want)
	}
	for n := range f.Blocks {
		in := 0
		for _, l := range want {
			if slices.Contains(l.Blocks, n) {
				in++
			}
		}
		if got := Deep(f, n); got != in {
			t.Fatalf("%+v: block %d is in %d loops, not %d", f, n, got, in)
		}
	}
	checkEntries(t, f, got)
	checkPairs(t, f, got)
}

// checkEntries: a way into a loop, from one that is reached and isn't in it, leads to its head.
func checkEntries(t *testing.T, f api.Func, loops []api.Loop) {
	t.Helper()
	for n, reached := range flow.Reached(f) {
		for _, l := range loops {
			if !reached || slices.Contains(l.Blocks, n) {
				continue
			}
			for _, k := range flow.Next(f, n) {
				if k != l.Head && slices.Contains(l.Blocks, k) {
					t.Fatalf("%+v: a way leads from %d into %+v, to %d", f, n, l, k)
				}
			}
		}
	}
}

func has(l api.Loop, n int) bool { return slices.Contains(l.Blocks, n) }

// checkPairs: heads are unlike; where two loops have a block in common one has the other one's head, and all its blocks.
func checkPairs(t *testing.T, f api.Func, loops []api.Loop) {
	t.Helper()
	for i, a := range loops {
		for _, b := range loops[:i] {
			if a.Head <= b.Head {
				t.Fatalf("%+v: the loop of %d behind that of %d", f, a.Head, b.Head)
			}
			if !slices.ContainsFunc(a.Blocks, func(n int) bool { return has(b, n) }) {
				continue
			}
			inner, outer := a, b
			if has(a, b.Head) {
				inner, outer = b, a
			}
			if !has(outer, inner.Head) || slices.ContainsFunc(inner.Blocks, func(n int) bool { return !has(outer, n) }) {
				t.Fatalf("%+v: neither of %+v and %+v lies in the other", f, a, b)
			}
		}
	}
}

func TestFuncsOfWhateverBlocks(t *testing.T) {
	for seed := range uint64(10000) {
		check(t, made.Func(seed))
	}
}

func TestFuncsOfModulesThatMayBe(t *testing.T) {
	for seed := range uint64(3000) {
		for _, f := range made.Module(seed).Funcs {
			check(t, f)
		}
	}
}

func TestWebs(t *testing.T) {
	nested, apart, deepest := 0, 0, 0
	met := func(f api.Func) {
		check(t, f)
		for n := range f.Blocks {
			deepest = max(deepest, Deep(f, n))
		}
		all := All(f)
		for i, a := range all {
			for _, b := range all[:i] {
				if has(a, b.Head) || has(b, a.Head) {
					nested++
				} else {
					apart++
				}
			}
		}
	}
	for seed := range uint64(4000) {
		met(made.Web(seed, int(seed%16)+1))
	}
	for seed := range uint64(5) {
		met(made.Web(seed, api.MaxBlocks))
	}
	if nested < 500 || apart < 500 || deepest < 4 {
		t.Errorf("only %d pairs of loops one in the other, %d apart, and no block in more than %d", nested, apart, deepest)
	}
}

// Every function of three blocks, each of which ends in every way that goes nowhere, or to blocks that are there, or not.
func TestEveryFuncOfThreeBlocks(t *testing.T) {
	for f := range made.Every(3, made.Ends(3)) {
		check(t, f)
	}
}

// Every function of four blocks, each of which leads to one or two others, or itself.
func TestEveryFuncOfFourBlocks(t *testing.T) {
	for f := range made.Every(4, made.Ways(4)) {
		check(t, f)
	}
}
