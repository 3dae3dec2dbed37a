package flow

import (
	"slices"
	"testing"

	"davit/api"
	"davit/mach"
	"davit/made"
)

// edge: is block k next to block n, by the words of the chapter?
func edge(f api.Func, n, k int) bool {
	e := f.Blocks[n].End
	switch e.Kind {
	case api.Jump:
		return e.To == k
	case api.Branch:
		return e.To == k || e.Else == k
	case api.Invoke:
		return e.To == k || e.Pad == k
	}
	return false
}

// ways says of each pair of blocks whether the one leads to the other.
func ways(f api.Func) [][]bool {
	count := len(f.Blocks)
	way := make([][]bool, count)
	for i := range way {
		way[i] = make([]bool, count)
		for k := range way[i] {
			way[i][k] = i == k || edge(f, i, k)
		}
	}
	for k := range count {
		for i := range count {
			for j := range count {
				way[i][j] = way[i][j] || way[i][k] && way[k][j]
			}
		}
	}
	return way
}

// deep goes through by calls within calls: what was gone into, and what was left, the last one first.
func deep(f api.Func, n int, into map[int]bool, left []int) []int {
	into[n] = true
	e := f.Blocks[n].End
	for _, k := range []int{e.To, e.Else, e.Pad} {
		if edge(f, n, k) && k >= 0 && k < len(f.Blocks) && !into[k] {
			left = deep(f, k, into, left)
		}
	}
	return append([]int{n}, left...)
}

// check holds all four calls of a function against the chapter, said over again.
func check(t *testing.T, f api.Func) {
	t.Helper()
	var reached []bool
	var order []int
	if len(f.Blocks) > 0 {
		reached = ways(f)[0]
		order = deep(f, 0, map[int]bool{}, nil)
	}
	if got := Reached(f); !slices.Equal(got, reached) {
		t.Fatalf("%+v: reached are %v, not %v", f, got, reached)
	}
	if got := Order(f); !slices.Equal(got, order) {
		t.Fatalf("%+v: in order stand %v, not %v", f, got, order)
	}
	checkOrder(t, f)
	checkBefore(t, f)
}

// checkOrder: each block that is reached stands in order once, block 0 first, each other one behind one that it is next to.
func checkOrder(t *testing.T, f api.Func) {
	t.Helper()
	order, reached := Order(f), Reached(f)
	times := make([]int, len(f.Blocks))
	for i, n := range order {
		times[n]++
		if i == 0 && n != 0 {
			t.Fatalf("%+v: block %d stands first", f, n)
		}
		if i > 0 && !slices.ContainsFunc(order[:i], func(k int) bool { return edge(f, k, n) }) {
			t.Fatalf("%+v: in %v nothing to which %d is next stands ahead of it", f, order, n)
		}
		for _, k := range Next(f, n) {
			if !reached[k] {
				t.Fatalf("%+v: %d is next to %d, and not reached", f, k, n)
			}
		}
	}
	for n, count := range times {
		if count > 1 || (count == 1) != reached[n] {
			t.Fatalf("%+v: block %d, reached %v, stands %d times", f, n, reached[n], count)
		}
	}
}

// checkBefore: what is before a block are those to which it is next, rising, none twice.
func checkBefore(t *testing.T, f api.Func) {
	t.Helper()
	for n := range f.Blocks {
		var before []int
		for k := range f.Blocks {
			is := edge(f, k, n)
			if is {
				before = append(before, k)
			}
			if slices.Contains(Next(f, k), n) != is {
				t.Fatalf("%+v: next to %d is %v", f, k, Next(f, k))
			}
		}
		if got := Before(f, n); !slices.Equal(got, before) {
			t.Fatalf("%+v: before %d is %v, not %v", f, n, got, before)
		}
	}
}

func TestFuncsOfWhateverBlocks(t *testing.T) {
	for seed := range uint64(20000) {
		check(t, made.Func(seed))
	}
}

func TestFuncsOfModulesThatMayBe(t *testing.T) {
	for seed := range uint64(5000) {
		for _, f := range made.Module(seed).Funcs {
			check(t, f)
		}
	}
}

// Every function of three blocks, each of which ends in every way that goes nowhere, or to blocks that are there, or not.
func TestEveryFuncOfThreeBlocks(t *testing.T) {
	for f := range made.Every(3, made.Ends(3)) {
		check(t, f)
	}
}

func TestFramesStandAtReachedBlocks(t *testing.T) {
	landed, later, unreached := 0, 0, 0
	for seed := range uint64(5000) {
		m := made.Module(seed)
		reached := make([][]bool, len(m.Funcs))
		for i, f := range m.Funcs {
			reached[i] = Reached(f)
			if slices.Contains(reached[i], false) {
				unreached++
			}
		}
		s, err := mach.New(m, []uint16{3, 0, 1, 65535, 2})
		for step := 0; step < 60 && s.Done == api.Runs; step++ {
			if err != api.OK {
				t.Fatalf("seed %d: %v", seed, err)
			}
			for _, f := range s.Stack {
				if !reached[f.F][f.Block] {
					t.Fatalf("seed %d, step %d: a frame stands at block %d of function %d, which isn't reached", seed, step, f.Block, f.F)
				}
				if f.Block > 0 {
					later++
				}
				if m.Funcs[f.F].Blocks[f.Block].Landing {
					landed++
				}
			}
			s, err = mach.Step(m, s)
		}
	}
	if landed < 1000 || later < 1000 || unreached < 1000 {
		t.Errorf("only %d frames at Landing blocks, %d behind the first one, and %d functions not all reached", landed, later, unreached)
	}
}
