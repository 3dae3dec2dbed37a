package dom

import (
	"reflect"
	"slices"
	"testing"

	"davit/api"
	"davit/flow"
	"davit/made"
)

// without is the function whose block n leads nowhere.
func without(f api.Func, n int) api.Func {
	f.Blocks = slices.Clone(f.Blocks)
	f.Blocks[n].End = ret
	return f
}

// stands says of each pair of blocks whether the first one stands over the second one: without it, that isn't reached.
func stands(f api.Func) [][]bool {
	reached := flow.Reached(f)
	stands := make([][]bool, len(f.Blocks))
	for a := range stands {
		round := flow.Reached(without(f, a))
		stands[a] = make([]bool, len(f.Blocks))
		for b := range stands[a] {
			stands[a][b] = reached[b] && (a == b || !round[b])
		}
	}
	return stands
}

// nextOver is the one of the others over b over which all of these stand; -1: there is none.
func nextOver(stands [][]bool, b int) int {
	found := -1
	for a := range stands {
		is := a != b && stands[a][b]
		for c := range stands {
			is = is && (c == b || !stands[c][b] || stands[c][a])
		}
		if is {
			found = a
		}
	}
	return found
}

// edge of n by the chapter's words.
func edge(f api.Func, stands [][]bool, n int) []int {
	var edge []int
	for k := range f.Blocks {
		from := slices.ContainsFunc(flow.Before(f, k), func(b int) bool { return stands[n][b] })
		if from && (k == n || !stands[n][k]) {
			edge = append(edge, k)
		}
	}
	return edge
}

// asked says of each pair of blocks what Is answers.
func asked(f api.Func) [][]bool {
	is := make([][]bool, len(f.Blocks))
	for a := range is {
		for b := range is {
			is[a] = append(is[a], Is(f, a, b))
		}
	}
	return is
}

// check holds all three calls of a function against the chapter, said over again.
func check(t *testing.T, f api.Func) {
	t.Helper()
	is, stands := asked(f), stands(f)
	if !reflect.DeepEqual(is, stands) {
		t.Fatalf("%+v: which stands over which: %v, not %v", f, is, stands)
	}
	over := Over(f)
	if len(over) != len(f.Blocks) {
		t.Fatalf("%+v: over are %v", f, over)
	}
	for n := range f.Blocks {
		if want := nextOver(stands, n); over[n] != want {
			t.Fatalf("%+v: over %d stands %d, not %d", f, n, over[n], want)
		}
		if got, want := Edge(f, n), edge(f, stands, n); !slices.Equal(got, want) {
			t.Fatalf("%+v: the edge of %d is %v, not %v", f, n, got, want)
		}
	}
	checkOver(t, f, is, over)
	checkOut(t, f, is)
}

// checkOver: over each block that is reached stands block 0, and of two that stand over it one over the other; and all that do are met going on from it to the one next over, and so on.
func checkOver(t *testing.T, f api.Func, is [][]bool, over []int) {
	t.Helper()
	for n, reached := range flow.Reached(f) {
		if is[0][n] != reached || is[n][n] != reached || (over[n] == -1) != (n == 0 || !reached) {
			t.Fatalf("%+v: block %d, reached %v: 0 over it is %v, itself %v, next over it is %d", f, n, reached, is[0][n], is[n][n], over[n])
		}
		var list, row []int
		for a := range is {
			if is[a][n] {
				list = append(list, a)
			}
		}
		for i, a := range list {
			for _, b := range list[i:] {
				if !is[a][b] && !is[b][a] {
					t.Fatalf("%+v: %d and %d stand over %d, and none of them over the other", f, a, b, n)
				}
			}
		}
		for k := n; k >= 0 && reached; k = over[k] {
			row = append(row, k)
		}
		if slices.Sort(row); !slices.Equal(row, list) {
			t.Fatalf("%+v: over %d stand %v, and going on from it %v are met", f, n, list, row)
		}
	}
}

// checkOut: where a way leads out of what n stands over, or back to n, it leads to n's edge; and to each of that one does.
func checkOut(t *testing.T, f api.Func, is [][]bool) {
	t.Helper()
	for n := range f.Blocks {
		edge, met := Edge(f, n), map[int]bool{}
		for b := range f.Blocks {
			for _, k := range flow.Next(f, b) {
				if !is[n][b] || is[n][k] && k != n {
					continue
				}
				met[k] = true
				if !slices.Contains(edge, k) {
					t.Fatalf("%+v: %d leads out of what %d stands over, to %d, and its edge is %v", f, b, n, k, edge)
				}
			}
		}
		if len(met) != len(edge) {
			t.Fatalf("%+v: the edge of %d is %v, and ways lead out to %v", f, n, edge, met)
		}
	}
}

// everyWay asks each way from the last block of this one on to block n, that comes to no block twice, whether a is on it.
func everyWay(f api.Func, way []int, a, n int) bool {
	last := way[len(way)-1]
	if last == n {
		return slices.Contains(way, a)
	}
	for _, k := range flow.Next(f, last) {
		if !slices.Contains(way, k) && !everyWay(f, append(slices.Clone(way), k), a, n) {
			return false
		}
	}
	return true
}

// checkWays: whoever stands over a block that is reached is on every way to it, and nobody else is.
func checkWays(t *testing.T, f api.Func) {
	t.Helper()
	for n, is := range flow.Reached(f) {
		for a := range f.Blocks {
			if got, want := Is(f, a, n), is && everyWay(f, []int{0}, a, n); got != want {
				t.Fatalf("%+v: %d over %d: %v, not %v", f, a, n, got, want)
			}
		}
	}
}

func TestFuncsOfWhateverBlocks(t *testing.T) {
	for seed := range uint64(10000) {
		f := made.Func(seed)
		check(t, f)
		checkWays(t, f)
	}
}

func TestFuncsOfModulesThatMayBe(t *testing.T) {
	for seed := range uint64(3000) {
		for _, f := range made.Module(seed).Funcs {
			check(t, f)
			checkWays(t, f)
		}
	}
}

func TestWebs(t *testing.T) {
	for seed := range uint64(4000) {
		f := made.Web(seed, int(seed%8)+1)
		check(t, f)
		checkWays(t, f)
	}
	for seed := range uint64(1000) {
		check(t, made.Web(seed, int(seed%17)+9))
	}
	for seed := range uint64(10) {
		check(t, made.Web(seed, api.MaxBlocks))
	}
}

// Every function of three blocks, each of which ends in every way that goes nowhere, or to blocks that are there, or not.
func TestEveryFuncOfThreeBlocks(t *testing.T) {
	for f := range made.Every(3, made.Ends(3)) {
		check(t, f)
		checkWays(t, f)
	}
}

// Every function of four blocks, each of which leads to one or two others, or itself.
func TestEveryFuncOfFourBlocks(t *testing.T) {
	for f := range made.Every(4, made.Ways(4)) {
		check(t, f)
	}
}
