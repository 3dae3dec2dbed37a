package calls

import (
	"reflect"
	"slices"
	"testing"

	"davit/api"
	"davit/made"
)

// same lists: nil or empty alike.
func same(a, b [][]int) bool { return slices.EqualFunc(a, b, slices.Equal[[]int]) }

func TestGroups(t *testing.T) {
	for _, c := range cases() {
		if got := Groups(c.m); !same(got, c.row) {
			t.Errorf("%s: %v, not %v", c.name, got, c.row)
		}
	}
}

// is tells whether a function calls another one, by the chapter's words.
func is(m api.Module, a, b int) bool {
	return slices.ContainsFunc(m.Funcs[a].Blocks, func(block api.Block) bool {
		invoked := block.End.Kind == api.Invoke && block.End.F == b
		return invoked || slices.ContainsFunc(block.Ins, func(x api.Ins) bool { return x.Op == api.Call && x.F == b })
	})
}

// square says something of each two of so many.
func square(count int, say func(a, b int) bool) [][]bool {
	list := make([][]bool, count)
	for a := range list {
		list[a] = make([]bool, count)
		for b := range list[a] {
			list[a][b] = say(a, b)
		}
	}
	return list
}

// ways says who comes to whom: from one to the other leads a way of as many calls as there are functions, or fewer.
func ways(calls [][]bool) [][]bool {
	count := len(calls)
	ways, just := calls, calls // of up to so many calls, of just so many
	for range count {
		longer := just
		just = square(count, func(a, b int) bool {
			for k := range count {
				if longer[a][k] && calls[k][b] {
					return true
				}
			}
			return false
		})
		shorter := ways
		ways = square(count, func(a, b int) bool { return shorter[a][b] || just[a][b] })
	}
	return ways
}

// groupOf is a function, and all that it comes to and that come to it.
func groupOf(comes [][]bool, n int) []int {
	var group []int
	for k := range comes {
		if k == n || comes[n][k] && comes[k][n] {
			group = append(group, k)
		}
	}
	return group
}

// mayStand: do all functions of other groups to which one of this group comes stand there already?
func mayStand(comes [][]bool, group []int, stands []bool) bool {
	for _, n := range group {
		for k := range comes {
			if comes[n][k] && !slices.Contains(group, k) && !stands[k] {
				return false
			}
		}
	}
	return true
}

// rowOf the groups by the chapter's words: those of the functions are gone through from 0 on anew for each place in the row.
func rowOf(comes [][]bool) [][]int {
	var row [][]int
	stands := make([]bool, len(comes))
	for n := 0; n < len(comes); n++ {
		group := groupOf(comes, n)
		if stands[n] || !mayStand(comes, group, stands) {
			continue
		}
		row = append(row, group)
		for _, k := range group {
			stands[k] = true
		}
		n = -1
	}
	return row
}

// check holds all four calls of a module against the chapter, said over again.
func check(t *testing.T, m api.Module) {
	t.Helper()
	count := len(m.Funcs)
	calls := square(count, func(a, b int) bool { return is(m, a, b) })
	for n := range m.Funcs {
		var want []int
		for k := range count {
			if calls[n][k] {
				want = append(want, k)
			}
		}
		if got := Of(m, n); !slices.Equal(got, want) {
			t.Fatalf("%+v: function %d calls %v, not %v", m, n, got, want)
		}
	}
	comes := ways(calls)
	if got := square(count, func(a, b int) bool { return Comes(m, a, b) }); !reflect.DeepEqual(got, comes) {
		t.Fatalf("%+v: who comes to whom: %v, not %v", m, got, comes)
	}
	used := make([]bool, count)
	for n := range used {
		used[n] = n == 0 || comes[0][n]
	}
	if got := Used(m); !slices.Equal(got, used) {
		t.Fatalf("%+v: used are %v, not %v", m, got, used)
	}
	if got, want := Groups(m), rowOf(comes); !same(got, want) {
		t.Fatalf("%+v: the groups are %v, not %v", m, got, want)
	}
	checkRow(t, m)
}

// checkRow holds the groups against who comes to whom: each function stands in one, with just those that it comes to and that come to it, and none comes to one of a group behind.
func checkRow(t *testing.T, m api.Module) {
	t.Helper()
	at, times := make([]int, len(m.Funcs)), make([]int, len(m.Funcs))
	for g, group := range Groups(m) {
		for _, n := range group {
			at[n] = g
			times[n]++
		}
		if len(group) == 0 || !slices.IsSorted(group) {
			t.Fatalf("%+v: %v is a group", m, group)
		}
	}
	for a := range m.Funcs {
		if times[a] != 1 {
			t.Fatalf("%+v: function %d stands in %d groups: %v", m, a, times[a], Groups(m))
		}
		for b := range m.Funcs {
			there, back := Comes(m, a, b), Comes(m, b, a)
			if (at[a] == at[b]) != (a == b || there && back) || there && at[a] < at[b] {
				t.Fatalf("%+v: %d comes to %d: %v, back: %v: %v", m, a, b, there, back, Groups(m))
			}
		}
	}
}

// Every module of up to four functions, by who calls whom: by Calls and by Invokes.
func TestEveryModuleOfFewFunctions(t *testing.T) {
	for count := range 5 {
		for number := range 1 << (count * count) {
			lists := make([][]int, count)
			for pair := range count * count {
				if number>>pair&1 == 1 {
					lists[pair/count] = append(lists[pair/count], pair%count)
				}
			}
			check(t, made.Calls(lists...))
		}
	}
}

func TestModulesThatMayBe(t *testing.T) {
	for seed := range uint64(5000) {
		check(t, made.Module(seed))
	}
}

func TestModulesOfWhateverFunctions(t *testing.T) {
	several, rings, greatest, low := 0, 0, 0, 0
	for seed := range uint64(6000) {
		m := made.Callers(seed, int(seed%20))
		check(t, m)
		row := Groups(m)
		for g, group := range row {
			greatest = max(greatest, len(group))
			if len(group) > 1 {
				rings++
			}
			if g > 0 && group[0] < row[g-1][0] {
				low++
			}
		}
		if slices.IndexFunc(row, func(group []int) bool { return len(group) > 1 }) > 0 {
			several++
		}
	}
	if several < 500 || rings < 1000 || greatest < 8 || low < 1000 {
		t.Errorf("only %d rings, %d modules with one behind another group; %d are the most of one; %d groups behind one of a greater number", rings, several, greatest, low)
	}
}

func TestModulesOfManyFunctions(t *testing.T) {
	for seed := range uint64(20) {
		check(t, made.Callers(seed, 60+int(seed)))
	}
	checkRow(t, made.Callers(7, 400))
}
