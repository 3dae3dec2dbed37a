package calls

import (
	"slices"
	"testing"

	"davit/api"
	"davit/made"
)

// numbersTo are the numbers below this one, rising.
func numbersTo(count int) []int {
	list := make([]int, count)
	for n := range list {
		list[n] = n
	}
	return list
}

// falling are the numbers below this one, the greatest first.
func falling(count int) []int {
	list := numbersTo(count)
	slices.Reverse(list)
	return list
}

// alone is each of these as a group of its own.
func alone(list []int) [][]int {
	groups := make([][]int, len(list))
	for i, n := range list {
		groups[i] = []int{n}
	}
	return groups
}

// each is a module of so many functions, each of which calls these.
func each(count int, calls func(n int) []int) api.Module {
	lists := make([][]int, count)
	for n := range lists {
		lists[n] = calls(n)
	}
	return made.Calls(lists...)
}

// Rows and rings of as many functions as there may be, and more.
func TestRows(t *testing.T) {
	for _, count := range []int{2, 3, api.MaxFuncs - 1, api.MaxFuncs, api.MaxFuncs + 1, 1000, 100000} {
		last := count - 1
		even := func(n int) []int { return []int{(n + 2) % (count - count%2)} }
		for _, c := range []struct {
			name  string
			calls func(n int) []int
			used  int // the number of those that are used
			comes bool
			back  bool // the last one comes to 0
			row   [][]int
		}{
			{"nobody", func(n int) []int { return nil }, 1, false, false, alone(numbersTo(count))},
			{"upwards, and one that isn't there", func(n int) []int { return []int{n + 1} }, count, true, false, alone(falling(count))},
			{"downwards, and one that isn't there", func(n int) []int { return []int{n - 1} }, 1, false, true, alone(numbersTo(count))},
			{"a ring", func(n int) []int { return []int{(n + 1) % count} }, count, true, true, [][]int{numbersTo(count)}},
			{"a ring, the other way", func(n int) []int { return []int{(n + last) % count} }, count, true, true, [][]int{numbersTo(count)}},
			{"both neighbours", func(n int) []int { return []int{n + 1, n - 1} }, count, true, true, [][]int{numbersTo(count)}},
			{"all call the last one", func(n int) []int { return []int{last} }, 2, true, false, append([][]int{{last}}, alone(numbersTo(last))...)},
			{"all call 0", func(n int) []int { return []int{0} }, 1, false, true, alone(numbersTo(count))},
			{"themselves", func(n int) []int { return []int{n} }, 1, false, false, alone(numbersTo(count))},
			{"the next one and the last one", func(n int) []int { return []int{n + 1, last} }, count, true, false, alone(falling(count))},
			{"the next one and 0", func(n int) []int { return []int{n + 1, 0} }, count, true, true, [][]int{numbersTo(count)}},
		} {
			checkLong(t, c.name, each(count, c.calls), c.used, c.comes, c.back, c.row)
		}
		if row := Groups(each(count-count%2, even)); count > 3 && (len(row) != 2 || len(row[0]) != count/2 || len(row[1]) != count/2 || row[0][1] != 2 || row[1][1] != 3) {
			t.Errorf("%d functions in two rings: %d groups", count, len(row))
		}
	}
}

func checkLong(t *testing.T, name string, m api.Module, used int, comes, back bool, row [][]int) {
	t.Helper()
	count := 0
	for _, is := range Used(m) {
		if is {
			count++
		}
	}
	if last := len(m.Funcs) - 1; count != used || Comes(m, 0, last) != comes || Comes(m, last, 0) != back {
		t.Errorf("%s, of %d: %d are used, or 0 comes to the last one, or back", name, len(m.Funcs), count)
	}
	if got := Groups(m); !same(got, row) {
		t.Errorf("%s, of %d: other groups: %d, not %d", name, len(m.Funcs), len(got), len(row))
	}
}

// One function calls all others, each as often as all of them stand there, and all others it.
func TestOneAndAllOthers(t *testing.T) {
	const count = 2000
	all := numbersTo(count)[1:]
	calls := slices.Concat(all, all, []int{count}, falling(count)[:count-1])
	m := each(count, func(n int) []int { return nil })
	m.Funcs[0] = made.Calls(calls).Funcs[0]
	if got := Of(m, 0); !slices.Equal(got, all) {
		t.Errorf("0 calls %d", len(got))
	}
	if got := Groups(m); !same(got, append(alone(all), []int{0})) {
		t.Errorf("%d groups", len(got))
	}
	for n := range all {
		m.Funcs[n+1] = made.Calls([]int{0}).Funcs[0]
	}
	if got := Groups(m); !same(got, [][]int{numbersTo(count)}) {
		t.Errorf("%d groups of one ring", len(got))
	}
}

// Many rings, each of two of which comes to the one behind it, or ahead of it.
func TestRingsInARow(t *testing.T) {
	const rings = 30000
	var up, down [][]int
	for g := range rings {
		up = append(up, []int{2*g + 1, 2*g + 2}, []int{2 * g})
		down = append(down, []int{2*g + 1}, []int{2 * g, 2*g - 1})
	}
	var want [][]int
	for g := range rings {
		want = append(want, []int{2 * g, 2*g + 1})
	}
	if got := Groups(made.Calls(down...)); !same(got, want) {
		t.Errorf("each to the one ahead: %d groups", len(got))
	}
	slices.Reverse(want)
	if got := Groups(made.Calls(up...)); !same(got, want) {
		t.Errorf("each to the one behind: %d groups", len(got))
	}
}
