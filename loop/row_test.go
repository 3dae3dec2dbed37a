package loop

import (
	"slices"
	"testing"

	"davit/api"
)

// numbers from the first one on, the last one as well.
func numbers(first, last int) []int {
	var list []int
	for n := first; n <= last; n++ {
		list = append(list, n)
	}
	return list
}

func onward(n int) api.End { return jump(n + 1) }

func TestBackFromTheLastOfARowToEachBlock(t *testing.T) {
	for _, count := range []int{2, 3, 4, api.MaxBlocks - 1, api.MaxBlocks, api.MaxBlocks + 1} {
		last := count - 1
		f := row(count, onward)
		if got := All(f); len(got) != 0 {
			t.Errorf("%d blocks: %+v", count, got)
		}
		for to := range count {
			f.Blocks[last].End = jump(to)
			if got, want := All(f), []api.Loop{loop(to, numbers(to, last)...)}; !same(got, want) {
				t.Errorf("%d blocks, back to %d: %+v", count, to, got)
			}
			if Deep(f, last) != 1 || Deep(f, to) != 1 || to > 0 && Deep(f, to-1) != 0 {
				t.Errorf("%d blocks, back to %d: how deep", count, to)
			}
		}
	}
}

// Rows of as many blocks as there may be, and more.
func TestRows(t *testing.T) {
	for _, count := range []int{3, api.MaxBlocks - 1, api.MaxBlocks, api.MaxBlocks + 1, 1000, 100000} {
		var each []api.Loop
		for n := range count - 1 {
			each = append(each, loop(n, n))
		}
		for _, c := range []struct {
			name string
			end  func(n int) api.End
			want []api.Loop
		}{
			{"a row", onward, nil},
			{"to the last one from each", func(n int) api.End { return branch(n+1, count-1) }, nil},
			{"each back to itself", func(n int) api.End { return branch(n+1, n) }, each},
			{"each back to block 0", func(n int) api.End { return branch(0, n+1) }, []api.Loop{loop(0, numbers(0, count-2)...)}},
			{"each back to block 0 by a Pad", func(n int) api.End { return invoke(n+1, 0) }, []api.Loop{loop(0, numbers(0, count-2)...)}},
			{"each to one that isn't there", func(n int) api.End { return invoke(n+1, count) }, nil},
		} {
			f := row(count, c.end)
			if got := All(f); !same(got, c.want) {
				t.Errorf("%s, of %d blocks: not its loops, but %d", c.name, count, len(got))
			}
			want := min(len(c.want), 1)
			if Deep(f, 0) != want || Deep(f, count-2) != want || Deep(f, count-1) != 0 {
				t.Errorf("%s, of %d blocks: how deep", c.name, count)
			}
		}
	}
}

// Each of a row is a head: to it leads back the one that stands as far from the other end.
func rings(count int) api.Func {
	return row(2*count+1, func(n int) api.End {
		if n < count {
			return onward(n)
		}
		return branch(2*count-1-n, n+1)
	})
}

func TestOneInTheOther(t *testing.T) {
	for _, count := range []int{1, 2, 3, api.MaxBlocks/2 - 1, 1000} {
		var want []api.Loop
		for n := range count {
			want = append(want, loop(n, numbers(n, 2*count-1-n)...))
		}
		if got := All(rings(count)); !same(got, want) {
			t.Errorf("%d loops: not these, but %d", count, len(got))
		}
	}
	for _, count := range []int{1, 2, 3, api.MaxBlocks, 5000} {
		f := rings(count)
		for _, n := range []int{0, count / 2, count - 1} {
			if Deep(f, n) != n+1 || Deep(f, 2*count-1-n) != n+1 {
				t.Errorf("%d loops, one in the other: block %d in %d, block %d in %d", count, n, Deep(f, n), 2*count-1-n, Deep(f, 2*count-1-n))
			}
		}
	}
}

// All that lead back lie in the inmost loop: as many heads stand ahead of it.
func TestOneInTheOtherAllBackFromTheInmostOne(t *testing.T) {
	for _, count := range []int{1, 2, api.MaxBlocks/2 - 1, 1000, 5000} {
		f := row(2*count+1, func(n int) api.End {
			if n < count {
				return onward(n)
			}
			return branch(n+1, 2*count-n)
		})
		last := 2 * count
		f.Blocks[last].End = branch(count, 0)
		for n := range count + 1 {
			if n%(count/2+1) == 0 && Deep(f, n) != n+1 {
				t.Errorf("%d blocks: %d in %d", last+1, n, Deep(f, n))
			}
		}
		if Deep(f, last) != count+1 {
			t.Errorf("%d blocks: the last one in %d", last+1, Deep(f, last))
		}
		if count > 1000 {
			continue
		}
		for n, l := range All(f) {
			if l.Head != n || !slices.Equal(l.Blocks, numbers(n, last)) {
				t.Errorf("%d blocks: loop %d has head %d and %d blocks", last+1, n, l.Head, len(l.Blocks))
			}
		}
	}
}

// A row whose numbers fall: the head's number is the greatest.
func TestARowWhoseNumbersFall(t *testing.T) {
	for _, count := range []int{3, api.MaxBlocks, 100000} {
		f := row(count, func(n int) api.End { return jump(n - 1) })
		f.Blocks[0].End, f.Blocks[count-1].End = jump(count-1), jump(count-2)
		f.Blocks[1].End = jump(count - 1)
		if got, want := All(f), []api.Loop{loop(count-1, numbers(1, count-1)...)}; !same(got, want) {
			t.Errorf("%d blocks: %d loops", count, len(got))
		}
	}
}
