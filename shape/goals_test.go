package shape

import (
	"math"
	"slices"
	"testing"

	"davit/api"
	"davit/made"
)

func TestGoals(t *testing.T) {
	end := api.End{A: 9, Dst: 8, F: 7, Args: []int{6}, To: 2, Else: 5, Pad: 4}
	for kind := -20; kind <= 20; kind++ {
		var want []int
		switch kind {
		case api.Jump, api.Invoke:
			want = []int{2}
		case api.Branch:
			want = []int{2, 5}
		}
		end.Kind = kind
		for _, landing := range []bool{false, true} {
			if got := Goals(api.Block{Landing: landing, End: end}); !slices.Equal(got, want) {
				t.Errorf("Kind %d, Landing %v: %v, not %v", kind, landing, got, want)
			}
		}
	}
	for _, kind := range []int{1<<32 + api.Jump, 1<<16 + api.Branch, 256 + api.Invoke, math.MaxInt, math.MinInt, math.MinInt + api.Jump} {
		end.Kind = kind
		if got := Goals(api.Block{End: end}); len(got) != 0 {
			t.Errorf("Kind %d: %v", kind, got)
		}
	}
}

func TestGoalsAreToldAsTheyStand(t *testing.T) {
	for _, c := range []struct {
		name string
		end  api.End
		want []int
	}{
		{"both one", api.End{Kind: api.Branch, To: 3, Else: 3}, []int{3, 3}},
		{"falling", api.End{Kind: api.Branch, To: 3, Else: 1}, []int{3, 1}},
		{"noughts", api.End{Kind: api.Branch}, []int{0, 0}},
		{"no block's numbers", api.End{Kind: api.Branch, To: math.MinInt, Else: math.MaxInt}, []int{math.MinInt, math.MaxInt}},
		{"a Jump to 0", api.End{Kind: api.Jump}, []int{0}},
		{"a Jump below 0", api.End{Kind: api.Jump, To: -1, Else: 3}, []int{-1}},
		{"an Invoke without its Pad", api.End{Kind: api.Invoke, To: -1, Pad: 3}, []int{-1}},
	} {
		if got := Goals(api.Block{End: c.end}); !slices.Equal(got, c.want) {
			t.Errorf("%s: %v, not %v", c.name, got, c.want)
		}
	}
}

func jump(to int) api.Block { return api.Block{End: api.End{Kind: api.Jump, To: to}} }

func branch(to, other int) api.Block {
	return api.Block{End: api.End{Kind: api.Branch, To: to, Else: other}}
}

func invoke(to, pad int) api.Block {
	return api.Block{End: api.End{Kind: api.Invoke, To: to, Pad: pad}}
}

func ends(kind, to, other, pad int) api.Block {
	return api.Block{End: api.End{Kind: kind, To: to, Else: other, Pad: pad}}
}

func cleanup(b api.Block) api.Block {
	b.Landing, b.Pad.Cleanup = true, true
	return b
}

func catches(b api.Block) api.Block {
	b.Landing, b.Pad.All = true, true
	return b
}

func marked(b api.Block) api.Block {
	b.Pad.Cleanup = true
	return b
}

func TestCleans(t *testing.T) {
	for _, c := range []struct {
		name   string
		blocks []api.Block
		want   []int
	}{
		{"no block", nil, nil},
		{"none Landing", []api.Block{jump(1), jump(0)}, nil},
		{"one that only catches", []api.Block{invoke(0, 1), catches(jump(2)), jump(2)}, nil},
		{"a Cleanup where it isn't Landing", []api.Block{marked(jump(1)), jump(1)}, nil},
		{"itself alone", []api.Block{invoke(0, 1), cleanup(ends(api.Resume, 0, 0, 0))}, []int{1}},
		{"one that catches, too", []api.Block{jump(0), cleanup(catches(jump(2))), jump(2)}, []int{1, 2}},
		{"over several", []api.Block{invoke(0, 1), cleanup(jump(4)), jump(0), jump(2), jump(3)}, []int{0, 1, 2, 3, 4}},
		{"over several and no further", []api.Block{jump(5), cleanup(jump(4)), ends(api.Ret, 5, 5, 5), jump(2), jump(3), jump(0)}, []int{1, 2, 3, 4}},
		{"both ways of a Branch", []api.Block{jump(0), cleanup(branch(2, 3)), jump(4), jump(5), jump(4), jump(5), jump(5)}, []int{1, 2, 3, 4, 5}},
		{"in a ring", []api.Block{jump(0), cleanup(jump(2)), jump(3), jump(4), jump(2), jump(2)}, []int{1, 2, 3, 4}},
		{"in a ring by itself", []api.Block{jump(0), cleanup(jump(1)), jump(1)}, []int{1}},
		{"by an Invoke's To, not its Pad", []api.Block{jump(0), cleanup(invoke(2, 3)), jump(2), catches(jump(4)), jump(4)}, []int{1, 2}},
		{"not by what a Jump doesn't use", []api.Block{jump(0), cleanup(ends(api.Jump, 2, 3, 4)), jump(2), jump(3), jump(4)}, []int{1, 2}},
		{"not by ends without goals", []api.Block{cleanup(ends(api.Ret, 3, 3, 3)), cleanup(ends(api.Throw, 3, 3, 3)), cleanup(ends(api.Resume, 3, 3, 3)), jump(3)}, []int{0, 1, 2}},
		{"not by ends that are none", []api.Block{cleanup(ends(0, 3, 3, 3)), cleanup(ends(7, 3, 3, 3)), cleanup(ends(-1, 3, 3, 3)), jump(3)}, []int{0, 1, 2}},
		{"not backwards", []api.Block{jump(1), jump(2), cleanup(jump(3)), jump(3)}, []int{2, 3}},
		{"a first block that is a Cleanup", []api.Block{cleanup(jump(1)), jump(1)}, []int{0, 1}},
		{"over one that is Landing", []api.Block{jump(0), cleanup(jump(2)), catches(jump(3)), jump(3), jump(3)}, []int{1, 2, 3}},
		{"two that lead to one", []api.Block{jump(0), cleanup(jump(3)), cleanup(jump(3)), jump(4), jump(4), jump(4)}, []int{1, 2, 3, 4}},
		{"one to the other", []api.Block{jump(0), cleanup(jump(2)), cleanup(jump(3)), jump(3)}, []int{1, 2, 3}},
		{"numbers of no block", []api.Block{jump(-1), cleanup(branch(3, 2)), branch(-1, math.MaxInt)}, []int{1, 2}},
		{"numbers just beyond", []api.Block{jump(0), cleanup(branch(3, -1)), jump(2)}, []int{1}},
		{"numbers far beyond", []api.Block{jump(0), cleanup(branch(math.MinInt, 1<<32)), jump(2)}, []int{1}},
	} {
		got := Cleans(api.Func{Blocks: c.blocks})
		if len(got) != len(c.blocks) {
			t.Errorf("%s: %d answers of %d blocks", c.name, len(got), len(c.blocks))
			continue
		}
		for n, is := range got {
			if is != slices.Contains(c.want, n) {
				t.Errorf("%s: block %d is %v", c.name, n, is)
			}
		}
	}
}

func TestCleansOfManyBlocksInARow(t *testing.T) {
	const count = 200000
	f := api.Func{Blocks: make([]api.Block, count)}
	for n := range f.Blocks {
		f.Blocks[n] = branch(n+1, n-1)
	}
	if slices.Contains(Cleans(f), true) {
		t.Error("something without a Cleanup")
	}
	f.Blocks[count/2] = cleanup(f.Blocks[count/2])
	if slices.Contains(Cleans(f), false) {
		t.Error("not all of them")
	}
}

// leads says by every pair of blocks what Cleans finds by going from the cleanups on.
func leads(f api.Func) []bool {
	count := len(f.Blocks)
	way := make([][]bool, count)
	for i, b := range f.Blocks {
		way[i] = make([]bool, count)
		way[i][i] = true
		for _, goal := range Goals(b) {
			if goal >= 0 && goal < count {
				way[i][goal] = true
			}
		}
	}
	for k := range count {
		for i := range count {
			for j := range count {
				way[i][j] = way[i][j] || way[i][k] && way[k][j]
			}
		}
	}
	is := make([]bool, count)
	for i, b := range f.Blocks {
		for j := range count {
			is[j] = is[j] || b.Landing && b.Pad.Cleanup && way[i][j]
		}
	}
	return is
}

func TestCleansOfMixedBlocks(t *testing.T) {
	for seed := range uint64(3000) {
		f := made.Func(seed)
		if got, want := Cleans(f), leads(f); !slices.Equal(got, want) {
			t.Fatalf("%+v: %v, not %v", f, got, want)
		}
	}
}
