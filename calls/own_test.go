package calls

import (
	"slices"
	"testing"

	"davit/api"
	"davit/kept"
	"davit/made"
	"davit/shape"
)

func TestAModuleThatIsHandedInIsNotChanged(t *testing.T) {
	all := func(m api.Module) {
		Used(m)
		Groups(m)
		for a := range len(m.Funcs) + 2 {
			Of(m, a-1)
			for b := range m.Funcs {
				Comes(m, a-1, b)
			}
		}
	}
	for seed := range uint64(500) {
		for _, m := range []api.Module{made.Module(seed), made.Callers(seed, int(seed%12))} {
			if !kept.Module(m, all) {
				t.Fatalf("seed %d: the module is changed", seed)
			}
		}
	}
}

// example has two groups of more than one function, and two of one.
func example() (api.Module, [][]int) {
	return made.Calls([]int{3, 1}, []int{4}, nil, []int{0}, []int{5, 2}, []int{1, 2}), [][]int{{2}, {1, 4, 5}, {0, 3}}
}

// What is written to an answer, and put behind it, isn't seen in another answer, nor in the module.
func TestAnswersAreNewMemory(t *testing.T) {
	m, want := example()
	was := shape.Copy(m)
	for n := -1; n <= len(m.Funcs); n++ {
		if !kept.Apart(func() []int { return Of(m, n) }, -7) {
			t.Errorf("those that %d calls: what is written to one answer stands in another one", n)
		}
	}
	if !kept.Apart(func() []bool { return Used(m) }, false) || !kept.Apart(func() []bool { return Used(api.Module{}) }, true) {
		t.Error("used ones: what is written to one answer stands in another one")
	}
	for g := range want {
		if !kept.Apart(func() []int { return Groups(m)[g] }, -7) {
			t.Errorf("group %d: what is written to one answer stands in another one", g)
		}
	}
	ahead, answer := Groups(m), Groups(m)
	answer = answer[:cap(answer)]
	for g := range answer {
		answer[g] = []int{-7}
	}
	if again := Groups(m); !same(ahead, want) || !same(again, want) {
		t.Errorf("groups: what is written to one answer stands in another one: %v, %v", ahead, again)
	}
	if !shape.Same(m, was) {
		t.Error("what is written to an answer stands in the module")
	}
}

// What is written to one group, and put behind it, isn't seen in another group of the answer.
func TestGroupsShareNoMemory(t *testing.T) {
	m, want := example()
	for g := range want {
		row := Groups(m)
		list := row[g][:cap(row[g])]
		for i := range list {
			list[i] = -7
		}
		row[g] = want[g]
		if !same(row, want) {
			t.Errorf("what is written to group %d stands in another one: %v", g, row)
		}
	}
}

// What is written to the module isn't seen in what was answered of it.
func TestWhatIsHandedInIsNotKept(t *testing.T) {
	m, want := example()
	of, used, row := Of(m, 4), Used(m), Groups(m)
	wasUsed := slices.Clone(used)
	for n := range m.Funcs {
		blocks := m.Funcs[n].Blocks
		for i := range blocks {
			blocks[i] = api.Block{End: api.End{Kind: api.Ret}}
		}
	}
	if !slices.Equal(of, []int{2, 5}) || !slices.Equal(used, wasUsed) || !same(row, want) {
		t.Errorf("%v, %v, %v", of, used, row)
	}
	if len(Of(m, 4)) != 0 || Comes(m, 4, 5) || Used(m)[1] || len(Groups(m)) != len(m.Funcs) {
		t.Error("what was answered once is answered again")
	}
}

// The answer is the same each time.
func TestTheSameEachTime(t *testing.T) {
	for seed := range uint64(100) {
		m := made.Callers(seed, 30)
		want := Groups(m)
		for range 5 {
			if !same(Groups(m), want) {
				t.Fatalf("seed %d", seed)
			}
		}
	}
}
