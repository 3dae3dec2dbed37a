package loop

import (
	"slices"
	"testing"

	"davit/api"
	"davit/kept"
	"davit/made"
	"davit/shape"
)

func TestAFunctionThatIsHandedInIsNotChanged(t *testing.T) {
	all := func(f api.Func) {
		All(f)
		for n := range f.Blocks {
			Deep(f, n)
		}
	}
	for seed := range uint64(1000) {
		for _, f := range append(made.Module(seed).Funcs, made.Func(seed), made.Web(seed, 9)) {
			if !kept.Func(f, all) {
				t.Fatalf("seed %d: the function is changed", seed)
			}
		}
	}
}

func example() (api.Func, []api.Loop) {
	f := of(jump(1), jump(2), branch(2, 3), branch(1, 4), branch(0, 5), ret)
	return f, []api.Loop{loop(0, 0, 1, 2, 3, 4), loop(1, 1, 2, 3), loop(2, 2)}
}

// What is written to an answer's loops, and put behind them, isn't seen in another answer, nor in the function.
func TestAnswersAreNewMemory(t *testing.T) {
	f, want := example()
	was := shape.Copy(api.Module{Funcs: []api.Func{f}})
	ahead, answer := All(f), All(f)
	for i := range want {
		if !kept.Apart(func() []int { return All(f)[i].Blocks }, -7) {
			t.Errorf("the blocks of loop %d: what is written to one answer stands in another one", i)
		}
	}
	answer = answer[:cap(answer)]
	for i := range answer {
		answer[i] = loop(-7, -7)
	}
	if again := All(f); !same(ahead, want) || !same(again, want) {
		t.Errorf("what is written to one answer stands in another one: %+v, %+v", ahead, again)
	}
	if !shape.Same(was, api.Module{Funcs: []api.Func{f}}) {
		t.Error("what is written to an answer stands in the function")
	}
}

// What is written to the blocks of one loop, and put behind them, isn't seen in another loop of the answer.
func TestLoopsShareNoMemory(t *testing.T) {
	f, want := example()
	for i := range want {
		all := All(f)
		list := all[i].Blocks[:cap(all[i].Blocks)]
		for n := range list {
			list[n] = -7
		}
		all[i] = want[i]
		if !same(all, want) {
			t.Errorf("what is written to loop %d stands in another one: %+v", i, all)
		}
	}
}

// What is written to the function isn't seen in what was answered of it.
func TestWhatIsHandedInIsNotKept(t *testing.T) {
	f, want := example()
	all := All(f)
	for n := range f.Blocks {
		f.Blocks[n] = api.Block{End: ret}
	}
	if !same(all, want) {
		t.Errorf("%+v", all)
	}
	if all = All(f); len(all) != 0 || Deep(f, 0) != 0 {
		t.Errorf("%+v, and block 0 in %d", all, Deep(f, 0))
	}
}

// The answer is the same each time.
func TestTheSameEachTime(t *testing.T) {
	for seed := range uint64(100) {
		f := made.Web(seed, 40)
		want := All(f)
		for range 5 {
			if !same(All(f), want) {
				t.Fatalf("seed %d", seed)
			}
		}
		if slices.ContainsFunc(want, func(l api.Loop) bool { return !slices.IsSorted(l.Blocks) }) {
			t.Fatalf("seed %d: not rising", seed)
		}
	}
}
