package flow

import (
	"math"
	"slices"
	"testing"

	"davit/api"
	"davit/made"
)

var jump, branch, invoke, of, landing, notThere = made.Jump, made.Branch, made.Invoke, made.Of, made.Landing, made.NotThere

// all has a block in each goal, whether its Kind uses it or not.
func all(kind, to, other, pad int) api.End {
	return api.End{Kind: kind, To: to, Else: other, Pad: pad}
}

var ret = api.End{Kind: api.Ret}

func TestNextByKind(t *testing.T) {
	for kind := -20; kind <= 20; kind++ {
		var want []int
		switch kind {
		case api.Jump:
			want = []int{2}
		case api.Branch:
			want = []int{2, 1}
		case api.Invoke:
			want = []int{2, 3}
		}
		f := of(all(kind, 2, 1, 3), ret, ret, ret)
		for _, f := range []api.Func{f, landing(f, 3), landing(f, 0, 1, 2, 3)} {
			if got := Next(f, 0); !slices.Equal(got, want) {
				t.Errorf("Kind %d: %v, not %v", kind, got, want)
			}
		}
	}
	for _, kind := range []int{1<<32 + api.Jump, 1<<16 + api.Branch, 256 + api.Invoke, math.MaxInt, math.MinInt, math.MinInt + api.Invoke} {
		if got := Next(of(all(kind, 0, 0, 0)), 0); len(got) != 0 {
			t.Errorf("Kind %d: %v", kind, got)
		}
	}
}

func TestNext(t *testing.T) {
	for _, c := range []struct {
		name string
		f    api.Func
		n    int
		want []int
	}{
		{"itself", of(ret, jump(1)), 1, []int{1}},
		{"falling", of(branch(2, 1), ret, ret), 0, []int{2, 1}},
		{"rising", of(branch(1, 2), ret, ret), 0, []int{1, 2}},
		{"one twice by a Branch", of(branch(1, 1), ret), 0, []int{1, 1}},
		{"itself twice by a Branch", of(branch(0, 0)), 0, []int{0, 0}},
		{"one twice by an Invoke", of(invoke(1, 1), ret), 0, []int{1, 1}},
		{"itself twice by an Invoke", of(invoke(0, 0)), 0, []int{0, 0}},
		{"a Pad ahead of its To", landing(of(invoke(2, 1), ret, ret), 1), 0, []int{2, 1}},
		{"a Pad that isn't Landing", of(invoke(2, 1), ret, ret), 0, []int{2, 1}},
		{"goals that are Landing", landing(of(branch(2, 1), ret, ret), 1, 2), 0, []int{2, 1}},
		{"that of another block", of(jump(1), branch(2, 0), ret), 1, []int{2, 0}},
		{"of a Landing one", landing(of(invoke(2, 1), jump(2), ret), 1), 1, []int{2}},
		{"a Jump below 0", of(jump(-1), ret), 0, nil},
		{"a Jump just beyond", of(jump(2), ret), 0, nil},
		{"a Branch below 0", of(branch(-1, 1), ret), 0, []int{1}},
		{"a Branch beyond", of(branch(2, 1), ret), 0, []int{1}},
		{"an Else below 0", of(branch(1, -1), ret), 0, []int{1}},
		{"an Else beyond", of(branch(1, 2), ret), 0, []int{1}},
		{"neither of a Branch", of(branch(-1, 2), ret), 0, nil},
		{"a Pad below 0", of(invoke(1, -1), ret), 0, []int{1}},
		{"a Pad beyond", of(invoke(1, 2), ret), 0, []int{1}},
		{"an Invoke's To below 0", landing(of(invoke(-1, 1), ret), 1), 0, []int{1}},
		{"an Invoke's To beyond", landing(of(invoke(2, 1), ret), 1), 0, []int{1}},
		{"neither of an Invoke", of(invoke(2, -1), ret), 0, nil},
		{"far below 0", of(branch(math.MinInt, -1<<32), ret), 0, nil},
		{"far beyond", of(branch(math.MaxInt, 1<<32), ret), 0, nil},
		{"a Pad far beyond", of(invoke(1<<16, 1<<32+1), ret), 0, nil},
		{"of no block", api.Func{}, 0, nil},
	} {
		if got := Next(c.f, c.n); !slices.Equal(got, c.want) {
			t.Errorf("%s: %v, not %v", c.name, got, c.want)
		}
	}
}

func TestNothingOfABlockThatIsNotThere(t *testing.T) {
	for _, f := range []api.Func{{}, {Blocks: []api.Block{}}, of(jump(0)), of(branch(1, 0), jump(0)), of(jump(-1), branch(2, 1002))} {
		for _, n := range notThere(f) {
			if got := Next(f, n); len(got) != 0 {
				t.Errorf("%+v: next to %d is %v", f, n, got)
			}
			if got := Before(f, n); len(got) != 0 {
				t.Errorf("%+v: before %d is %v", f, n, got)
			}
		}
	}
}

// A block that isn't there has nobody before it, though it is named.
func TestNobodyIsBeforeWhatIsNamedAndIsNotThere(t *testing.T) {
	for _, n := range notThere(of(ret, ret, ret, ret)) {
		f := of(jump(n), branch(n, n), invoke(n, n), ret)
		if got := Before(f, n); len(got) != 0 {
			t.Errorf("%d: %v", n, got)
		}
		for k := range f.Blocks {
			if got := Next(f, k); len(got) != 0 {
				t.Errorf("next to %d by %d: %v", k, n, got)
			}
		}
	}
}

func TestBefore(t *testing.T) {
	for _, c := range []struct {
		name string
		f    api.Func
		n    int
		want []int
	}{
		{"nobody", of(jump(1), ret), 0, nil},
		{"one", of(jump(1), ret), 1, []int{0}},
		{"several", of(jump(2), jump(2), ret, jump(2)), 2, []int{0, 1, 3}},
		{"by Else, Pad and To", landing(of(branch(0, 3), invoke(0, 3), jump(3), ret), 3), 3, []int{0, 1, 2}},
		{"by an Invoke's To", landing(of(invoke(2, 1), ret, ret), 1), 2, []int{0}},
		{"a block that names it twice", of(branch(1, 1), ret), 1, []int{0}},
		{"an Invoke that names it twice", of(invoke(1, 1), ret), 1, []int{0}},
		{"several that name it twice", of(branch(2, 2), branch(2, 2), branch(2, 2)), 2, []int{0, 1, 2}},
		{"itself", of(ret, jump(1)), 1, []int{1}},
		{"itself twice", of(ret, branch(1, 1)), 1, []int{1}},
		{"itself and others", of(jump(1), branch(1, 2), jump(1)), 1, []int{0, 1, 2}},
		{"block 0", of(jump(1), jump(0)), 0, []int{1}},
		{"who isn't reached", of(ret, jump(0)), 0, []int{1}},
		{"who names another one that isn't there", of(branch(-1, 1), branch(1, 2)), 1, []int{0, 1}},
		{"not by what an end doesn't use", of(all(api.Ret, 2, 2, 2), all(api.Throw, 2, 2, 2), all(api.Resume, 2, 2, 2)), 2, nil},
		{"not by what a Jump and a Branch don't use", of(all(api.Jump, 0, 2, 2), all(api.Branch, 0, 0, 2), ret), 2, nil},
		{"not by an Invoke's Else", of(all(api.Invoke, 0, 2, 1), ret, ret), 2, nil},
		{"not by ends that are none", of(all(0, 2, 2, 2), all(7, 2, 2, 2), all(-1, 2, 2, 2)), 2, nil},
	} {
		if got := Before(c.f, c.n); !slices.Equal(got, c.want) {
			t.Errorf("%s: %v, not %v", c.name, got, c.want)
		}
	}
}
