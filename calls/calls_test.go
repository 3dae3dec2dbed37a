package calls

import (
	"math"
	"slices"
	"testing"

	"davit/api"
	"davit/made"
)

// called is a module and what is told of it by the chapter's words.
type called struct {
	name string
	m    api.Module
	of   [][]int // of each function those that it calls
	used []int
	row  [][]int // the groups
}

func cases() []called {
	return []called{
		{"no function", api.Module{}, nil, nil, nil},
		{"an empty list of functions", api.Module{Funcs: []api.Func{}}, nil, nil, nil},
		{"a function without blocks", api.Module{Funcs: []api.Func{{}}}, [][]int{nil}, []int{0}, [][]int{{0}}},
		{"functions without blocks", api.Module{Funcs: make([]api.Func, 3)}, [][]int{nil, nil, nil}, []int{0}, [][]int{{0}, {1}, {2}}},
		{"one that calls nobody", made.Calls(nil), [][]int{nil}, []int{0}, [][]int{{0}}},
		{"one that calls itself", made.Calls([]int{0}), [][]int{{0}}, []int{0}, [][]int{{0}}},
		{"one that calls itself twice", made.Calls([]int{0, 0}), [][]int{{0}}, []int{0}, [][]int{{0}}},
		{"one that calls what isn't there", made.Calls([]int{1, -1, 2}), [][]int{nil}, []int{0}, [][]int{{0}}},
		{"several that call nobody", made.Calls(nil, nil, nil, nil), [][]int{nil, nil, nil, nil}, []int{0}, [][]int{{0}, {1}, {2}, {3}}},
		{"several that call themselves", made.Calls([]int{0}, []int{1}, []int{2}), [][]int{{0}, {1}, {2}}, []int{0}, [][]int{{0}, {1}, {2}}},
		{"the chapter's", made.Calls([]int{1, 2}, nil, []int{2}), [][]int{{1, 2}, nil, {2}}, []int{0, 1, 2}, [][]int{{1}, {2}, {0}}},
		{"told rising, none twice", made.Calls([]int{3, 1, 3, 2, 1, 0, 3}, nil, nil, nil), [][]int{{0, 1, 2, 3}, nil, nil, nil}, []int{0, 1, 2, 3}, [][]int{{1}, {2}, {3}, {0}}},
		{"falling", made.Calls(nil, []int{3, 2, 1, 0}, nil, nil), [][]int{nil, {0, 1, 2, 3}, nil, nil}, []int{0}, [][]int{{0}, {2}, {3}, {1}}},
		{"among some that aren't there", made.Calls([]int{7, 2, -1, 3, 1}, nil, nil), [][]int{{1, 2}, nil, nil}, []int{0, 1, 2}, [][]int{{1}, {2}, {0}}},
		{"a row upwards", made.Calls([]int{1}, []int{2}, []int{3}, nil), [][]int{{1}, {2}, {3}, nil}, []int{0, 1, 2, 3}, [][]int{{3}, {2}, {1}, {0}}},
		{"a row downwards", made.Calls(nil, []int{0}, []int{1}, []int{2}), [][]int{nil, {0}, {1}, {2}}, []int{0}, [][]int{{0}, {1}, {2}, {3}}},
		{"a row from 0 down", made.Calls([]int{3}, nil, []int{1}, []int{2}), [][]int{{3}, nil, {1}, {2}}, []int{0, 1, 2, 3}, [][]int{{1}, {2}, {3}, {0}}},
		{"a ring of two", made.Calls([]int{1}, []int{0}), [][]int{{1}, {0}}, []int{0, 1}, [][]int{{0, 1}}},
		{"a ring of all", made.Calls([]int{1}, []int{2}, []int{3}, []int{0}), [][]int{{1}, {2}, {3}, {0}}, []int{0, 1, 2, 3}, [][]int{{0, 1, 2, 3}}},
		{"a ring of all, the other way", made.Calls([]int{3}, []int{0}, []int{1}, []int{2}), [][]int{{3}, {0}, {1}, {2}}, []int{0, 1, 2, 3}, [][]int{{0, 1, 2, 3}}},
		{"0 called by nobody", made.Calls([]int{2}, []int{2}, nil), [][]int{{2}, {2}, nil}, []int{0, 2}, [][]int{{2}, {0}, {1}}},
		{"0 called by one that isn't used", made.Calls(nil, []int{0}), [][]int{nil, {0}}, []int{0}, [][]int{{0}, {1}}},
		{"called by one that isn't used alone", made.Calls([]int{1}, nil, []int{3}, nil), [][]int{{1}, nil, {3}, nil}, []int{0, 1}, [][]int{{1}, {0}, {3}, {2}}},
		{"called by both", made.Calls([]int{3}, nil, []int{3, 1}, nil), [][]int{{3}, nil, {1, 3}, nil}, []int{0, 3}, [][]int{{1}, {3}, {0}, {2}}},
		{"a ring beside 0", made.Calls([]int{3}, []int{2}, []int{1}, nil), [][]int{{3}, {2}, {1}, nil}, []int{0, 3}, [][]int{{1, 2}, {3}, {0}}},
		{"a ring that calls 0", made.Calls(nil, []int{2}, []int{1, 0}), [][]int{nil, {2}, {0, 1}}, []int{0}, [][]int{{0}, {1, 2}}},
		{"a ring that 0 calls", made.Calls([]int{2}, []int{2}, []int{1}), [][]int{{2}, {2}, {1}}, []int{0, 1, 2}, [][]int{{1, 2}, {0}}},
		{"a ring that calls itself, too", made.Calls([]int{1}, []int{1, 0, 2}, nil), [][]int{{1}, {0, 1, 2}, nil}, []int{0, 1, 2}, [][]int{{2}, {0, 1}}},
		{"two rings, one comes to the other", made.Calls([]int{2}, []int{3}, []int{0, 1}, []int{1}), [][]int{{2}, {3}, {0, 1}, {1}}, []int{0, 1, 2, 3}, [][]int{{1, 3}, {0, 2}}},
		{"two rings, the other comes to the one", made.Calls([]int{2}, []int{3}, []int{0}, []int{1, 2}), [][]int{{2}, {3}, {0}, {1, 2}}, []int{0, 2}, [][]int{{0, 2}, {1, 3}}},
		{"two rings apart", made.Calls([]int{3}, []int{2}, []int{1}, []int{0}), [][]int{{3}, {2}, {1}, {0}}, []int{0, 3}, [][]int{{0, 3}, {1, 2}}},
		{"two rings in one function", made.Calls([]int{1, 2}, []int{0}, []int{0}), [][]int{{1, 2}, {0}, {0}}, []int{0, 1, 2}, [][]int{{0, 1, 2}}},
		{"two rings, and one between", made.Calls([]int{1}, []int{0, 4}, []int{3}, []int{2}, []int{2}), [][]int{{1}, {0, 4}, {3}, {2}, {2}}, []int{0, 1, 2, 3, 4}, [][]int{{2, 3}, {4}, {0, 1}}},
		{"a ring of high numbers ahead", made.Calls([]int{4}, nil, []int{4}, []int{4}, []int{5}, []int{4}), [][]int{{4}, nil, {4}, {4}, {5}, {4}}, []int{0, 4, 5}, [][]int{{1}, {4, 5}, {0}, {2}, {3}}},
		{"ahead as soon as it may", made.Calls([]int{3}, []int{4}, nil, nil, nil), [][]int{{3}, {4}, nil, nil, nil}, []int{0, 3}, [][]int{{2}, {3}, {0}, {4}, {1}}},
		{"two that meet", made.Calls([]int{1, 2}, []int{3}, []int{3}, nil), [][]int{{1, 2}, {3}, {3}, nil}, []int{0, 1, 2, 3}, [][]int{{3}, {1}, {2}, {0}}},
		{"the least number of a group, not its last", made.Calls([]int{5}, []int{6}, nil, []int{2}, nil, []int{0}, []int{1}), [][]int{{5}, {6}, nil, {2}, nil, {0}, {1}}, []int{0, 5}, [][]int{{0, 5}, {1, 6}, {2}, {3}, {4}}},
	}
}

func TestOf(t *testing.T) {
	for _, c := range cases() {
		for n, want := range c.of {
			if got := Of(c.m, n); !slices.Equal(got, want) {
				t.Errorf("%s: function %d calls %v, not %v", c.name, n, got, want)
			}
		}
		for _, n := range made.NoneOf(len(c.m.Funcs)) {
			if got := Of(c.m, n); len(got) != 0 {
				t.Errorf("%s: function %d, which isn't there, calls %v", c.name, n, got)
			}
		}
	}
}

func TestUsed(t *testing.T) {
	for _, c := range cases() {
		got := Used(c.m)
		if len(got) != len(c.m.Funcs) {
			t.Errorf("%s: %v", c.name, got)
		}
		for n, used := range got {
			if used != slices.Contains(c.used, n) {
				t.Errorf("%s: function %d is used: %v", c.name, n, used)
			}
		}
	}
}

// room is a module of seven functions, the third one of which has four blocks of four instructions that are no calls.
func room() api.Module {
	m := api.Module{Funcs: make([]api.Func, 7)}
	for range 4 {
		b := api.Block{Ins: make([]api.Ins, 4), End: api.End{Kind: api.Jump}}
		for i := range b.Ins {
			b.Ins[i] = api.Ins{Op: api.Const}
		}
		m.Funcs[2].Blocks = append(m.Funcs[2].Blocks, b)
	}
	return m
}

// only tells whether of the module's functions the third one alone calls anybody: these.
func only(m api.Module, list ...int) bool {
	for n := range m.Funcs {
		if got := Of(m, n); n == 2 && !slices.Equal(got, list) || n != 2 && len(got) != 0 {
			return false
		}
	}
	return true
}

func TestACallAtAnyPlace(t *testing.T) {
	if !only(room()) {
		t.Error("no call")
	}
	for block := range 4 {
		for at := range 4 {
			m := room()
			m.Funcs[2].Blocks[block].Ins[at] = api.Ins{Op: api.Call, F: 5}
			if !only(m, 5) || !Comes(m, 2, 5) || Comes(m, 5, 2) {
				t.Errorf("block %d, instruction %d", block, at)
			}
		}
		m := room()
		m.Funcs[2].Blocks[block].End = api.End{Kind: api.Invoke, F: 5}
		if !only(m, 5) || !Comes(m, 2, 5) || Comes(m, 5, 2) {
			t.Errorf("block %d, its end", block)
		}
	}
}

// One function is called by a Call, by an Invoke, and by both, each of which may stand ahead, and is told once.
func TestTheSameFunctionMoreThanOnce(t *testing.T) {
	m := room()
	blocks := m.Funcs[2].Blocks
	for _, at := range [][2]int{{0, 1}, {0, 2}, {3, 0}, {2, 3}} {
		blocks[at[0]].Ins[at[1]] = api.Ins{Op: api.Call, F: 5}
		if !only(m, 5) {
			t.Errorf("%v: %v", at, Of(m, 2))
		}
	}
	blocks[1].End = api.End{Kind: api.Invoke, F: 5}
	if !only(m, 5) {
		t.Errorf("by an Invoke, too: %v", Of(m, 2))
	}
	blocks[0].End = api.End{Kind: api.Invoke, F: 6}
	blocks[3].Ins[3] = api.Ins{Op: api.Call, F: 6}
	blocks[2].End = api.End{Kind: api.Invoke, F: 2}
	if !only(m, 2, 5, 6) {
		t.Errorf("and others: %v", Of(m, 2))
	}
}

func TestCallsOfWhatIsNotThere(t *testing.T) {
	for _, n := range append(made.NoneOf(7), math.MinInt, math.MaxInt, -1, 7) {
		m := room()
		m.Funcs[2].Blocks[0].Ins[1] = api.Ins{Op: api.Call, F: n}
		m.Funcs[2].Blocks[3].End = api.End{Kind: api.Invoke, F: n}
		if !only(m) {
			t.Errorf("%d: %v", n, Of(m, 2))
		}
		m.Funcs[2].Blocks[2].Ins[3] = api.Ins{Op: api.Call, F: 6}
		m.Funcs[2].Blocks[1].End = api.End{Kind: api.Invoke, F: 0}
		if !only(m, 0, 6) {
			t.Errorf("%d, beside others: %v", n, Of(m, 2))
		}
	}
}

// numbers of Ops and Kinds that there are, of those around them, and of some that would be one if they were cut to fewer bits.
func numbers() []int {
	list := []int{math.MinInt, math.MaxInt, math.MinInt + api.Call, math.MinInt + api.Invoke, -api.Call, -api.Invoke}
	for _, bits := range []int{8, 16, 32} {
		list = append(list, 1<<bits+api.Call, 1<<bits+api.Invoke)
	}
	for n := -20; n <= 20; n++ {
		list = append(list, n)
	}
	return list
}

// An instruction of another Op, or an end of another Kind, is no call, whatever stands in it; and in a call the number in F alone is a function's.
func TestWhatIsNoCall(t *testing.T) {
	for _, n := range numbers() {
		m := room()
		m.Funcs[2].Blocks[1].Ins[2] = api.Ins{Op: n, F: 5, Dst: 6, A: 6, B: 6, K: 6, Args: []int{6}}
		if got := Of(m, 2); len(got) != 0 && n != api.Call || n == api.Call && !slices.Equal(got, []int{5}) {
			t.Errorf("Op %d: %v", n, got)
		}
		m = room()
		m.Funcs[2].Blocks[1].End = api.End{Kind: n, F: 5, Dst: 6, A: 6, To: 6, Else: 6, Pad: 6, Args: []int{6}}
		if got := Of(m, 2); len(got) != 0 && n != api.Invoke || n == api.Invoke && !slices.Equal(got, []int{5}) {
			t.Errorf("Kind %d: %v", n, got)
		}
	}
}

// A block calls, whatever else is told of it and its function: also where nothing comes to it, and where it may not be.
func TestBlocksThatNobodyComesTo(t *testing.T) {
	m := api.Module{Funcs: []api.Func{{Params: -1, Blocks: []api.Block{
		{End: api.End{Kind: api.Ret}},
		{Landing: true, Ins: []api.Ins{{Op: api.Call, F: 1, Dst: 900, Args: []int{-7}}}},
		{End: api.End{Kind: api.Invoke, F: 2, To: 77, Pad: -5}},
	}}, {}, {}}}
	if got := Of(m, 0); !slices.Equal(got, []int{1, 2}) {
		t.Errorf("%v", got)
	}
}

func TestComes(t *testing.T) {
	// 0 calls 1, that calls 2, that calls 3; 3 and 4 call one another; 5 calls itself; 6 calls 4 and 5
	m := made.Calls([]int{1}, []int{2}, []int{3}, []int{4}, []int{3}, []int{5}, []int{4, 5})
	for a, list := range [][]int{{1, 2, 3, 4}, {2, 3, 4}, {3, 4}, {3, 4}, {3, 4}, {5}, {3, 4, 5}} {
		for b := range m.Funcs {
			if got := Comes(m, a, b); got != slices.Contains(list, b) {
				t.Errorf("%d comes to %d: %v", a, b, got)
			}
		}
		for _, n := range made.NoneOf(len(m.Funcs)) {
			if Comes(m, a, n) || Comes(m, n, a) || Comes(m, n, n) {
				t.Errorf("%d comes to %d, which isn't there, or that one to it, or to itself", a, n)
			}
		}
	}
	for _, n := range []int{math.MinInt, -1, 0, 1, math.MaxInt} {
		if Comes(api.Module{}, n, n) || Comes(api.Module{}, 0, n) || Comes(api.Module{}, n, 0) {
			t.Errorf("%d in a module without functions", n)
		}
	}
}

// Nobody comes by a call of what isn't there to what is, nor to what is called so.
func TestComesByNoneThatIsNotThere(t *testing.T) {
	for _, n := range made.NoneOf(3) {
		m := made.Calls([]int{n, n}, []int{n, 0}, nil)
		if Comes(m, 0, n) || Comes(m, 1, n) || Comes(m, 0, 2) || Comes(m, 1, 2) || !Comes(m, 1, 0) {
			t.Errorf("%d", n)
		}
	}
}
