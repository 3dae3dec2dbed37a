package live

import (
	"math"
	"slices"
	"strings"
	"testing"

	"davit/api"
)

// insAsks says of each Op what it asks for, and insSets which set, by the chapter.
var insAsks = map[int]string{
	api.Const: "", api.Copy: "A",
	api.Add: "A B", api.Sub: "A B", api.Mul: "A B", api.Div: "A B", api.Eq: "A B", api.Lt: "A B",
	api.Load: "A", api.Store: "A B", api.Call: "Args", api.Out: "A", api.In: "",
}

var insSets = map[int]bool{
	api.Const: true, api.Copy: true,
	api.Add: true, api.Sub: true, api.Mul: true, api.Div: true, api.Eq: true, api.Lt: true,
	api.Load: true, api.Call: true, api.In: true,
}

// endAsks says of each Kind what it asks for.
var endAsks = map[int]string{
	api.Ret: "A", api.Jump: "", api.Branch: "A", api.Invoke: "Args", api.Throw: "A", api.Resume: "",
}

// named are the places in these fields.
func named(fields string, a, b int, args []int) []int {
	var list []int
	for _, field := range strings.Fields(fields) {
		list = append(list, map[string][]int{"A": {a}, "B": {b}, "Args": args}[field]...)
	}
	return list
}

func insNames(x api.Ins) []int { return named(insAsks[x.Op], x.A, x.B, x.Args) }

func endNames(e api.End) []int { return named(endAsks[e.Kind], e.A, 0, e.Args) }

// numbers of Ops and Kinds that there are, of those around them, and of some that would be one if they were cut to fewer bits.
func numbers() []int {
	list := []int{math.MinInt, math.MinInt + api.Copy, math.MaxInt, -1 << 32, 1<<32 + api.Copy, 1<<16 + api.Call, 256 + api.Invoke, 1<<32 + api.Ret, 1000}
	for n := -20; n <= 20; n++ {
		list = append(list, n)
	}
	return list
}

// argLists are Args that are told as they stand: places that aren't there as well, and one as often as it is named.
func argLists() [][]int {
	return [][]int{nil, {}, {0}, {6}, {6, 5}, {5, 6, 7}, {4, 4}, {4, 9, 4}, {8, 7, 6, 5, 4, 3, 2, 1}, {-1}, {-1, 256, math.MaxInt, math.MinInt}, {1, 2, 3, 4, 5, 6, 7, 8, 9}}
}

// pairs are of an A and a B.
func pairs() [][2]int {
	return [][2]int{{0, 0}, {5, 9}, {9, 5}, {7, 7}, {0, 1}, {1, 0}, {-1, 256}, {math.MaxInt, math.MinInt}}
}

func TestAsks(t *testing.T) {
	for _, op := range numbers() {
		for _, p := range pairs() {
			for _, args := range argLists() {
				x := api.Ins{Op: op, Dst: 3, A: p[0], B: p[1], K: 11, F: 12, Args: args}
				if got, want := Asks(x), insNames(x); !slices.Equal(got, want) {
					t.Errorf("%+v asks for %v, not %v", x, got, want)
				}
			}
		}
	}
}

func TestSets(t *testing.T) {
	for _, op := range numbers() {
		for _, dst := range []int{0, 1, 3, 255, 256, -1, math.MaxInt, math.MinInt} {
			x := api.Ins{Op: op, Dst: dst, A: 5, B: 9, K: 11, F: 12, Args: []int{7}}
			want := 0
			if insSets[op] {
				want = dst
			}
			if got, ok := Sets(x); got != want || ok != insSets[op] {
				t.Errorf("%+v sets %d, %v; not %d, %v", x, got, ok, want, insSets[op])
			}
		}
	}
}

func TestEndAsks(t *testing.T) {
	for _, kind := range numbers() {
		for _, p := range pairs() {
			for _, args := range argLists() {
				e := api.End{Kind: kind, A: p[0], Dst: p[1], F: 12, Args: args, To: 13, Else: 14, Pad: 15}
				if got, want := EndAsks(e), endNames(e); !slices.Equal(got, want) {
					t.Errorf("%+v asks for %v, not %v", e, got, want)
				}
			}
		}
	}
}

// The chapter's words, one by one, beside the tables above.
func TestAsksBySomeLines(t *testing.T) {
	for _, c := range []struct {
		line string
		asks []int
		set  int
		sets bool
	}{
		{"const 3 7", nil, 3, true},
		{"copy 3 4", []int{4}, 3, true},
		{"copy 3 3", []int{3}, 3, true},
		{"add 3 4 5", []int{4, 5}, 3, true},
		{"sub 3 5 4", []int{5, 4}, 3, true},
		{"mul 3 4 4", []int{4, 4}, 3, true},
		{"div 3 3 3", []int{3, 3}, 3, true},
		{"eq 0 4 5", []int{4, 5}, 0, true},
		{"lt 3 0 1", []int{0, 1}, 3, true},
		{"load 3 4", []int{4}, 3, true},
		{"store 4 5", []int{4, 5}, 0, false},
		{"store 5 5", []int{5, 5}, 0, false},
		{"call 3 9", nil, 3, true},
		{"call 3 9 5 4 6", []int{5, 4, 6}, 3, true},
		{"call 3 9 4 4", []int{4, 4}, 3, true},
		{"out 4", []int{4}, 0, false},
		{"in 3", nil, 3, true},
	} {
		x := function(t, 0, c.line).Blocks[0].Ins[0]
		if got := Asks(x); !slices.Equal(got, c.asks) {
			t.Errorf("%s asks for %v", c.line, got)
		}
		if got, ok := Sets(x); got != c.set || ok != c.sets {
			t.Errorf("%s sets %d, %v", c.line, got, ok)
		}
	}
	for line, want := range map[string][]int{
		"ret 4": {4}, "jump 4": nil, "branch 4 5 6": {4}, "throw 4": {4}, "resume": nil,
		"invoke 3 9 5 6": nil, "invoke 3 9 5 6 8 7": {8, 7}, "invoke 3 9 5 6 3 3": {3, 3},
	} {
		if got := EndAsks(function(t, 0, line).Blocks[0].End); !slices.Equal(got, want) {
			t.Errorf("%s asks for %v", line, got)
		}
	}
}
