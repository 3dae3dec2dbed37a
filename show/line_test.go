package show

import (
	"fmt"
	"math"
	"slices"
	"strings"
	"testing"

	"davit/api"
)

// insWords has the word of each Op, and the fields behind it.
var insWords = map[int]string{
	api.Const: "const Dst K", api.Copy: "copy Dst A",
	api.Add: "add Dst A B", api.Sub: "sub Dst A B", api.Mul: "mul Dst A B",
	api.Div: "div Dst A B", api.Eq: "eq Dst A B", api.Lt: "lt Dst A B",
	api.Load: "load Dst A", api.Store: "store A B",
	api.Call: "call Dst F Args", api.Out: "out A", api.In: "in Dst",
}

// endWords likewise, of each Kind.
var endWords = map[int]string{
	api.Ret: "ret A", api.Jump: "jump To", api.Branch: "branch A To Else",
	api.Invoke: "invoke Dst F To Pad Args", api.Throw: "throw A", api.Resume: "resume",
}

// tell makes a line by a pattern of insWords or endWords; a field that stands in no pattern is not told.
func tell(pattern string, fields map[string]int, args []int) string {
	var words []string
	for i, name := range strings.Fields(pattern) {
		switch {
		case i == 0:
			words = append(words, name)
		case name == "Args":
			for _, n := range args {
				words = append(words, fmt.Sprint(n))
			}
		default:
			words = append(words, fmt.Sprint(fields[name]))
		}
	}
	return strings.Join(words, " ")
}

func insLine(x api.Ins) string {
	return tell(insWords[x.Op], map[string]int{"Dst": x.Dst, "A": x.A, "B": x.B, "K": int(x.K), "F": x.F}, x.Args)
}

func endLine(x api.End) string {
	return tell(endWords[x.Kind], map[string]int{"A": x.A, "Dst": x.Dst, "F": x.F, "To": x.To, "Else": x.Else, "Pad": x.Pad}, x.Args)
}

func TestInsOfEachOp(t *testing.T) {
	for _, c := range []struct {
		x    api.Ins
		want string
	}{
		{api.Ins{Op: api.Const, Dst: 1, K: 65535}, "const 1 65535"},
		{api.Ins{Op: api.Const}, "const 0 0"},
		{api.Ins{Op: api.Copy, Dst: 1, A: 2}, "copy 1 2"},
		{api.Ins{Op: api.Add, Dst: 1, A: 2, B: 3}, "add 1 2 3"},
		{api.Ins{Op: api.Sub, Dst: 1, A: 2, B: 3}, "sub 1 2 3"},
		{api.Ins{Op: api.Mul, Dst: 1, A: 2, B: 3}, "mul 1 2 3"},
		{api.Ins{Op: api.Div, Dst: 1, A: 2, B: 3}, "div 1 2 3"},
		{api.Ins{Op: api.Eq, Dst: 1, A: 2, B: 3}, "eq 1 2 3"},
		{api.Ins{Op: api.Lt, Dst: 1, A: 2, B: 3}, "lt 1 2 3"},
		{api.Ins{Op: api.Load, Dst: 1, A: 2}, "load 1 2"},
		{api.Ins{Op: api.Store, A: 2, B: 3}, "store 2 3"},
		{api.Ins{Op: api.Call, Dst: 1, F: 4}, "call 1 4"},
		{api.Ins{Op: api.Call, Dst: 1, F: 4, Args: []int{}}, "call 1 4"},
		{api.Ins{Op: api.Call, Dst: 1, F: 4, Args: []int{7}}, "call 1 4 7"},
		{api.Ins{Op: api.Call, Dst: 1, F: 4, Args: []int{7, 5, 6}}, "call 1 4 7 5 6"},
		{api.Ins{Op: api.Call, Dst: 255, F: 15, Args: []int{0, 1, 2, 3, 4, 5, 6, 255}}, "call 255 15 0 1 2 3 4 5 6 255"},
		{api.Ins{Op: api.Out, A: 2}, "out 2"},
		{api.Ins{Op: api.In, Dst: 1}, "in 1"},
	} {
		if got := Ins(c.x); got != c.want {
			t.Errorf("%+v is told as %q, not %q", c.x, got, c.want)
		}
	}
}

func TestEndOfEachKind(t *testing.T) {
	for _, c := range []struct {
		x    api.End
		want string
	}{
		{api.End{Kind: api.Ret, A: 1}, "ret 1"},
		{api.End{Kind: api.Ret}, "ret 0"},
		{api.End{Kind: api.Jump, To: 2}, "jump 2"},
		{api.End{Kind: api.Branch, A: 1, To: 2, Else: 3}, "branch 1 2 3"},
		{api.End{Kind: api.Invoke, Dst: 4, F: 5, To: 2, Pad: 6}, "invoke 4 5 2 6"},
		{api.End{Kind: api.Invoke, Dst: 4, F: 5, To: 2, Pad: 6, Args: []int{}}, "invoke 4 5 2 6"},
		{api.End{Kind: api.Invoke, Dst: 4, F: 5, To: 2, Pad: 6, Args: []int{9}}, "invoke 4 5 2 6 9"},
		{api.End{Kind: api.Invoke, Dst: 4, F: 5, To: 2, Pad: 6, Args: []int{9, 7, 8}}, "invoke 4 5 2 6 9 7 8"},
		{api.End{Kind: api.Throw, A: 1}, "throw 1"},
		{api.End{Kind: api.Resume}, "resume"},
	} {
		if got := End(c.x); got != c.want {
			t.Errorf("%+v is told as %q, not %q", c.x, got, c.want)
		}
	}
}

func TestPad(t *testing.T) {
	for _, c := range []struct {
		catch []uint16
		want  string
	}{
		{nil, ""},
		{[]uint16{}, ""},
		{[]uint16{0}, " catch 0"},
		{[]uint16{65535, 7}, " catch 65535 7"},
		{[]uint16{8, 7, 6, 5, 4, 3, 2, 10}, " catch 8 7 6 5 4 3 2 10"},
	} {
		for dst, place := range map[int]string{0: "0", 255: "255", -3: "-3", math.MinInt: "-9223372036854775808"} {
			for _, f := range []struct {
				all, cleanup bool
				want         string
			}{{false, false, ""}, {true, false, " all"}, {false, true, " cleanup"}, {true, true, " all cleanup"}} {
				p := api.Pad{Dst: dst, Catch: c.catch, All: f.all, Cleanup: f.cleanup}
				if got, want := Pad(p), "pad "+place+c.want+f.want; got != want {
					t.Errorf("%+v is told as %q, not %q", p, got, want)
				}
			}
		}
	}
}

// What an Op or a Kind doesn't use is not told, even where it isn't nought.
func TestWhatIsNotUsedIsNotTold(t *testing.T) {
	for op := api.Const; op <= api.In; op++ {
		x := api.Ins{Op: op, Dst: 21, A: 22, B: 23, K: 24, F: 25, Args: []int{26, 27}}
		if got, want := Ins(x), insLine(x); got != want {
			t.Errorf("%+v is told as %q, not %q", x, got, want)
		}
	}
	for kind := api.Ret; kind <= api.Resume; kind++ {
		x := api.End{Kind: kind, A: 21, Dst: 22, F: 23, Args: []int{24, 25}, To: 26, Else: 27, Pad: 28}
		if got, want := End(x), endLine(x); got != want {
			t.Errorf("%+v is told as %q, not %q", x, got, want)
		}
	}
}

// farNumbers are of every length and sign, and at the edges of narrower kinds of integers.
var farNumbers = []int{
	-1, -9, -10, -255, 9, 10, 99, 100, 255, 256, 1000, 10000, 65535, 65536, 70000,
	1<<31 - 1, 1 << 31, 1 << 32, -1 << 31, -1<<31 - 1, math.MaxInt, math.MaxInt - 1, math.MinInt, math.MinInt + 1,
}

func TestNumbersAreToldWhole(t *testing.T) {
	for _, n := range farNumbers {
		for op := api.Const; op <= api.In; op++ {
			for i, x := range []api.Ins{
				{Op: op, Dst: n}, {Op: op, A: n}, {Op: op, B: n}, {Op: op, F: n}, {Op: op, K: uint16(n)},
				{Op: op, Args: []int{n}}, {Op: op, Args: []int{n, 1, n}},
			} {
				if got, want := Ins(x), insLine(x); got != want {
					t.Errorf("%d: %+v is told as %q, not %q", i, x, got, want)
				}
			}
		}
		for kind := api.Ret; kind <= api.Resume; kind++ {
			for i, x := range []api.End{
				{Kind: kind, A: n}, {Kind: kind, Dst: n}, {Kind: kind, F: n}, {Kind: kind, To: n}, {Kind: kind, Else: n},
				{Kind: kind, Pad: n}, {Kind: kind, Args: []int{n}}, {Kind: kind, Args: []int{n, 1, n}},
			} {
				if got, want := End(x), endLine(x); got != want {
					t.Errorf("%d: %+v is told as %q, not %q", i, x, got, want)
				}
			}
		}
	}
}

func TestTheSmallestNumber(t *testing.T) {
	const least = "-9223372036854775808"
	for _, c := range []struct{ got, want string }{
		{Ins(api.Ins{Op: api.Const, Dst: math.MinInt, K: 1}), "const " + least + " 1"},
		{Ins(api.Ins{Op: api.Store, A: math.MinInt, B: math.MinInt}), "store " + least + " " + least},
		{Ins(api.Ins{Op: api.Call, F: math.MinInt, Args: []int{math.MinInt, -1}}), "call 0 " + least + " " + least + " -1"},
		{End(api.End{Kind: api.Jump, To: math.MinInt}), "jump " + least},
		{End(api.End{Kind: api.Invoke, Pad: math.MinInt, Args: []int{-1}}), "invoke 0 0 0 " + least + " -1"},
	} {
		if c.got != c.want {
			t.Errorf("%q, not %q", c.got, c.want)
		}
	}
}

func TestNoOpAndNoKindAreEmpty(t *testing.T) {
	check := func(n int) {
		x := api.Ins{Op: n, Dst: 1, A: 2, B: 3, K: 4, F: 5, Args: []int{6}}
		if got, is := Ins(x), n >= api.Const && n <= api.In; (got != "") != is {
			t.Errorf("Op %d is told as %q", n, got)
		}
		y := api.End{Kind: n, A: 1, Dst: 2, F: 3, Args: []int{4}, To: 5, Else: 6, Pad: 7}
		if got, is := End(y), n >= api.Ret && n <= api.Resume; (got != "") != is {
			t.Errorf("Kind %d is told as %q", n, got)
		}
	}
	for n := -300; n <= 300; n++ {
		check(n)
	}
	for _, n := range []int{
		65536 + api.Add, 1<<32 + api.Ret, math.MaxInt, math.MinInt, math.MinInt + api.Jump,
	} {
		check(n)
	}
	if Ins(api.Ins{}) != "" || End(api.End{}) != "" {
		t.Error("nought is told")
	}
}

// More Args and Catch than may be are told nonetheless.
func TestListsOfAnyLength(t *testing.T) {
	for _, count := range []int{api.MaxArgs, api.MaxArgs + 1, 1000, 100000} {
		args, catch := make([]int, count), make([]uint16, count)
		for i := range count {
			args[i], catch[i] = -i, uint16(i)
		}
		if x := (api.Ins{Op: api.Call, Args: args}); Ins(x) != insLine(x) {
			t.Errorf("a call with %d Args", count)
		}
		if x := (api.End{Kind: api.Invoke, Args: args}); End(x) != endLine(x) {
			t.Errorf("an invoke with %d Args", count)
		}
		want := "pad 0 catch " + strings.Trim(fmt.Sprint(catch), "[]") + " all"
		if Pad(api.Pad{Catch: catch, All: true}) != want {
			t.Errorf("a pad with %d numbers", count)
		}
	}
}

func TestLinesChangeNothing(t *testing.T) {
	room := []int{1, 2, 3, 4, 5, 6, 7, 8}
	words := []uint16{1, 2, 3, 4, 5, 6, 7, 8}
	for length := range room {
		Ins(api.Ins{Op: api.Call, Dst: 90, F: 91, Args: room[:length]})
		End(api.End{Kind: api.Invoke, Dst: 92, F: 93, To: 94, Pad: 95, Args: room[:length]})
		Pad(api.Pad{Dst: 96, Catch: words[:length], All: true, Cleanup: true})
	}
	if !slices.Equal(room, []int{1, 2, 3, 4, 5, 6, 7, 8}) || !slices.Equal(words, []uint16{1, 2, 3, 4, 5, 6, 7, 8}) {
		t.Errorf("changed to %v, %v", room, words)
	}
}
