package made

import (
	"reflect"
	"slices"
	"strconv"
	"testing"

	"davit/api"
)

func TestOf(t *testing.T) {
	f := Landing(Of(Jump(2), Branch(1, 3), Invoke(2, 3), api.End{Kind: api.Ret}), 1, 3)
	all := api.Pad{All: true}
	want := api.Func{Regs: 1, Blocks: []api.Block{
		{End: api.End{Kind: api.Jump, To: 2}},
		{Landing: true, Pad: all, End: api.End{Kind: api.Branch, To: 1, Else: 3}},
		{End: api.End{Kind: api.Invoke, To: 2, Pad: 3}},
		{Landing: true, Pad: all, End: api.End{Kind: api.Ret}},
	}}
	if !reflect.DeepEqual(f, want) {
		t.Errorf("%+v", f)
	}
	if got := Of(); len(got.Blocks) != 0 {
		t.Errorf("%+v", got)
	}
}

func TestEnds(t *testing.T) {
	const count = 3
	ends := Ends(count)
	if want := 1 + 2 + 3*count + 2*count*count; len(ends) != want {
		t.Errorf("%d ends, not %d", len(ends), want)
	}
	has := func(end api.End) bool {
		return slices.ContainsFunc(ends, func(e api.End) bool { return reflect.DeepEqual(e, end) })
	}
	if !has(api.End{Kind: api.Ret}) || !has(Jump(count)) || !has(Branch(-1, count)) {
		t.Error("not all that lead nowhere, or to what isn't there")
	}
	for to := range count {
		if !has(Jump(to)) || !has(Branch(to, -1)) || !has(Invoke(count, to)) {
			t.Errorf("not all that lead to %d alone", to)
		}
		for other := range count {
			if !has(Branch(to, other)) || !has(Invoke(to, other)) {
				t.Errorf("not all that lead to %d and %d", to, other)
			}
		}
	}
}

// told of a function is how its blocks end: no two functions of different ends have the same.
func told(f api.Func) string {
	text := ""
	for _, b := range f.Blocks {
		for _, n := range []int{b.End.Kind, b.End.To, b.End.Else, b.End.Pad} {
			text += strconv.Itoa(n) + " "
		}
	}
	return text
}

func TestWays(t *testing.T) {
	for count := range 5 {
		pairs := map[[2]int]int{}
		for _, end := range Ways(count) {
			if end.Kind == api.Branch {
				pairs[[2]int{end.To, end.Else}]++
			}
		}
		for to := range count {
			for other := range to + 1 {
				if pairs[[2]int{to, other}] != 1 {
					t.Errorf("%d blocks: %d ways to %d and %d", count, pairs[[2]int{to, other}], to, other)
				}
			}
		}
		if ways, want := Ways(count), 1+count*(count+1)/2; len(ways) != want || ways[0].Kind != api.Ret {
			t.Errorf("%d blocks: %+v", count, ways)
		}
	}
}

func TestEvery(t *testing.T) {
	ends := Ways(2)
	for count, want := range []int{1, 4, 16, 64, 256} {
		met := map[string]int{}
		for f := range Every(count, ends) {
			met[told(f)]++
			if len(f.Blocks) != count {
				t.Errorf("%d blocks, not %d", len(f.Blocks), count)
			}
		}
		if len(met) != want {
			t.Errorf("%d functions of %d blocks, not %d", len(met), count, want)
		}
	}
	for range Every(3, ends) {
		break
	}
	for f := range Every(2, nil) {
		t.Errorf("%+v of no end", f)
	}
}

func TestRow(t *testing.T) {
	f := Row(4, func(n int) api.End { return Branch(n+1, n) })
	want := Of(Branch(1, 0), Branch(2, 1), Branch(3, 2), api.End{Kind: api.Ret})
	if !reflect.DeepEqual(f, want) {
		t.Errorf("%+v", f)
	}
}

func TestNotThere(t *testing.T) {
	for count := range 70 {
		f := Of(make([]api.End, count)...)
		below, beyond, just := 0, 0, false
		for _, n := range NotThere(f) {
			switch {
			case n < 0:
				below++
			case n >= count:
				beyond++
				just = just || n == count
			default:
				t.Errorf("%d is one of %d", n, count)
			}
		}
		if below < 5 || beyond < 5 || !just {
			t.Errorf("of %d blocks: %d below 0, %d beyond, just beyond %v", count, below, beyond, just)
		}
	}
}
