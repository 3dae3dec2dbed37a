package made

import (
	"reflect"
	"slices"
	"testing"

	"davit/api"
)

func TestOf(t *testing.T) {
	f := Landing(Of(Jump(2), Branch(1, 3), Invoke(2, 3), api.End{Kind: api.Ret}), 1, 3)
	all := api.Pad{All: true}
	want := api.Func{Regs: 1, Blocks: []api.Block{
		{End: api.End{Kind: api.Jump, To: 2}},
		{Landing: true, Pad: all, End: api.End{Kind: api.Branch, To: 1, Else: 3}},
		{End: api.End{Kind: api.Invoke, To: 2, Pad: 3}},
		{Landing: true, Pad: all, End: api.End{Kind: api.Ret}},
	}}
	if !reflect.DeepEqual(f, want) {
		t.Errorf("%+v", f)
	}
	if got := Of(); len(got.Blocks) != 0 {
		t.Errorf("%+v", got)
	}
}

func TestEnds(t *testing.T) {
	const count = 3
	ends := Ends(count)
	if want := 1 + 2 + 3*count + 2*count*count; len(ends) != want {
		t.Errorf("%d ends, not %d", len(ends), want)
	}
	has := func(end api.End) bool {
		return slices.ContainsFunc(ends, func(e api.End) bool { return reflect.DeepEqual(e, end) })
	}
	if !has(api.End{Kind: api.Ret}) || !has(Jump(count)) || !has(Branch(-1, count)) {
		t.Error("not all that lead nowhere, or to what isn't there")
	}
	for to := range count {
		if !has(Jump(to)) || !has(Branch(to, -1)) || !has(Invoke(count, to)) {
			t.Errorf("not all that lead to %d alone", to)
		}
		for other := range count {
			if !has(Branch(to, other)) || !has(Invoke(to, other)) {
				t.Errorf("not all that lead to %d and %d", to, other)
			}
		}
	}
}
