package made

import (
	"reflect"
	"testing"

	"davit/api"
	"davit/shape"
)

func TestDoing(t *testing.T) {
	for bits := range 8 {
		f := Doing(bit(bits, 0), bit(bits, 1), bit(bits, 2))
		b := f.Blocks[0]
		told, written := 0, 0
		for _, x := range b.Ins {
			if x.Op == api.In {
				told++
			}
			if x.Op == api.Store {
				written++
			}
		}
		if len(f.Blocks) != 1 || (b.End.Kind == api.Throw) != bit(bits, 0) || told != bits>>1&1 || written != bits>>2 || told+written != len(b.Ins) {
			t.Errorf("%d: %+v", bits, f)
		}
		if !shape.Right(api.Module{Funcs: []api.Func{f}}) {
			t.Errorf("%d: %+v may not be", bits, f)
		}
	}
}

func TestAddCall(t *testing.T) {
	for how, want := range []struct {
		calls int
		end   int
		all   bool
	}{
		NoCall:   {0, api.Ret, false},
		ByCall:   {1, api.Ret, false},
		ByInvoke: {1, api.Invoke, false},
		ByAll:    {1, api.Invoke, true},
	} {
		m := api.Module{Funcs: []api.Func{Doing(false, false, false), Doing(true, true, true)}}
		for n := range m.Funcs {
			f := Doing(false, false, false)
			AddCall(&f, n, how)
			m.Funcs[0] = f
			if !shape.Right(m) {
				t.Errorf("%d: %+v may not be", how, m)
			}
			list := called(f)
			if len(list) != want.calls || len(list) == 1 && list[0] != n {
				t.Errorf("%d: function %d is called, but %v are", how, n, list)
			}
			if want.calls == 1 && f.Blocks[1].End.Kind != want.end || want.end == api.Invoke && f.Blocks[2].Pad.All != want.all {
				t.Errorf("%d: %+v", how, f)
			}
		}
	}
}

func TestDoers(t *testing.T) {
	hows := []int{NoCall, ByCall, ByInvoke, ByAll}
	for count, want := range []int{1, 4 * 2, 256 * 4} {
		var met []api.Module
		for m := range Doers(count, hows) {
			if count > 0 && !shape.Right(m) {
				t.Fatalf("%+v may not be", m)
			}
			for _, k := range met {
				if reflect.DeepEqual(k, m) {
					t.Fatalf("%+v: twice", m)
				}
			}
			met = append(met, m)
		}
		if len(met) != want {
			t.Errorf("%d modules of %d functions, not %d", len(met), count, want)
		}
	}
	for range Doers(2, hows) {
		break
	}
}

func TestMixed(t *testing.T) {
	quiet, throws, tells, writes := 0, 0, 0, 0
	for seed := range uint64(500) {
		m := Mixed(seed)
		if !shape.Right(m) || !reflect.DeepEqual(m, Mixed(seed)) {
			t.Fatalf("seed %d: %+v may not be, or isn't the same each time", seed, m)
		}
		for _, f := range m.Funcs {
			before := throws + tells + writes
			for _, b := range f.Blocks {
				if b.End.Kind == api.Throw || b.End.Kind == api.Resume {
					throws++
				}
				for _, x := range b.Ins {
					switch x.Op {
					case api.Out, api.In:
						tells++
					case api.Store:
						writes++
					}
				}
			}
			if throws+tells+writes == before {
				quiet++
			}
		}
	}
	if min(quiet, throws, tells, writes) < 100 {
		t.Errorf("%d functions do nothing; %d throw, %d tell, %d write", quiet, throws, tells, writes)
	}
}
