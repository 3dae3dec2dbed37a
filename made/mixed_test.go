package made

import (
	"reflect"
	"testing"

	"davit/api"
	"davit/shape"
)

func TestStuffed(t *testing.T) {
	var counts [api.MaxIns + 1]int
	for seed := range 500 {
		m, was := Stuffed(Mixed(uint64(seed)), seed), Mixed(uint64(seed))
		if !shape.Right(m) || !reflect.DeepEqual(m, Stuffed(was, seed)) {
			t.Fatalf("seed %d: %+v may not be, or isn't the same each time", seed, m)
		}
		was = Mixed(uint64(seed))
		for n, f := range m.Funcs {
			for i, b := range f.Blocks {
				counts[len(b.Ins)]++
				old := was.Funcs[n].Blocks[i].Ins
				if at := len(b.Ins) - len(old); at < 0 || len(old) > 0 && !reflect.DeepEqual(b.Ins[at:], old) {
					t.Fatalf("seed %d: %+v, not at the end of %+v", seed, old, b.Ins)
				}
			}
		}
	}
	for _, count := range []int{0, 1, api.MaxIns - 2, api.MaxIns - 1, api.MaxIns} {
		if counts[count] < 100 {
			t.Errorf("%d blocks of %d instructions", counts[count], count)
		}
	}
}

func TestPadded(t *testing.T) {
	var nothing, told, catches, all int
	for seed := range 500 {
		m, was := Padded(Mixed(uint64(seed)), seed), Mixed(uint64(seed))
		if !shape.Right(m) || !reflect.DeepEqual(m, Padded(was, seed)) {
			t.Fatalf("seed %d: %+v may not be, or isn't the same each time", seed, m)
		}
		was = Mixed(uint64(seed))
		for n, f := range m.Funcs {
			for i, b := range f.Blocks {
				old := was.Funcs[n].Blocks[i]
				switch {
				case !b.Landing:
					if !reflect.DeepEqual(b, old) {
						t.Fatalf("seed %d: %+v, was %+v", seed, b, old)
					}
				case b.Pad.Dst != old.Pad.Dst:
					t.Fatalf("seed %d: %+v, was %+v", seed, b, old)
				case b.Pad.All && len(b.Pad.Catch) > 0 && b.Pad.Cleanup:
					all++
				case b.End.Kind == api.Resume && len(b.Ins) > 0:
					told++
				case b.End.Kind == api.Resume && len(b.Pad.Catch) > 0:
					catches++
				case b.End.Kind == api.Resume:
					nothing++
				}
			}
		}
	}
	if min(nothing, told, catches, all) < 150 {
		t.Errorf("%d do nothing, %d something, %d catch; %d have All, and more", nothing, told, catches, all)
	}
}
