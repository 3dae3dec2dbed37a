package made

import (
	"reflect"
	"testing"

	"davit/api"
	"davit/shape"
)

func TestModulesMayBe(t *testing.T) {
	var ops [api.In + 1]int
	var kinds [api.Resume + 1]int
	for seed := range uint64(2000) {
		m := Module(seed)
		if !shape.Right(m) {
			t.Fatalf("seed %d: %+v may not be", seed, m)
		}
		if !reflect.DeepEqual(m, Module(seed)) {
			t.Fatalf("seed %d: not the same each time", seed)
		}
		for _, f := range m.Funcs {
			for _, b := range f.Blocks {
				kinds[b.End.Kind]++
				for _, x := range b.Ins {
					ops[x.Op]++
				}
			}
		}
	}
	for op := api.Const; op <= api.In; op++ {
		if ops[op] < 100 {
			t.Errorf("%d instructions of Op %d", ops[op], op)
		}
	}
	for kind := api.Ret; kind <= api.Resume; kind++ {
		if kinds[kind] < 100 {
			t.Errorf("%d ends of Kind %d", kinds[kind], kind)
		}
	}
}

func TestFuncsOfWhateverBlocks(t *testing.T) {
	var counts [9]int
	var kinds [8]int
	landing, below, beyond := 0, 0, 0
	for seed := range uint64(2000) {
		f := Func(seed)
		if !reflect.DeepEqual(f, Func(seed)) {
			t.Fatalf("seed %d: not the same each time", seed)
		}
		counts[len(f.Blocks)]++
		for _, b := range f.Blocks {
			kinds[b.End.Kind]++
			if b.Landing {
				landing++
			}
			if b.End.To == -1 {
				below++
			}
			if b.End.Pad == len(f.Blocks) {
				beyond++
			}
		}
	}
	for n, count := range counts {
		if count < 100 {
			t.Errorf("%d of %d blocks", count, n)
		}
	}
	for kind, count := range kinds {
		if count < 100 {
			t.Errorf("%d ends of Kind %d", count, kind)
		}
	}
	if landing < 100 || below < 100 || beyond < 100 {
		t.Errorf("%d Landing, %d goals below 0, %d pads beyond", landing, below, beyond)
	}
}
