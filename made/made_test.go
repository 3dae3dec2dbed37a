package made

import (
	"reflect"
	"slices"
	"testing"

	"davit/api"
	"davit/shape"
)

func TestModulesMayBe(t *testing.T) {
	var ops [api.In + 1]int
	var kinds [api.Resume + 1]int
	for seed := range uint64(2000) {
		m := Module(seed)
		if !shape.Right(m) {
			t.Fatalf("seed %d: %+v may not be", seed, m)
		}
		if !reflect.DeepEqual(m, Module(seed)) {
			t.Fatalf("seed %d: not the same each time", seed)
		}
		for _, f := range m.Funcs {
			for _, b := range f.Blocks {
				kinds[b.End.Kind]++
				for _, x := range b.Ins {
					ops[x.Op]++
				}
			}
		}
	}
	for op := api.Const; op <= api.In; op++ {
		if ops[op] < 100 {
			t.Errorf("%d instructions of Op %d", ops[op], op)
		}
	}
	for kind := api.Ret; kind <= api.Resume; kind++ {
		if kinds[kind] < 100 {
			t.Errorf("%d ends of Kind %d", kinds[kind], kind)
		}
	}
}

func TestOnes(t *testing.T) {
	var kinds [api.Resume + 1]int
	callees := api.Module{Funcs: []api.Func{{}, {Params: 1}, {Params: 2}}}
	for seed := range uint64(200) {
		blocks, regs := 1+int(seed)%api.MaxBlocks, 1+int(7*seed)%api.MaxRegs
		f := One(seed, blocks, regs)
		if !shape.Func(callees, f) || len(f.Blocks) != blocks || f.Regs != regs {
			t.Fatalf("seed %d: %d blocks, %d places: %+v", seed, blocks, regs, f)
		}
		if !reflect.DeepEqual(f, One(seed, blocks, regs)) {
			t.Fatalf("seed %d: not the same each time", seed)
		}
		for _, b := range f.Blocks {
			kinds[b.End.Kind]++
		}
	}
	if slices.Min(kinds[api.Ret:]) < 100 {
		t.Errorf("kinds %v", kinds)
	}
}

func TestFuncsOfWhateverBlocks(t *testing.T) {
	var counts [9]int
	var kinds [8]int
	landing, below, beyond := 0, 0, 0
	for seed := range uint64(2000) {
		f := Func(seed)
		if !reflect.DeepEqual(f, Func(seed)) {
			t.Fatalf("seed %d: not the same each time", seed)
		}
		counts[len(f.Blocks)]++
		for _, b := range f.Blocks {
			kinds[b.End.Kind]++
			if b.Landing {
				landing++
			}
			if b.End.To == -1 {
				below++
			}
			if b.End.Pad == len(f.Blocks) {
				beyond++
			}
		}
	}
	for n, count := range counts {
		if count < 100 {
			t.Errorf("%d of %d blocks", count, n)
		}
	}
	for kind, count := range kinds {
		if count < 100 {
			t.Errorf("%d ends of Kind %d", count, kind)
		}
	}
	if landing < 100 || below < 100 || beyond < 100 {
		t.Errorf("%d Landing, %d goals below 0, %d pads beyond", landing, below, beyond)
	}
}

func TestWebs(t *testing.T) {
	var kinds [8]int
	itself, on, back, ahead := 0, 0, 0, 0
	for seed := range uint64(2000) {
		count := int(seed % 20)
		f := Web(seed, count)
		if !reflect.DeepEqual(f, Web(seed, count)) {
			t.Fatalf("seed %d: not the same each time", seed)
		}
		if len(f.Blocks) != count {
			t.Fatalf("seed %d: %d blocks, not %d", seed, len(f.Blocks), count)
		}
		for n, b := range f.Blocks {
			kinds[b.End.Kind]++
			for _, goal := range append(shape.Goals(b), b.End.Pad) {
				switch {
				case goal < 0 || goal >= count:
					t.Fatalf("seed %d: block %d leads to %d, of %d", seed, n, goal, count)
				case goal == n:
					itself++
				case goal == n+1:
					on++
				case goal < n:
					back++
				default:
					ahead++
				}
			}
		}
	}
	if slices.Min(kinds[api.Ret:api.Invoke+1]) < 1000 || min(itself, on, back, ahead) < 1000 {
		t.Errorf("kinds %v; goals: %d itself, %d one on, %d back, %d further ahead", kinds, itself, on, back, ahead)
	}
}
