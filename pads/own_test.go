package pads

import (
	"testing"

	"davit/api"
	"davit/kept"
	"davit/made"
	"davit/passes"
	"davit/samples"
)

// several modules: such that may be and such that may not, pads of which are trimmed or stay.
func several() []api.Module {
	list := []api.Module{{Funcs: []api.Func{{}}}, samples.Module(invoking + answers)}
	for seed := range 700 {
		list = append(list, padded(seed), made.Module(uint64(seed)), made.Callers(uint64(seed), seed%9))
	}
	return list
}

func TestWhateverIsHandedIn(t *testing.T) {
	for _, fault := range passes.Faults(Module, several()) {
		t.Error(fault)
	}
}

// By hand, pad by pad, it isn't changed either.
func TestPadsAreNotChanged(t *testing.T) {
	for n, m := range several() {
		if !kept.Module(m, padByPad) {
			t.Fatalf("module %d: it is changed", n)
		}
	}
}

// padByPad does by hand what Module does.
func padByPad(m api.Module) {
	for _, f := range m.Funcs {
		for _, b := range f.Blocks {
			_ = append(Trim(b.Pad).Catch, 9)
			Nothing(b)
		}
	}
}
