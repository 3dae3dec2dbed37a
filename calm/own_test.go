package calm

import (
	"testing"

	"davit/api"
	"davit/kept"
	"davit/made"
	"davit/passes"
	"davit/samples"
	"davit/shape"
)

// several modules: such that may be and such that may not, blocks of which are calmed or stay.
func several() []api.Module {
	list := []api.Module{{Funcs: []api.Func{{}}}, samples.Module(invoking + answers)}
	for seed := range 500 {
		m := made.Mixed(uint64(seed))
		list = append(list, m, made.Stuffed(shape.Copy(m), seed), made.Callers(uint64(seed), seed%9))
	}
	return list
}

func TestWhateverIsHandedIn(t *testing.T) {
	for _, fault := range passes.Faults(Module, several()) {
		t.Error(fault)
	}
}

// Many changes nothing, and is the same each time.
func TestManyChangesNothing(t *testing.T) {
	for n, m := range several() {
		want := Many(m)
		if got := 0; !kept.Module(m, func(m api.Module) { got = Many(m) }) || got != want {
			t.Fatalf("module %d: it is changed, or %d, which were %d", n, got, want)
		}
	}
}
