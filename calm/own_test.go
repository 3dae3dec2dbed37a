package calm

import (
	"maps"
	"slices"
	"testing"

	"davit/api"
	"davit/kept"
	"davit/made"
	"davit/samples"
	"davit/shape"
)

// several modules: such that may be and such that may not, blocks of which are calmed or stay.
func several() []api.Module {
	list := []api.Module{{}, {Funcs: []api.Func{{}}}, samples.Wide(), samples.Module(invoking + answers)}
	list = append(list, slices.Collect(maps.Values(samples.Right()))...)
	list = append(list, slices.Collect(maps.Values(samples.Wrong()))...)
	for seed := range 500 {
		m := made.Mixed(uint64(seed))
		list = append(list, m, stuffed(shape.Copy(m), seed), made.Callers(uint64(seed), seed%9))
	}
	return list
}

func module(m api.Module) api.Module {
	m, _ = Module(m)
	return m
}

func TestWhatIsHandedInIsNotChanged(t *testing.T) {
	for n, m := range several() {
		if !kept.Module(m, func(m api.Module) { Module(m) }) || !kept.Module(m, func(m api.Module) { Many(m) }) {
			t.Fatalf("module %d: it is changed", n)
		}
	}
}

func TestAnswersAreNewMemory(t *testing.T) {
	for n, m := range several() {
		if !kept.New(m, module) {
			t.Fatalf("module %d: the answer shares memory", n)
		}
	}
}

// The answer is the same each time.
func TestTheSameEachTime(t *testing.T) {
	for n, m := range several() {
		want, many := module(m), Many(m)
		for range 3 {
			if got := module(m); !shape.Same(got, want) || Many(m) != many {
				t.Fatalf("module %d: %+v, which was %+v; %d invokes, which were %d", n, got, want, Many(m), many)
			}
		}
	}
}
