package throws

import (
	"testing"

	"davit/api"
	"davit/kept"
	"davit/made"
	"davit/samples"
	"davit/shape"
)

// says are the calls that say something of a module.
func says() map[string]func(m api.Module) []bool {
	return map[string]func(m api.Module) []bool{"Out": Out, "Tells": Tells, "Writes": Writes}
}

func TestAModuleThatIsHandedInIsNotChanged(t *testing.T) {
	for seed := range uint64(500) {
		for _, m := range []api.Module{made.Module(seed), made.Callers(seed, int(seed%12))} {
			for name, call := range says() {
				if !kept.Module(m, func(m api.Module) { call(m) }) {
					t.Fatalf("%s, seed %d: the module is changed", name, seed)
				}
			}
		}
	}
}

// What is written to an answer, and put behind it, isn't seen in another answer, nor in the module.
func TestAnswersAreNewMemory(t *testing.T) {
	m := samples.Wide()
	was := shape.Copy(m)
	for name, call := range says() {
		for _, written := range []bool{false, true} {
			if !kept.Apart(func() []bool { return call(m) }, written) || !kept.Apart(func() []bool { return call(api.Module{}) }, written) {
				t.Errorf("%s: what is written to one answer stands in another one", name)
			}
		}
		list, want := call(m), three(m)
		for n := range list {
			list[n] = !list[n]
		}
		if got := three(m); got != want {
			t.Errorf("%s: what is written to its answer stands in another call's: %v", name, got)
		}
	}
	if !shape.Same(m, was) {
		t.Error("what is written to an answer stands in the module")
	}
}

// What is written to the module isn't seen in what was answered of it.
func TestWhatIsHandedInIsNotKept(t *testing.T) {
	for name, call := range says() {
		m := samples.Wide()
		answer := call(m)
		was := digits(answer)
		for n := range m.Funcs {
			m.Funcs[n].Blocks = []api.Block{{End: api.End{Kind: api.Ret}}}
		}
		if got := digits(answer); got != was || was != "1010" {
			t.Errorf("%s: %s, which was %s", name, got, was)
		}
		if got := digits(call(m)); got != "0000" {
			t.Errorf("%s: %s of functions that do nothing", name, got)
		}
	}
}

// The answer is the same each time.
func TestTheSameEachTime(t *testing.T) {
	for seed := range uint64(500) {
		m := made.Module(seed)
		want := three(m)
		for range 3 {
			if got := three(m); got != want {
				t.Fatalf("seed %d: %v, which was %v", seed, got, want)
			}
		}
	}
}
