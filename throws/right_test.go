package throws

import (
	"testing"

	"davit/api"
	"davit/made"
	"davit/samples"
	"davit/shape"
)

// counts are of how many functions each call says something.
func counts(m api.Module) [3]int {
	return [3]int{len(Out(m)), len(Tells(m)), len(Writes(m))}
}

func TestSomethingIsSaidOfWhatMayBe(t *testing.T) {
	for name, m := range samples.Right() {
		if got, want := counts(m), len(m.Funcs); got != [3]int{want, want, want} {
			t.Errorf("%s: of %v functions something is said, not of %d", name, got, want)
		}
	}
}

func TestNothingIsSaidOfWhatMayNot(t *testing.T) {
	for name, m := range samples.Wrong() {
		if got := counts(m); got != [3]int{} {
			t.Errorf("%s: something is said of %v functions", name, got)
		}
	}
}

// Something is said just of modules that may be.
func TestWhateverModules(t *testing.T) {
	right, wrong := 0, 0
	try := func(m api.Module) {
		want := 0
		if shape.Right(m) {
			want = len(m.Funcs)
			right++
		} else {
			wrong++
		}
		if got := counts(m); got != [3]int{want, want, want} {
			t.Fatalf("%+v: of %v functions something is said, not of %d", m, got, want)
		}
	}
	for seed := range uint64(1000) {
		try(made.Module(seed))
		try(made.Callers(seed, int(seed%20)))
		try(api.Module{Funcs: []api.Func{made.Func(seed)}})
		try(api.Module{Funcs: []api.Func{made.One(seed, 5, 3), {Params: 1}, {Params: 2}}})
	}
	if right < 1000 || wrong < 1000 {
		t.Errorf("%d may be, %d may not", right, wrong)
	}
}
