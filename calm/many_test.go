package calm

import (
	"math"
	"slices"
	"testing"

	"davit/api"
	"davit/made"
	"davit/samples"
	"davit/shape"
)

func TestMany(t *testing.T) {
	for name, c := range map[string]struct {
		text string
		want int
	}{
		"none":                     {"func 0 1 / block / ret 0", 0},
		"the chapter's example":    {invoking + answers, 1},
		"one that throws":          {invoking + throwsA, 1},
		"a Call":                   {calling + answers, 0},
		"behind a Call":            {"func 0 1 / block / call 0 1 / invoke 0 1 0 1 / pad 0 all / ret 0" + answers, 1},
		"each of a function":       {"func 0 1 / block / invoke 0 1 1 3 / block / invoke 0 1 2 3 / block / ret 0 / pad 0 all / ret 0" + answers, 2},
		"each function's":          {"func 0 1 / block / invoke 0 1 0 1 / pad 0 all / ret 0 / func 0 1 / block / invoke 0 0 0 1 / pad 0 all / ret 0", 2},
		"in a Landing block":       {"func 0 1 / block / ret 0 / pad 0 all / invoke 0 0 0 1", 1},
		"where nobody comes to":    {"func 0 1 / block / ret 0 / block / invoke 0 0 0 2 / pad 0 all / ret 0", 1},
		"in one that nobody calls": {answers[3:] + " / func 0 1 / block / invoke 0 0 0 1 / pad 0 all / ret 0", 1},
		"other ends":               {"func 0 1 / block / branch 0 1 2 / block / jump 2 / block / throw 0 / pad 0 all / resume", 0},
	} {
		if got := Many(samples.Module(c.text)); got != c.want {
			t.Errorf("%s: %d, not %d", name, got, c.want)
		}
	}
	if got := Many(samples.Wide()); got != 3 {
		t.Errorf("%d in the wide one", got)
	}
}

// Modules that may not be are counted, too.
func TestManyOfAnyModule(t *testing.T) {
	for name, m := range samples.Wrong() {
		if got, want := Many(m), manyOneByOne(t, m); got != want {
			t.Errorf("%s: %d, not %d", name, got, want)
		}
	}
	for kind := -20; kind <= 20; kind++ {
		want := 0
		if kind == api.Invoke {
			want = 1
		}
		for _, n := range []int{0, 1, -1, 99, math.MaxInt, math.MinInt} {
			end := api.End{Kind: kind, A: n, Dst: n, F: n, Args: []int{n}, To: n, Else: n, Pad: n}
			ins := []api.Ins{{Op: api.Call, F: n}, {Op: api.Invoke}, {Op: kind}}
			f := api.Func{Params: n, Regs: n, Blocks: []api.Block{{Ins: ins, Landing: n == 1, End: end}}}
			if got := Many(api.Module{Funcs: []api.Func{{}, f}}); got != want {
				t.Errorf("Kind %d, %d: %d", kind, n, got)
			}
		}
	}
	for _, kind := range []int{math.MinInt, math.MaxInt, api.Invoke + 1<<8, api.Invoke + 1<<16, api.Invoke + 1<<32, -api.Invoke} {
		if got := Many(api.Module{Funcs: []api.Func{made.Of(api.End{Kind: kind})}}); got != 0 {
			t.Errorf("Kind %d: %d", kind, got)
		}
	}
	for _, m := range []api.Module{{}, {Funcs: []api.Func{}}, {Funcs: make([]api.Func, 9)}} {
		if got := Many(m); got != 0 {
			t.Errorf("%+v: %d", m, got)
		}
	}
}

// manyOneByOne is how many Invokes are, by what they are fewer when an end is none.
func manyOneByOne(t *testing.T, m api.Module) int {
	t.Helper()
	m = shape.Copy(m)
	count, ahead := 0, Many(m)
	for _, f := range m.Funcs {
		if len(f.Blocks) > 1000 {
			f.Blocks = f.Blocks[:1000:1000]
		}
		for n, b := range f.Blocks {
			if b.End.Kind != api.Invoke {
				continue
			}
			f.Blocks[n].End.Kind = api.Ret
			now := Many(m)
			if now != ahead-1 {
				t.Fatalf("%+v: %d, one less %d", b, ahead, now)
			}
			count, ahead = count+1, now
		}
	}
	return count
}

func TestManyOfMadeModules(t *testing.T) {
	some := 0
	for seed := range uint64(1000) {
		for _, m := range []api.Module{made.Module(seed), made.Callers(seed, int(seed%20)), {Funcs: []api.Func{made.Func(seed), made.Web(seed, int(seed%64))}}} {
			got := Many(m)
			if want := manyOneByOne(t, m); got != want {
				t.Fatalf("seed %d: %d, not %d", seed, got, want)
			}
			if got > 2 {
				some++
			}
		}
	}
	if some < 1000 {
		t.Errorf("only %d modules with more than two", some)
	}
}

func TestManyOfVeryMany(t *testing.T) {
	row := made.Row(100001, func(n int) api.End { return made.Invoke(n+1, 0) })
	if got := Many(api.Module{Funcs: []api.Func{row, row, {}}}); got != 200000 {
		t.Errorf("%d of two long rows", got)
	}
	one := []api.Func{made.Of(made.Invoke(0, 0))}
	if got := Many(api.Module{Funcs: slices.Repeat(one, 100000)}); got != 100000 {
		t.Errorf("%d of many functions", got)
	}
}
