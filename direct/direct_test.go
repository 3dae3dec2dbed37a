package direct

import (
	"slices"
	"testing"

	"davit/api"
	"davit/samples"
	"davit/shape"
)

const (
	invoking = "func 0 3 / block / out 0 / invoke 2 1 1 2 1 0 / block / ret 2 / pad 0 all / invoke 0 1 0 2 0 0 / func 2 2 / block / ret 1"
	first    = "func 0 3 / block / out 0 / call 2 1 1 0 / jump 1 / block / ret 2 / pad 0 all / invoke 0 1 0 2 0 0 / func 2 2 / block / ret 1"
	second   = "func 0 3 / block / out 0 / invoke 2 1 1 2 1 0 / block / ret 2 / pad 0 all / call 0 1 0 0 / jump 0 / func 2 2 / block / ret 1"
	both     = "func 0 3 / block / out 0 / call 2 1 1 0 / jump 1 / block / ret 2 / pad 0 all / call 0 1 0 0 / jump 0 / func 2 2 / block / ret 1"
)

func TestInvokes(t *testing.T) {
	for name, c := range map[string]struct {
		needless func(f api.Func, b api.Block) bool
		want     string
	}{
		"none":         {func(api.Func, api.Block) bool { return false }, invoking},
		"all":          {func(api.Func, api.Block) bool { return true }, both},
		"by the block": {func(_ api.Func, b api.Block) bool { return b.Landing }, second},
		"by its pad":   {func(f api.Func, b api.Block) bool { return len(f.Blocks[b.End.Pad].Ins) == len(b.Ins)-1 }, first},
	} {
		m := samples.Module(invoking)
		Invokes(m, c.needless)
		if !shape.Same(m, samples.Module(c.want)) {
			t.Errorf("%s: %+v", name, m)
		}
	}
}

// Blocks that are full stay, and nobody is asked of those that end otherwise.
func TestWhatStays(t *testing.T) {
	for count := range api.MaxIns + 1 {
		m := samples.Module(invoking)
		m.Funcs[0].Blocks[2].Ins = slices.Repeat([]api.Ins{{Op: api.Out}}, count)
		asked := 0
		Invokes(m, func(_ api.Func, b api.Block) bool {
			asked++
			return b.Landing
		})
		b := m.Funcs[0].Blocks[2]
		if stays := b.End.Kind == api.Invoke; stays != (count == api.MaxIns) || asked > 2 {
			t.Errorf("%d instructions: %+v; asked %d times", count, b, asked)
		}
	}
}
