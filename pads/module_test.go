package pads

import (
	"slices"
	"testing"

	"davit/api"
	"davit/made"
	"davit/samples"
	"davit/shape"
)

const (
	answers = " / func 0 1 / block / ret 0"
	throwsA = " / func 0 1 / block / throw 0"

	invoking = "func 0 1 / block / invoke 0 1 1 2 / block / ret 0 / pad 0 cleanup / resume"
	calling  = "func 0 1 / block / call 0 1 / jump 1 / block / ret 0 / pad 0 cleanup / resume"
)

// at is a function's text that invokes the next one, and the Landing block of which is this.
func at(landing string) string {
	return "func 0 2 / block / invoke 0 1 1 2 / block / ret 0 / " + landing + throwsA
}

// round is likewise, which calls instead.
func round(landing string) string {
	return "func 0 2 / block / call 0 1 / jump 1 / block / ret 0 / " + landing + throwsA
}

func TestModule(t *testing.T) {
	for name, c := range map[string]struct{ from, to string }{
		"the chapter's example":         {at("pad 0 catch 5 all cleanup / ret 0"), at("pad 0 all / ret 0")},
		"all and a number":              {at("pad 1 catch 5 all / ret 0"), at("pad 1 all / ret 0")},
		"all and a cleanup":             {at("pad 1 all cleanup / out 1 / resume"), at("pad 1 all / out 1 / resume")},
		"all alone":                     {at("pad 1 all / ret 0"), at("pad 1 all / ret 0")},
		"numbers":                       {at("pad 1 catch 5 0 / ret 0"), at("pad 1 catch 5 0 / ret 0")},
		"numbers and a cleanup":         {at("pad 1 catch 5 0 cleanup / ret 0"), at("pad 1 catch 5 0 cleanup / ret 0")},
		"a cleanup that does something": {at("pad 1 cleanup / out 1 / resume"), at("pad 1 cleanup / out 1 / resume")},
		"one that does little":          {at("pad 1 cleanup / copy 1 1 / resume"), at("pad 1 cleanup / copy 1 1 / resume")},
		"one that throws it on":         {at("pad 1 cleanup / throw 1"), at("pad 1 cleanup / throw 1")},
		"one that answers":              {at("pad 1 cleanup / ret 1"), at("pad 1 cleanup / ret 1")},
		"one that jumps":                {at("pad 1 cleanup / jump 1"), at("pad 1 cleanup / jump 1")},
		"one that jumps to one that resumes": {at("pad 1 cleanup / jump 3 / block / resume"),
			at("pad 1 cleanup / jump 3 / block / resume")},
		"one that does nothing":            {at("pad 1 cleanup / resume"), round("pad 1 cleanup / resume")},
		"all that resumes":                 {at("pad 1 all / resume"), at("pad 1 all / resume")},
		"all and more that resumes":        {at("pad 1 catch 5 all cleanup / resume"), at("pad 1 all / resume")},
		"a number that resumes":            {at("pad 1 catch 5 / resume"), at("pad 1 catch 5 / resume")},
		"a number and more that resumes":   {at("pad 1 catch 5 cleanup / resume"), at("pad 1 catch 5 cleanup / resume")},
		"of one that answers":              {invoking + answers, calling + answers},
		"of itself":                        {"func 0 1 / block / invoke 0 0 1 2 / block / ret 0 / pad 0 cleanup / resume", "func 0 1 / block / call 0 0 / jump 1 / block / ret 0 / pad 0 cleanup / resume"},
		"behind instructions":              {"func 0 2 / block / const 0 7 / out 0 / invoke 1 1 1 2 / block / ret 1 / pad 0 cleanup / resume" + throwsA, "func 0 2 / block / const 0 7 / out 0 / call 1 1 / jump 1 / block / ret 1 / pad 0 cleanup / resume" + throwsA},
		"with arguments":                   {"func 0 4 / block / invoke 3 1 1 2 2 0 2 / block / ret 3 / pad 1 cleanup / resume / func 3 3 / block / throw 2", "func 0 4 / block / call 3 1 2 0 2 / jump 1 / block / ret 3 / pad 1 cleanup / resume / func 3 3 / block / throw 2"},
		"with as many as may be":           {"func 0 9 / block / invoke 8 1 1 2 7 6 5 4 3 2 1 0 / block / ret 8 / pad 0 cleanup / resume / func 8 8 / block / throw 7", "func 0 9 / block / call 8 1 7 6 5 4 3 2 1 0 / jump 1 / block / ret 8 / pad 0 cleanup / resume / func 8 8 / block / throw 7"},
		"on to itself":                     {"func 0 1 / block / invoke 0 1 0 1 / pad 0 cleanup / resume" + throwsA, "func 0 1 / block / call 0 1 / jump 0 / pad 0 cleanup / resume" + throwsA},
		"the last one of the block's pads": {"func 0 1 / block / invoke 0 1 0 2 / pad 0 cleanup / resume / pad 0 catch 5 cleanup / resume" + throwsA, "func 0 1 / block / invoke 0 1 0 2 / pad 0 cleanup / resume / pad 0 catch 5 cleanup / resume" + throwsA},
		"a pad ahead of the block":         {"func 0 1 / block / jump 2 / pad 0 cleanup / resume / block / invoke 0 1 0 1" + throwsA, "func 0 1 / block / jump 2 / pad 0 cleanup / resume / block / call 0 1 / jump 0" + throwsA},
		"of two blocks":                    {"func 0 1 / block / invoke 0 1 1 2 / block / invoke 0 0 0 2 / pad 0 cleanup / resume" + throwsA, "func 0 1 / block / call 0 1 / jump 1 / block / call 0 0 / jump 0 / pad 0 cleanup / resume" + throwsA},
		"of one of two blocks":             {"func 0 1 / block / invoke 0 1 1 2 / block / invoke 0 0 0 3 / pad 0 cleanup / ret 0 / pad 0 cleanup / resume" + throwsA, "func 0 1 / block / invoke 0 1 1 2 / block / call 0 0 / jump 0 / pad 0 cleanup / ret 0 / pad 0 cleanup / resume" + throwsA},
		"in a Landing block":               {"func 0 1 / block / invoke 0 1 0 1 / pad 0 catch 5 all cleanup / invoke 0 1 0 2 / pad 0 cleanup / resume" + throwsA, "func 0 1 / block / invoke 0 1 0 1 / pad 0 all / call 0 1 / jump 0 / pad 0 cleanup / resume" + throwsA},
		"of a pad that invokes by itself":  {"func 0 1 / block / ret 0 / pad 0 cleanup / invoke 0 0 0 1", "func 0 1 / block / ret 0 / pad 0 cleanup / invoke 0 0 0 1"},
		"where nobody comes to":            {"func 0 1 / block / ret 0 / block / invoke 0 1 0 2 / pad 0 cleanup / resume / pad 0 catch 1 all / ret 0" + throwsA, "func 0 1 / block / ret 0 / block / call 0 1 / jump 0 / pad 0 cleanup / resume / pad 0 all / ret 0" + throwsA},
		"in each function":                 {at("pad 0 catch 1 all / ret 0") + " / func 0 1 / block / invoke 0 2 0 1 / pad 0 cleanup / resume", at("pad 0 all / ret 0") + " / func 0 1 / block / call 0 2 / jump 0 / pad 0 cleanup / resume"},
		"by the function's own pads":       {at("pad 0 cleanup / ret 0") + " / func 0 1 / block / invoke 0 2 1 2 / block / ret 0 / pad 0 cleanup / resume", at("pad 0 cleanup / ret 0") + " / func 0 1 / block / call 0 2 / jump 1 / block / ret 0 / pad 0 cleanup / resume"},
		"other ends":                       {"func 0 1 / block / branch 0 1 2 / block / jump 2 / block / throw 0 / pad 0 cleanup / resume", "func 0 1 / block / branch 0 1 2 / block / jump 2 / block / throw 0 / pad 0 cleanup / resume"},
	} {
		got, err := Module(samples.Module(c.from))
		if err != api.OK || !shape.Same(got, samples.Module(c.to)) {
			t.Errorf("%s: %v, %+v", name, err, got)
		}
	}
}

func TestWide(t *testing.T) {
	got, err := Module(samples.Wide())
	want := samples.Wide()
	want.Funcs[2].Blocks[2].Pad = api.Pad{All: true}
	if err != api.OK || !shape.Same(got, want) {
		t.Errorf("%v, %+v", err, got)
	}
}

// A block of fewer than 64 instructions goes round what does nothing, and has one more; a full one stays.
func TestFullBlocks(t *testing.T) {
	for count := range api.MaxIns + 1 {
		m := samples.Module(invoking + throwsA)
		m.Funcs[0].Blocks[0].Ins = slices.Repeat([]api.Ins{{Op: api.Out}}, count)
		want := shape.Copy(m)
		if count < api.MaxIns {
			b := &want.Funcs[0].Blocks[0]
			b.Ins, b.End = append(b.Ins, api.Ins{Op: api.Call, F: 1}), made.Jump(1)
		}
		got, err := Module(m)
		if err != api.OK || !shape.Same(got, want) {
			t.Errorf("%d instructions: %v, %+v", count, err, got)
		}
		if again, err := Module(got); err != api.OK || !shape.Same(again, got) {
			t.Errorf("%d instructions, trimmed again: %v, %+v", count, err, again)
		}
	}
}

func TestAsMuchAsMayBe(t *testing.T) {
	for _, m := range samples.Right() {
		var c tally
		c.check(t, m)
		if c.trimmed != 1 {
			t.Errorf("%+v: %+v", m, c)
		}
	}
}

// The greatest module: as many functions and blocks, and nearly as many instructions, as there may be; half of the blocks of each function go round what does nothing.
func TestTheGreatestModules(t *testing.T) {
	m := api.Module{Funcs: make([]api.Func, api.MaxFuncs)}
	for n := range m.Funcs {
		f := made.Row(api.MaxBlocks, func(k int) api.End { return made.Invoke(k%2, api.MaxBlocks-1-k%2) })
		made.Landing(f, api.MaxBlocks-2, api.MaxBlocks-1)
		f.Blocks[api.MaxBlocks-2].Pad = api.Pad{Cleanup: true}
		f.Blocks[api.MaxBlocks-2].End = api.End{Kind: api.Resume}
		f.Blocks[api.MaxBlocks-1].Pad = api.Pad{Catch: []uint16{1, 2, 3, 4, 5, 6, 7, 8}, All: true, Cleanup: true}
		for k := range api.MaxBlocks - 2 {
			f.Blocks[k].Ins = slices.Repeat([]api.Ins{{Op: api.Out}}, api.MaxIns-1)
		}
		f.Regs = api.MaxRegs
		m.Funcs[n] = f
	}
	got, err := Module(m)
	if err != api.OK || !shape.Right(got) {
		t.Fatalf("%v, %+v", err, got)
	}
	for n, f := range got.Funcs {
		calls := 0
		for _, b := range f.Blocks {
			if b.End.Kind == api.Jump {
				calls++
			}
		}
		if want := (api.MaxBlocks - 2) / 2; calls != want || !shape.Same(api.Module{Funcs: []api.Func{{Blocks: f.Blocks[api.MaxBlocks-1:]}}}, api.Module{Funcs: []api.Func{{Blocks: []api.Block{{Landing: true, Pad: api.Pad{All: true}, End: api.End{Kind: api.Ret}}}}}}) {
			t.Errorf("function %d: %d calls; %+v", n, calls, f.Blocks[api.MaxBlocks-1])
		}
	}
}
