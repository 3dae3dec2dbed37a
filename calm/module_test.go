package calm

import (
	"slices"
	"testing"

	"davit/api"
	"davit/made"
	"davit/samples"
	"davit/shape"
	"davit/throws"
)

const (
	answers = " / func 0 1 / block / ret 0"
	throwsA = " / func 0 1 / block / throw 0"
	resumes = " / func 0 1 / block / resume"

	invoking = "func 0 1 / block / invoke 0 1 1 2 / block / ret 0 / pad 0 all / ret 0"
	catching = "func 0 1 / block / invoke 0 1 1 2 / block / ret 0 / pad 0 catch 5 / ret 0"
	cleaning = "func 0 1 / block / invoke 0 1 1 2 / block / ret 0 / pad 0 cleanup / ret 0"
	calling  = "func 0 1 / block / call 0 1 / jump 1 / block / ret 0 / pad 0 all / ret 0"
)

func TestModule(t *testing.T) {
	for name, c := range map[string]struct{ from, to string }{
		"one that answers":               {invoking + answers, calling + answers},
		"by a pad with a number":         {catching + answers, "func 0 1 / block / call 0 1 / jump 1 / block / ret 0 / pad 0 catch 5 / ret 0" + answers},
		"by a cleanup":                   {cleaning + answers, "func 0 1 / block / call 0 1 / jump 1 / block / ret 0 / pad 0 cleanup / ret 0" + answers},
		"by a pad that resumes":          {"func 0 1 / block / invoke 0 1 1 2 / block / ret 0 / pad 0 cleanup / resume" + answers, "func 0 1 / block / call 0 1 / jump 1 / block / ret 0 / pad 0 cleanup / resume" + answers},
		"one that throws":                {invoking + throwsA, invoking + throwsA},
		"one that throws, a number":      {catching + throwsA, catching + throwsA},
		"one that throws, a cleanup":     {cleaning + throwsA, cleaning + throwsA},
		"one that resumes":               {invoking + resumes, invoking + resumes},
		"one that throws elsewhere":      {invoking + " / func 0 1 / block / ret 0 / block / throw 0", invoking + " / func 0 1 / block / ret 0 / block / throw 0"},
		"one that tells and writes":      {invoking + " / func 0 1 / block / out 0 / in 0 / store 0 0 / ret 0", calling + " / func 0 1 / block / out 0 / in 0 / store 0 0 / ret 0"},
		"one that may end by a trap":     {invoking + " / func 0 1 / block / div 0 0 0 / load 0 0 / ret 0", calling + " / func 0 1 / block / div 0 0 0 / load 0 0 / ret 0"},
		"one that never ends":            {invoking + " / func 0 1 / block / jump 0", calling + " / func 0 1 / block / jump 0"},
		"one that calls itself":          {invoking + " / func 0 1 / block / call 0 1 / ret 0", calling + " / func 0 1 / block / call 0 1 / ret 0"},
		"one that calls one that throws": {invoking + " / func 0 1 / block / call 0 2 / ret 0" + throwsA, invoking + " / func 0 1 / block / call 0 2 / ret 0" + throwsA},
		"itself":                         {"func 0 1 / block / invoke 0 0 1 2 / block / ret 0 / pad 0 all / ret 0", "func 0 1 / block / call 0 0 / jump 1 / block / ret 0 / pad 0 all / ret 0"},
		"itself, which throws":           {"func 0 1 / block / invoke 0 0 1 2 / block / throw 0 / pad 0 all / ret 0", "func 0 1 / block / invoke 0 0 1 2 / block / throw 0 / pad 0 all / ret 0"},
		"behind its instructions":        {"func 0 2 / block / const 0 7 / out 0 / invoke 1 1 1 2 / block / ret 1 / pad 0 all / ret 0" + answers, "func 0 2 / block / const 0 7 / out 0 / call 1 1 / jump 1 / block / ret 1 / pad 0 all / ret 0" + answers},
		"behind another call of it":      {"func 0 1 / block / call 0 1 / invoke 0 1 1 2 / block / ret 0 / pad 0 all / ret 0" + answers, "func 0 1 / block / call 0 1 / call 0 1 / jump 1 / block / ret 0 / pad 0 all / ret 0" + answers},
		"with arguments":                 {"func 0 4 / block / invoke 3 1 1 2 2 0 2 / block / ret 3 / pad 1 all / ret 1 / func 3 3 / block / ret 2", "func 0 4 / block / call 3 1 2 0 2 / jump 1 / block / ret 3 / pad 1 all / ret 1 / func 3 3 / block / ret 2"},
		"with as many as may be":         {"func 0 9 / block / invoke 8 1 1 2 7 6 5 4 3 2 1 0 / block / ret 8 / pad 0 all / ret 0 / func 8 8 / block / ret 7", "func 0 9 / block / call 8 1 7 6 5 4 3 2 1 0 / jump 1 / block / ret 8 / pad 0 all / ret 0 / func 8 8 / block / ret 7"},
		"on to itself":                   {"func 0 1 / block / invoke 0 1 0 1 / pad 0 all / ret 0" + answers, "func 0 1 / block / call 0 1 / jump 0 / pad 0 all / ret 0" + answers},
		"back":                           {"func 0 1 / block / jump 1 / block / invoke 0 1 0 2 / pad 0 all / ret 0" + answers, "func 0 1 / block / jump 1 / block / call 0 1 / jump 0 / pad 0 all / ret 0" + answers},
		"in a Landing block":             {"func 0 1 / block / invoke 0 2 1 2 / block / ret 0 / pad 0 catch 5 all / invoke 0 1 1 2" + answers + throwsA, "func 0 1 / block / invoke 0 2 1 2 / block / ret 0 / pad 0 catch 5 all / call 0 1 / jump 1" + answers + throwsA},
		"where nobody comes to":          {"func 0 1 / block / ret 0 / block / invoke 0 1 0 2 / pad 0 all / ret 0" + answers, "func 0 1 / block / ret 0 / block / call 0 1 / jump 0 / pad 0 all / ret 0" + answers},
		"of several each":                {"func 0 1 / block / invoke 0 1 1 3 / block / invoke 0 2 2 3 / block / invoke 0 1 0 3 / pad 0 all / ret 0" + answers + throwsA, "func 0 1 / block / call 0 1 / jump 1 / block / invoke 0 2 2 3 / block / call 0 1 / jump 0 / pad 0 all / ret 0" + answers + throwsA},
		"of several functions each":      {invoking + " / func 0 1 / block / invoke 0 2 1 2 / block / ret 0 / pad 0 all / ret 0" + answers, calling + " / func 0 1 / block / call 0 2 / jump 1 / block / ret 0 / pad 0 all / ret 0" + answers},
		"in a function that nobody calls": {answers[3:] + " / func 0 1 / block / invoke 0 0 1 2 / block / ret 0 / pad 0 all / ret 0",
			answers[3:] + " / func 0 1 / block / call 0 0 / jump 1 / block / ret 0 / pad 0 all / ret 0"},
		"one that catches all": {invoking + " / func 0 1 / block / invoke 0 2 1 2 / block / ret 0 / pad 0 all / ret 0" + throwsA,
			calling + " / func 0 1 / block / invoke 0 2 1 2 / block / ret 0 / pad 0 all / ret 0" + throwsA},
		"one that catches a number": {invoking + " / func 0 1 / block / invoke 0 2 1 2 / block / ret 0 / pad 0 catch 5 / ret 0" + throwsA,
			invoking + " / func 0 1 / block / invoke 0 2 1 2 / block / ret 0 / pad 0 catch 5 / ret 0" + throwsA},
		"one that is calm, and its pad resumes: by the module as it was": {invoking + " / func 0 1 / block / invoke 0 2 1 2 / block / ret 0 / pad 0 cleanup / resume" + answers,
			invoking + " / func 0 1 / block / call 0 2 / jump 1 / block / ret 0 / pad 0 cleanup / resume" + answers},
		"other ends": {"func 0 1 / block / branch 0 1 2 / block / jump 2 / block / throw 0 / pad 0 all / resume" + answers,
			"func 0 1 / block / branch 0 1 2 / block / jump 2 / block / throw 0 / pad 0 all / resume" + answers},
	} {
		got, err := Module(samples.Module(c.from))
		if err != api.OK || !shape.Same(got, samples.Module(c.to)) {
			t.Errorf("%s: %v, %+v", name, err, got)
		}
	}
}

func TestWide(t *testing.T) {
	got, err := Module(samples.Wide())
	want := samples.Wide()
	want.Funcs[2].Blocks[0] = api.Block{Ins: []api.Ins{{Op: api.Call, F: 1}}, End: api.End{Kind: api.Jump, To: 1}}
	if err != api.OK || !shape.Same(got, want) {
		t.Errorf("%v, %+v", err, got)
	}
}

// A block of fewer than 64 instructions is calmed, and has one more; a full one stays.
func TestFullBlocks(t *testing.T) {
	for count := range api.MaxIns + 1 {
		m := samples.Module(invoking + answers)
		b := &m.Funcs[0].Blocks[0]
		b.Ins = slices.Repeat([]api.Ins{{Op: api.Out}}, count)
		want := shape.Copy(m)
		if count < api.MaxIns {
			b := &want.Funcs[0].Blocks[0]
			b.Ins, b.End = append(b.Ins, api.Ins{Op: api.Call, F: 1}), made.Jump(1)
		}
		got, err := Module(m)
		if err != api.OK || !shape.Same(got, want) {
			t.Errorf("%d instructions: %v, %+v", count, err, got)
		}
		if again, err := Module(got); err != api.OK || !shape.Same(again, got) {
			t.Errorf("%d instructions, calmed again: %v, %+v", count, err, again)
		}
	}
}

func TestAsMuchAsMayBe(t *testing.T) {
	for name, m := range samples.Right() {
		var c tally
		c.check(t, m)
		if is := c.calmed == 1; is == (name == "as many ahead of an Invoke") {
			t.Errorf("%s: %+v", name, c)
		}
	}
}

// great is a module of as many functions and blocks, and nearly as many instructions, as there may be. All blocks but the last one of each function invoke one of the first functions, out of which, so many, nothing is thrown.
func great(calm int) api.Module {
	m := api.Module{Funcs: make([]api.Func, api.MaxFuncs)}
	for n := range m.Funcs {
		last := api.MaxBlocks - 1
		f := made.Row(api.MaxBlocks, func(k int) api.End {
			return api.End{Kind: api.Invoke, F: (n + k) % calm, To: (k + 1) % last, Pad: last}
		})
		made.Landing(f, last)
		for k := range f.Blocks {
			f.Blocks[k].Ins = slices.Repeat([]api.Ins{{Op: api.Call, F: n % calm}}, api.MaxIns-1)
		}
		if n >= calm {
			f.Blocks[last].End.Kind = api.Throw
		}
		f.Regs = api.MaxRegs
		m.Funcs[n] = f
	}
	return m
}

func TestTheGreatestModules(t *testing.T) {
	for calm := 1; calm <= api.MaxFuncs; calm++ {
		m := great(calm)
		got, err := Module(m)
		if err != api.OK || !shape.Right(got) || Many(m) != api.MaxFuncs*(api.MaxBlocks-1) || Many(got) != 0 {
			t.Errorf("%d that throw nothing: %v, %d invokes, calmed %d", calm, err, Many(m), Many(got))
		}
		if !slices.Equal(throws.Out(got), throws.Out(m)) {
			t.Errorf("%d that throw nothing: out of others something may be thrown, calmed", calm)
		}
	}
}
