package throws

import (
	"testing"

	"davit/api"
	"davit/samples"
)

// digits are what is said of each function, 1 or 0.
func digits(list []bool) string {
	text := make([]byte, len(list))
	for i, is := range list {
		text[i] = '0'
		if is {
			text[i] = '1'
		}
	}
	return string(text)
}

// three are what is said by all three calls.
func three(m api.Module) [3]string {
	return [3]string{digits(Out(m)), digits(Tells(m)), digits(Writes(m))}
}

const (
	answers = " / func 0 1 / block / ret 0"
	throwsA = " / func 0 1 / block / throw 0"
	resumes = " / func 0 1 / block / resume"
	tells   = " / func 0 1 / block / out 0 / ret 0"
	takes   = " / func 0 1 / block / in 0 / ret 0"
	writes  = " / func 0 1 / block / store 0 0 / ret 0"

	calls1   = "func 0 1 / block / call 0 1 / ret 0"
	invokes1 = "func 0 1 / block / invoke 0 1 1 2 / block / ret 0"
	invokes2 = " / func 0 1 / block / invoke 0 2 1 2 / block / ret 0"
)

func TestOut(t *testing.T) {
	for name, c := range map[string]struct{ text, want string }{
		"answers":                                    {answers[3:], "0"},
		"throws":                                     {throwsA[3:], "1"},
		"resumes":                                    {resumes[3:], "1"},
		"goes round":                                 {"func 0 1 / block / jump 0", "0"},
		"throws in a later block":                    {"func 0 1 / block / branch 0 1 2 / block / ret 0 / block / throw 0", "1"},
		"throws where nobody comes to":               {"func 0 1 / block / ret 0 / block / throw 0", "1"},
		"resumes where nobody comes to":              {"func 0 1 / block / ret 0 / pad 0 all / resume", "1"},
		"tells, takes, writes, loads":                {"func 0 1 / block / out 0 / in 0 / store 0 0 / load 0 0 / ret 0", "0"},
		"may end by a trap":                          {"func 0 1 / block / div 0 0 0 / ret 0", "0"},
		"calls one that answers":                     {calls1 + answers, "00"},
		"calls one that throws":                      {calls1 + throwsA, "11"},
		"calls one that resumes":                     {calls1 + resumes, "11"},
		"is called by one that throws":               {"func 0 1 / block / call 0 1 / throw 0" + answers, "10"},
		"invokes one that throws, all":               {invokes1 + " / pad 0 all / ret 0" + throwsA, "01"},
		"invokes one that throws, a number":          {invokes1 + " / pad 0 catch 0 / ret 0" + throwsA, "11"},
		"invokes one that throws, eight numbers":     {invokes1 + " / pad 0 catch 0 1 2 3 4 5 6 7 / ret 0" + throwsA, "11"},
		"invokes one that throws, a cleanup":         {invokes1 + " / pad 0 cleanup / ret 0" + throwsA, "11"},
		"invokes one that throws, both":              {invokes1 + " / pad 0 catch 0 cleanup / ret 0" + throwsA, "11"},
		"invokes one that throws, all and a number":  {invokes1 + " / pad 0 catch 0 all / ret 0" + throwsA, "01"},
		"invokes one that throws, all and a cleanup": {invokes1 + " / pad 0 all cleanup / ret 0" + throwsA, "01"},
		"invokes one that throws, all three":         {invokes1 + " / pad 0 catch 0 all cleanup / ret 0" + throwsA, "01"},
		"invokes one that resumes, all":              {invokes1 + " / pad 0 all / ret 0" + resumes, "01"},
		"invokes one that resumes, a cleanup":        {invokes1 + " / pad 0 cleanup / ret 0" + resumes, "11"},
		"invokes one that answers, a number":         {invokes1 + " / pad 0 catch 0 / ret 0" + answers, "00"},
		"invokes one that answers, a cleanup":        {invokes1 + " / pad 0 cleanup / ret 0" + answers, "00"},
		"all, and resumes":                           {invokes1 + " / pad 0 all / resume" + throwsA, "11"},
		"all, and throws":                            {invokes1 + " / pad 0 all / throw 0" + throwsA, "11"},
		"all, of one that answers, and resumes":      {invokes1 + " / pad 0 all / resume" + answers, "10"},
		"all, and calls it again":                    {invokes1 + " / pad 0 all / call 0 1 / ret 0" + throwsA, "11"},
		"all, and calls it ahead":                    {"func 0 1 / block / call 0 1 / invoke 0 1 1 2 / block / ret 0 / pad 0 all / ret 0" + throwsA, "11"},
		"all, and invokes it again, a number":        {invokes1 + " / pad 0 all / invoke 0 1 1 3 / pad 0 catch 5 / ret 0" + throwsA, "11"},
		"a number, and invokes it again, all":        {invokes1 + " / pad 0 catch 5 / invoke 0 1 1 3 / pad 0 all / ret 0" + throwsA, "11"},
		"all, and invokes it again, all":             {invokes1 + " / pad 0 all / invoke 0 1 1 3 / pad 0 all / ret 0" + throwsA, "01"},
		"the other pad, which has all":               {"func 0 1 / block / invoke 0 1 1 3 / block / ret 0 / pad 0 catch 5 / ret 0 / pad 0 all / ret 0" + throwsA, "01"},
		"the other pad, which hasn't":                {"func 0 1 / block / invoke 0 1 1 3 / block / ret 0 / pad 0 all / ret 0 / pad 0 catch 5 / ret 0" + throwsA, "11"},
		"invoked where nobody comes to":              {"func 0 1 / block / ret 0 / block / invoke 0 1 0 2 / pad 0 cleanup / ret 0" + throwsA, "11"},
		"of two the one that answers, a number":      {invokes1 + " / pad 0 catch 5 / invoke 0 2 1 3 / pad 0 all / ret 0" + answers + throwsA, "001"},
		"of two the one that throws, a number":       {invokes1 + " / pad 0 catch 5 / invoke 0 2 1 3 / pad 0 all / ret 0" + throwsA + answers, "110"},
		"over one that catches all":                  {calls1 + invokes2 + " / pad 0 all / ret 0" + throwsA, "001"},
		"over one that catches a number":             {calls1 + invokes2 + " / pad 0 catch 7 / ret 0" + throwsA, "111"},
		"over one that catches a number, all":        {invokes1 + " / pad 0 all / ret 0" + invokes2 + " / pad 0 catch 7 / ret 0" + throwsA, "011"},
		"not used":                                   {answers[3:] + throwsA + " / func 0 1 / block / call 0 1 / ret 0", "011"},
	} {
		if got := digits(Out(samples.Module(c.text))); got != c.want {
			t.Errorf("%s: %s, not %s", name, got, c.want)
		}
	}
}

// Functions that come to one another do nothing by that alone.
func TestOutOfRings(t *testing.T) {
	const invokes0 = " / func 0 1 / block / invoke 0 0 1 2 / block / ret 0 / pad 0 all / ret 0"
	for name, c := range map[string]struct{ text, want string }{
		"calls itself":                            {"func 0 1 / block / call 0 0 / ret 0", "0"},
		"calls itself, and throws":                {"func 0 1 / block / call 0 0 / throw 0", "1"},
		"invokes itself, a cleanup":               {"func 0 1 / block / invoke 0 0 1 2 / block / ret 0 / pad 0 cleanup / ret 0", "0"},
		"invokes itself, all, and resumes":        {"func 0 1 / block / invoke 0 0 1 2 / block / ret 0 / pad 0 all / resume", "1"},
		"two that call one another":               {calls1 + " / func 0 1 / block / call 0 0 / ret 0", "00"},
		"the first one of two throws":             {"func 0 1 / block / call 0 1 / throw 0 / func 0 1 / block / call 0 0 / ret 0", "11"},
		"the other one of two throws":             {calls1 + " / func 0 1 / block / call 0 0 / throw 0", "11"},
		"the first one throws, and invokes, all":  {"func 0 1 / block / call 0 1 / throw 0" + invokes0, "10"},
		"the other one throws, and invokes, all":  {calls1 + " / func 0 1 / block / branch 0 1 2 / block / invoke 0 0 3 4 / block / throw 0 / block / ret 0 / pad 0 all / ret 0", "11"},
		"the other one throws, invoked, all":      {invokes1 + " / pad 0 all / ret 0 / func 0 1 / block / call 0 0 / throw 0", "01"},
		"both invoke, all, and the other throws":  {invokes1 + " / pad 0 all / ret 0" + invokes0 + " / block / throw 0", "01"},
		"a ring of three, none":                   {calls1 + " / func 0 1 / block / call 0 2 / ret 0 / func 0 1 / block / call 0 0 / ret 0", "000"},
		"a ring of three, one":                    {calls1 + " / func 0 1 / block / call 0 2 / throw 0 / func 0 1 / block / call 0 0 / ret 0", "111"},
		"a ring that one beside it calls":         {calls1 + " / func 0 1 / block / call 0 1 / throw 0" + answers, "110"},
		"a ring that calls one beside it":         {calls1 + " / func 0 1 / block / call 0 0 / call 0 2 / ret 0" + throwsA, "111"},
		"a ring that invokes one beside it, all":  {calls1 + " / func 0 1 / block / call 0 0 / invoke 0 2 1 2 / block / ret 0 / pad 0 all / ret 0" + throwsA, "001"},
		"a ring that is invoked, all, and throws": {invokes1 + " / pad 0 all / ret 0 / func 0 1 / block / call 0 2 / ret 0 / func 0 1 / block / call 0 1 / throw 0", "011"},
	} {
		if got := digits(Out(samples.Module(c.text))); got != c.want {
			t.Errorf("%s: %s, not %s", name, got, c.want)
		}
	}
}

func TestTellsAndWrites(t *testing.T) {
	const pad = " / pad 0 all / ret 0"
	for name, c := range map[string]struct{ text, tells, writes string }{
		"answers":                             {answers[3:], "0", "0"},
		"throws":                              {throwsA[3:], "0", "0"},
		"tells":                               {tells[3:], "1", "0"},
		"takes":                               {takes[3:], "1", "0"},
		"writes":                              {writes[3:], "0", "1"},
		"loads":                               {"func 0 1 / block / load 0 0 / ret 0", "0", "0"},
		"tells where nobody comes to":         {"func 0 1 / block / ret 0 / block / out 0 / ret 0", "1", "0"},
		"takes where nobody comes to":         {"func 0 1 / block / ret 0 / block / in 0 / ret 0", "1", "0"},
		"writes where nobody comes to":        {"func 0 1 / block / ret 0 / block / store 0 0 / ret 0", "0", "1"},
		"tells behind a pad":                  {invokes1 + " / pad 0 all / out 0 / ret 0" + answers, "10", "00"},
		"writes behind a pad":                 {invokes1 + " / pad 0 all / store 0 0 / ret 0" + answers, "00", "10"},
		"tells, and throws":                   {"func 0 1 / block / out 0 / throw 0", "1", "0"},
		"tells, and writes":                   {"func 0 1 / block / out 0 / store 0 0 / ret 0", "1", "1"},
		"calls one that answers":              {calls1 + answers, "00", "00"},
		"calls one that throws":               {calls1 + throwsA, "00", "00"},
		"calls one that tells":                {calls1 + tells, "11", "00"},
		"calls one that takes":                {calls1 + takes, "11", "00"},
		"calls one that writes":               {calls1 + writes, "00", "11"},
		"invokes one that throws":             {invokes1 + pad + throwsA, "00", "00"},
		"invokes one that tells, all":         {invokes1 + pad + tells, "11", "00"},
		"invokes one that takes, all":         {invokes1 + pad + takes, "11", "00"},
		"invokes one that writes, all":        {invokes1 + pad + writes, "00", "11"},
		"invokes one that tells, a number":    {invokes1 + " / pad 0 catch 5 / ret 0" + tells, "11", "00"},
		"invokes one that writes, a cleanup":  {invokes1 + " / pad 0 cleanup / resume" + writes, "00", "11"},
		"invoked where nobody comes to":       {"func 0 1 / block / ret 0 / block / invoke 0 1 0 2" + pad + takes + writes, "110", "001"},
		"is called by one that does both":     {"func 0 1 / block / out 0 / store 0 0 / call 0 1 / ret 0" + answers, "10", "10"},
		"one of each":                         {"func 0 1 / block / call 0 1 / call 0 2 / ret 0" + tells + writes, "110", "101"},
		"not used":                            {answers[3:] + tells + writes + " / func 0 1 / block / call 0 1 / ret 0", "0101", "0010"},
		"over others":                         {calls1 + invokes2 + pad + " / func 0 1 / block / call 0 3 / ret 0" + takes, "1111", "0000"},
		"writes over others":                  {calls1 + invokes2 + pad + " / func 0 1 / block / call 0 3 / ret 0" + writes, "0000", "1111"},
		"calls itself":                        {"func 0 1 / block / call 0 0 / ret 0", "0", "0"},
		"calls itself, and tells":             {"func 0 1 / block / call 0 0 / out 0 / ret 0", "1", "0"},
		"two that call one another":           {calls1 + " / func 0 1 / block / call 0 0 / ret 0", "00", "00"},
		"two, each of which does one":         {"func 0 1 / block / call 0 1 / store 0 0 / ret 0 / func 0 1 / block / call 0 0 / in 0 / ret 0", "11", "11"},
		"two that invoke one another":         {invokes1 + pad + " / func 0 1 / block / out 0 / invoke 0 0 1 2 / block / ret 0" + pad, "11", "00"},
		"a ring beside one that does both":    {answers[3:] + " / func 0 1 / block / call 0 2 / ret 0 / func 0 1 / block / call 0 1 / ret 0 / func 0 1 / block / in 0 / store 0 0 / ret 0", "0001", "0001"},
		"a ring of three, the last one tells": {calls1 + " / func 0 1 / block / call 0 2 / ret 0 / func 0 1 / block / call 0 0 / in 0 / ret 0", "111", "000"},
	} {
		m := samples.Module(c.text)
		if got := digits(Tells(m)); got != c.tells {
			t.Errorf("%s: tell: %s, not %s", name, got, c.tells)
		}
		if got := digits(Writes(m)); got != c.writes {
			t.Errorf("%s: write: %s, not %s", name, got, c.writes)
		}
	}
}

// one is a module of one function of these blocks, beside one that answers, which they may call.
func one(blocks ...api.Block) api.Module {
	return api.Module{Funcs: []api.Func{
		{Regs: 1, Blocks: blocks},
		{Regs: 1, Blocks: []api.Block{{End: api.End{Kind: api.Ret}}}},
	}}
}

func TestEachOp(t *testing.T) {
	for op := api.Const; op <= api.In; op++ {
		x := api.Ins{Op: op}
		if op == api.Call {
			x.F = 1
		}
		want := [3]string{"00", "00", "00"}
		switch op {
		case api.Out, api.In:
			want[1] = "10"
		case api.Store:
			want[2] = "10"
		}
		if got := three(one(api.Block{Ins: []api.Ins{x}, End: api.End{Kind: api.Ret}})); got != want {
			t.Errorf("Op %d: %v, not %v", op, got, want)
		}
	}
}

func TestEachKind(t *testing.T) {
	for kind := api.Ret; kind <= api.Resume; kind++ {
		end := api.End{Kind: kind}
		if kind == api.Invoke {
			end.F, end.Pad = 1, 1
		}
		want := [3]string{"00", "00", "00"}
		if kind == api.Throw || kind == api.Resume {
			want[0] = "10"
		}
		pad := api.Block{Landing: true, Pad: api.Pad{Cleanup: true}, End: api.End{Kind: api.Jump}}
		if got := three(one(api.Block{End: end}, pad)); got != want {
			t.Errorf("Kind %d: %v, not %v", kind, got, want)
		}
	}
}
