package show

import (
	"fmt"
	"reflect"
	"strings"
	"testing"

	"davit/api"
	"davit/shape"
)

// example has each kind of block, each instruction and each end, and calls with no, one and more arguments.
func example() api.Module {
	ins := []api.Ins{
		{Op: api.Const, Dst: 1, K: 65535}, {Op: api.Copy, Dst: 2, A: 1},
		{Op: api.Add, Dst: 3, A: 1, B: 2}, {Op: api.Sub, Dst: 3, A: 2, B: 1}, {Op: api.Mul, Dst: 0, A: 1, B: 1},
		{Op: api.Div, Dst: 1, A: 2, B: 3}, {Op: api.Eq, Dst: 2, A: 3, B: 0}, {Op: api.Lt, Dst: 10, A: 11, B: 9},
		{Op: api.Load, Dst: 1, A: 0}, {Op: api.Store, A: 1, B: 2},
		{Op: api.Call, Dst: 1, F: 0}, {Op: api.Call, Dst: 2, F: 1, Args: []int{11}}, {Op: api.Call, Dst: 3, F: 2, Args: []int{3, 1, 2}},
		{Op: api.Out, A: 3}, {Op: api.In, Dst: 2},
	}
	first := api.Func{Regs: 12, Blocks: []api.Block{
		{Ins: ins, End: api.End{Kind: api.Invoke, Dst: 1, F: 2, Args: []int{2, 0, 1}, To: 1, Pad: 3}},
		{End: api.End{Kind: api.Branch, A: 1, To: 2, Else: 8}},
		{Ins: []api.Ins{{Op: api.Out, A: 0}}, End: api.End{Kind: api.Jump, To: 0}},
		{Landing: true, Pad: api.Pad{Dst: 11, Catch: []uint16{7}}, End: api.End{Kind: api.Throw, A: 11}},
		{Landing: true, Pad: api.Pad{Dst: 1, All: true}, Ins: []api.Ins{{Op: api.In}}, End: api.End{Kind: api.Ret, A: 1}},
		{Landing: true, Pad: api.Pad{Cleanup: true}, End: api.End{Kind: api.Resume}},
		{Landing: true, Pad: api.Pad{Dst: 2, Catch: []uint16{65535, 0, 256}, All: true, Cleanup: true}, End: api.End{Kind: api.Resume}},
		{Landing: true, Pad: api.Pad{Dst: 2, Catch: []uint16{1, 2, 3, 4, 5, 6, 7, 8}, Cleanup: true}, End: api.End{Kind: api.Jump, To: 8}},
		{End: api.End{Kind: api.Invoke, Dst: 0, F: 1, Args: []int{3}, To: 8, Pad: 4}},
	}}
	second := api.Func{Params: 1, Regs: 1, Blocks: []api.Block{{End: api.End{Kind: api.Ret}}}}
	third := api.Func{Params: 3, Regs: 256, Blocks: []api.Block{
		{End: api.End{Kind: api.Invoke, Dst: 255, To: 0, Pad: 1}},
		{Landing: true, Pad: api.Pad{Dst: 3, Catch: []uint16{9}, All: true}, End: api.End{Kind: api.Ret, A: 255}},
	}}
	return api.Module{Funcs: []api.Func{first, second, third}}
}

const exampleText = `func 0 12
block
const 1 65535
copy 2 1
add 3 1 2
sub 3 2 1
mul 0 1 1
div 1 2 3
eq 2 3 0
lt 10 11 9
load 1 0
store 1 2
call 1 0
call 2 1 11
call 3 2 3 1 2
out 3
in 2
invoke 1 2 1 3 2 0 1
block
branch 1 2 8
block
out 0
jump 0
pad 11 catch 7
throw 11
pad 1 all
in 0
ret 1
pad 0 cleanup
resume
pad 2 catch 65535 0 256 all cleanup
resume
pad 2 catch 1 2 3 4 5 6 7 8 cleanup
jump 8
block
invoke 0 1 8 4 3
func 1 1
block
ret 0
func 3 256
block
invoke 255 0 0 1
pad 3 catch 9 all
ret 255
`

// small is the chapter's example.
func small() api.Module {
	return api.Module{Funcs: []api.Func{{Regs: 1, Blocks: []api.Block{{End: api.End{Kind: api.Ret}}}}}}
}

func checkShow(t *testing.T, m api.Module, want string) {
	t.Helper()
	if text, err := Show(m); text != want || err != api.OK {
		t.Errorf("told as %q, %d; not as %q", text, err, want)
	}
}

func checkRefused(t *testing.T, name string, m api.Module, want api.Errno) {
	t.Helper()
	if text, err := Show(m); text != "" || err != want {
		t.Errorf("%s: %d bytes of text and %d, not %d", name, len(text), err, want)
	}
}

func TestShow(t *testing.T) {
	checkShow(t, small(), "func 0 1\nblock\nret 0\n")
	checkShow(t, example(), exampleText)
	none := api.Module{Funcs: []api.Func{{Blocks: []api.Block{{End: api.End{Kind: api.Resume}}}}}}
	checkShow(t, none, "func 0 0\nblock\nresume\n")
}

func TestFunctionsStandInTheirOrder(t *testing.T) {
	m := small()
	want := "func 0 1\nblock\nret 0\n"
	for n := 1; n < api.MaxFuncs; n++ {
		params := n % (api.MaxArgs + 1)
		m.Funcs = append(m.Funcs, api.Func{Params: params, Regs: 10 * n, Blocks: []api.Block{{End: api.End{Kind: api.Throw, A: n}}}})
		want += fmt.Sprintf("func %d %d\nblock\nthrow %d\n", params, 10*n, n)
		checkShow(t, m, want)
	}
}

func TestLinesOfAText(t *testing.T) {
	text, _ := Show(example())
	if strings.Contains(text, "  ") || strings.Contains(text, "\n\n") || strings.Contains(text, " \n") || strings.Contains(text, "\n ") {
		t.Error("more than a blank or a newline between words")
	}
	for _, c := range text {
		if c != ' ' && c != '\n' && (c < '0' || c > '9') && (c < 'a' || c > 'z') {
			t.Errorf("%q in a text", c)
		}
	}
	for _, word := range strings.Fields(text) {
		if len(word) > 1 && word[0] == '0' {
			t.Errorf("%s has a needless nought", word)
		}
	}
}

func TestShowOfWhatMayNotBe(t *testing.T) {
	checkRefused(t, "no function", api.Module{}, api.ErrArg)
	checkRefused(t, "an empty function", api.Module{Funcs: []api.Func{{}}}, api.ErrArg)
	for name, spoil := range map[string]func(m *api.Module){
		"first with Params":      func(m *api.Module) { m.Funcs[0].Params = 1 },
		"too few places":         func(m *api.Module) { m.Funcs[0].Regs = 11 },
		"too many places":        func(m *api.Module) { m.Funcs[0].Regs = api.MaxRegs + 1 },
		"no Op":                  func(m *api.Module) { m.Funcs[0].Blocks[0].Ins[3].Op = 14 },
		"no Kind":                func(m *api.Module) { m.Funcs[2].Blocks[1].End.Kind = 0 },
		"a field that is unused": func(m *api.Module) { m.Funcs[0].Blocks[0].Ins[0].A = 1 },
		"a goal that is Landing": func(m *api.Module) { m.Funcs[0].Blocks[1].End.To = 3 },
		"a number below 0":       func(m *api.Module) { m.Funcs[1].Blocks[0].End.A = -1 },
		"Catch twice the same":   func(m *api.Module) { m.Funcs[0].Blocks[3].Pad.Catch = []uint16{7, 7} },
		"a Pad where none is":    func(m *api.Module) { m.Funcs[0].Blocks[0].Pad.All = true },
		"too many functions": func(m *api.Module) {
			for len(m.Funcs) <= api.MaxFuncs {
				m.Funcs = append(m.Funcs, m.Funcs[1])
			}
		},
	} {
		m := example()
		spoil(&m)
		if shape.Right(m) {
			t.Fatalf("%s: it may be", name)
		}
		checkRefused(t, name, m, api.ErrArg)
	}
}

// textOf has a text of just so many bytes: functions of blocks of full lines, and lines cut short till it fits.
func textOf(t *testing.T, bytes int) api.Module {
	t.Helper()
	m := api.Module{Funcs: []api.Func{{Regs: 256}}}
	left := bytes - len("func 0 256\n")
	short := 0
	for f, more := 0, true; more; {
		if len(m.Funcs[f].Blocks) == api.MaxBlocks {
			m.Funcs, f = append(m.Funcs, api.Func{Regs: 256}), f+1
			left -= len("func 0 256\n")
		}
		left -= len("block\nret 0\n")
		b := api.Block{End: api.End{Kind: api.Ret}}
		for len(b.Ins) < api.MaxIns && left > 0 {
			b.Ins = append(b.Ins, api.Ins{Op: api.Const, Dst: 255, K: 65535})
			left -= len("const 255 65535\n")
		}
		m.Funcs[f].Blocks = append(m.Funcs[f].Blocks, b)
		short, more = -left, left > 0
	}
	// What is too much by now goes from the first block's lines, one digit of K at a time.
	ins := m.Funcs[0].Blocks[0].Ins
	for i := 0; short > 0; i++ {
		for ; short > 0 && ins[i].K > 9; short-- {
			ins[i].K /= 10
		}
	}
	if !shape.Right(m) {
		t.Fatalf("the module of %d bytes may not be", bytes)
	}
	return m
}

func TestTheLongestText(t *testing.T) {
	for _, n := range []int{api.MaxText - 2, api.MaxText - 1, api.MaxText} {
		m := textOf(t, n)
		text, err := Show(m)
		if len(text) != n || err != api.OK {
			t.Errorf("%d bytes and %d, not %d", len(text), err, n)
		}
		if text != moduleText(m) {
			t.Errorf("%d bytes, but not the text", n)
		}
	}
	for _, n := range []int{api.MaxText + 1, api.MaxText + 2, api.MaxText + 1000, 2 * api.MaxText, 10 * api.MaxText} {
		m := textOf(t, n)
		if got := len(moduleText(m)); got != n {
			t.Fatalf("the module has a text of %d bytes, not %d", got, n)
		}
		checkRefused(t, fmt.Sprint(n, " bytes"), m, api.ErrLong)
	}
}

// One that may not be is refused as such, be it ever so long.
func TestMayNotBeIsNamedAheadOfTooLong(t *testing.T) {
	m := textOf(t, 2*api.MaxText)
	m.Funcs[len(m.Funcs)-1].Blocks[0].End.Kind = 0
	checkRefused(t, "too long, and may not be", m, api.ErrArg)
	m = textOf(t, api.MaxText+1)
	m.Funcs[0].Blocks[0].Ins[api.MaxIns-1].B = 1
	checkRefused(t, "one byte too long, and may not be", m, api.ErrArg)
}

// greatest is as long as a module that may be can get.
func greatest() api.Module {
	args := []int{255, 254, 253, 252, 251, 250, 249, 248}
	var m api.Module
	for n := range api.MaxFuncs {
		f := api.Func{Params: api.MaxArgs, Regs: api.MaxRegs}
		if n == 0 {
			f.Params = 0
		}
		for b := range api.MaxBlocks {
			block := api.Block{End: api.End{Kind: api.Invoke, Dst: 255, F: 15, Args: args, To: 0, Pad: 63}}
			if b > 0 {
				block.Landing = true
				block.Pad = api.Pad{Dst: 255, Catch: []uint16{65535, 65534, 65533, 65532, 65531, 65530, 65529, 65528}, All: true, Cleanup: true}
			}
			for range api.MaxIns {
				block.Ins = append(block.Ins, api.Ins{Op: api.Call, Dst: 255, F: 15, Args: args})
			}
			f.Blocks = append(f.Blocks, block)
		}
		m.Funcs = append(m.Funcs, f)
	}
	return m
}

func TestTheGreatestModuleIsTooLong(t *testing.T) {
	m := greatest()
	if !shape.Right(m) {
		t.Fatal("it may not be")
	}
	checkRefused(t, "the greatest module", m, api.ErrLong)
}

// padLine, blockText and moduleText say the chapter's lines over again, by other means.
func padLine(p api.Pad) string {
	words := []string{"pad", fmt.Sprint(p.Dst)}
	for i, n := range p.Catch {
		if i == 0 {
			words = append(words, "catch")
		}
		words = append(words, fmt.Sprint(n))
	}
	if p.All {
		words = append(words, "all")
	}
	if p.Cleanup {
		words = append(words, "cleanup")
	}
	return strings.Join(words, " ")
}

func blockText(b api.Block) []string {
	lines := []string{"block"}
	if b.Landing {
		lines[0] = padLine(b.Pad)
	}
	for _, x := range b.Ins {
		lines = append(lines, insLine(x))
	}
	return append(lines, endLine(b.End))
}

func moduleText(m api.Module) string {
	var lines []string
	for _, f := range m.Funcs {
		lines = append(lines, fmt.Sprintf("func %d %d", f.Params, f.Regs))
		for _, b := range f.Blocks {
			lines = append(lines, blockText(b)...)
		}
	}
	return strings.Join(lines, "\n") + "\n"
}

// parts calls do at each number, truth and list of a module, with its path.
func parts(m *api.Module, do func(path string, v reflect.Value)) {
	walk("Module", reflect.ValueOf(m).Elem(), do)
}

func walk(path string, v reflect.Value, do func(path string, v reflect.Value)) {
	switch v.Kind() {
	case reflect.Struct:
		for i := range v.NumField() {
			walk(path+"."+v.Type().Field(i).Name, v.Field(i), do)
		}
	case reflect.Slice:
		for i := range v.Len() {
			walk(fmt.Sprintf("%s[%d]", path, i), v.Index(i), do)
		}
		do(path, v)
	default:
		do(path, v)
	}
}

// others are what is tried in v's stead, so that the module differs in one thing alone.
func others(v reflect.Value) []reflect.Value {
	var list []reflect.Value
	switch v.Kind() {
	case reflect.Bool:
		list = append(list, reflect.ValueOf(!v.Bool()))
	case reflect.Int:
		for n := range 14 {
			list = append(list, reflect.ValueOf(n))
		}
		list = append(list, reflect.ValueOf(100), reflect.ValueOf(255), reflect.ValueOf(256))
	case reflect.Uint16:
		for _, n := range []uint16{0, 1, 6, 9, 10, 99, 100, 255, 257, 6553, 32768, 65534, 65535} {
			list = append(list, reflect.ValueOf(n))
		}
	case reflect.Slice:
		list = otherLists(v)
	}
	return list
}

func otherLists(v reflect.Value) []reflect.Value {
	list := []reflect.Value{reflect.Zero(v.Type())}
	if v.Len() == 0 {
		return append(list, reflect.MakeSlice(v.Type(), 0, 3), reflect.MakeSlice(v.Type(), 1, 1))
	}
	turned := reflect.MakeSlice(v.Type(), v.Len(), v.Len())
	for i := range v.Len() {
		turned.Index(i).Set(v.Index(v.Len() - 1 - i))
	}
	longer := func(x reflect.Value) reflect.Value {
		whole := reflect.AppendSlice(reflect.MakeSlice(v.Type(), 0, v.Len()+1), v)
		return reflect.Append(whole, x)
	}
	return append(list, v.Slice(0, v.Len()-1), v.Slice(1, v.Len()), turned,
		longer(v.Index(0)), longer(v.Index(v.Len()-1)), longer(reflect.Zero(v.Type().Elem())))
}

// byOneThing is the example, changed in one thing each time, where that may be.
func byOneThing() map[string]api.Module {
	found := map[string]api.Module{"as it was": example()}
	m := example()
	parts(&m, func(path string, v reflect.Value) {
		old := reflect.New(v.Type()).Elem()
		old.Set(v)
		for i, other := range others(v) {
			v.Set(other)
			if shape.Right(m) {
				found[fmt.Sprint(path, " by ", i)] = shape.Copy(m)
			}
		}
		v.Set(old)
	})
	return found
}

func TestTextsAreTheSameJustWhereModulesAre(t *testing.T) {
	found := byOneThing()
	texts := map[string]string{}
	for name, m := range found {
		text, err := Show(m)
		if err != api.OK || text != moduleText(m) {
			t.Fatalf("%s: told as %q, %d", name, text, err)
		}
		texts[name] = text
	}
	unlike := 0
	for a, m := range found {
		for b, n := range found {
			if (texts[a] == texts[b]) != shape.Same(m, n) {
				t.Errorf("%s and %s: same texts %v, same modules %v", a, b, texts[a] == texts[b], shape.Same(m, n))
			}
			if texts[a] != texts[b] {
				unlike++
			}
		}
	}
	if len(found) < 400 || unlike < 100000 {
		t.Errorf("only %d modules, only %d pairs that differ", len(found), unlike)
	}
}

func TestOneThingAloneIsTold(t *testing.T) {
	for _, c := range []struct {
		name   string
		change func(m *api.Module)
	}{
		{"a place", func(m *api.Module) { m.Funcs[0].Blocks[0].Ins[1].A = 10 }},
		{"a number", func(m *api.Module) { m.Funcs[0].Blocks[0].Ins[0].K = 65534 }},
		{"an Op", func(m *api.Module) { m.Funcs[0].Blocks[0].Ins[2].Op = api.Eq }},
		{"a Kind", func(m *api.Module) { m.Funcs[0].Blocks[4].End.Kind = api.Throw }},
		{"a goal", func(m *api.Module) { m.Funcs[0].Blocks[1].End.Else = 0 }},
		{"both goals", func(m *api.Module) { m.Funcs[0].Blocks[1].End.To, m.Funcs[0].Blocks[1].End.Else = 8, 2 }},
		{"an invoke's Pad", func(m *api.Module) { m.Funcs[0].Blocks[0].End.Pad = 4 }},
		{"an invoke's function", func(m *api.Module) { m.Funcs[0].Blocks[8].End.F, m.Funcs[0].Blocks[8].End.Args = 0, nil }},
		{"an argument", func(m *api.Module) { m.Funcs[0].Blocks[0].End.Args[2] = 11 }},
		{"arguments turned", func(m *api.Module) { m.Funcs[0].Blocks[0].Ins[12].Args = []int{2, 1, 3} }},
		{"a pad's place", func(m *api.Module) { m.Funcs[0].Blocks[6].Pad.Dst = 3 }},
		{"a pad's number", func(m *api.Module) { m.Funcs[0].Blocks[6].Pad.Catch[1] = 1 }},
		{"a pad's numbers turned", func(m *api.Module) { m.Funcs[0].Blocks[6].Pad.Catch = []uint16{0, 65535, 256} }},
		{"a pad's number less", func(m *api.Module) { m.Funcs[0].Blocks[6].Pad.Catch = []uint16{65535, 0} }},
		{"two numbers as one", func(m *api.Module) { m.Funcs[0].Blocks[7].Pad.Catch = []uint16{12, 3, 4, 5, 6, 7, 8} }},
		{"All", func(m *api.Module) { m.Funcs[0].Blocks[6].Pad.All = false }},
		{"Cleanup", func(m *api.Module) { m.Funcs[0].Blocks[6].Pad.Cleanup = false }},
		{"Landing", func(m *api.Module) { m.Funcs[0].Blocks[5].Landing, m.Funcs[0].Blocks[5].Pad = false, api.Pad{} }},
		{"Regs", func(m *api.Module) { m.Funcs[0].Regs = 13 }},
		{"Params", func(m *api.Module) { m.Funcs = append(m.Funcs, m.Funcs[1]); m.Funcs[3].Params = 0 }},
		{"an instruction more", func(m *api.Module) { m.Funcs[0].Blocks[2].Ins = []api.Ins{{Op: api.Out}, {Op: api.Out}} }},
		{"an instruction less", func(m *api.Module) { m.Funcs[0].Blocks[2].Ins = nil }},
		{"a block more", func(m *api.Module) { m.Funcs[2].Blocks = append(m.Funcs[2].Blocks, m.Funcs[2].Blocks[1]) }},
		{"a function more", func(m *api.Module) { m.Funcs = append(m.Funcs, m.Funcs[1]) }},
		{"instructions of the one block or the other", func(m *api.Module) {
			m.Funcs[0].Blocks[1].Ins, m.Funcs[0].Blocks[2].Ins = m.Funcs[0].Blocks[2].Ins, nil
		}},
	} {
		m := example()
		c.change(&m)
		text, err := Show(m)
		if err != api.OK || text != moduleText(m) {
			t.Fatalf("%s: told as %q, %d", c.name, text, err)
		}
		if text == exampleText {
			t.Errorf("%s: the text is the same", c.name)
		}
	}
}

func TestACopyHasTheSameText(t *testing.T) {
	for _, build := range []func() api.Module{small, example, func() api.Module { return textOf(t, api.MaxText) }} {
		want, _ := Show(build())
		checkShow(t, shape.Copy(build()), want)
	}
}

func TestEmptyListsAreToldAsNone(t *testing.T) {
	m := example()
	parts(&m, func(_ string, v reflect.Value) {
		if v.Kind() == reflect.Slice && v.Len() == 0 {
			v.Set(reflect.MakeSlice(v.Type(), 0, 3))
		}
	})
	checkShow(t, m, exampleText)
}

// roomy gives each list of a module spare room, with something in it.
func roomy(m *api.Module) {
	parts(m, func(_ string, v reflect.Value) {
		if v.Kind() == reflect.Slice && v.Len() > 0 {
			list := reflect.AppendSlice(reflect.MakeSlice(v.Type(), 0, v.Len()+9), v)
			reflect.Append(list, v.Index(0))
			v.Set(list)
		}
	})
}

// spareRoom is what a module's lists hold in their spare room.
func spareRoom(m api.Module) []any {
	var all []any
	parts(&m, func(_ string, v reflect.Value) {
		if v.Kind() == reflect.Slice {
			whole := v.Slice(0, v.Cap())
			all = append(all, reflect.AppendSlice(reflect.Zero(v.Type()), whole.Slice(v.Len(), v.Cap())).Interface())
		}
	})
	return all
}

func TestShowChangesNothing(t *testing.T) {
	m := example()
	roomy(&m)
	spare := spareRoom(m)
	checkShow(t, m, exampleText)
	if !reflect.DeepEqual(m, example()) || !reflect.DeepEqual(spareRoom(m), spare) {
		t.Error("the module was changed")
	}
}
