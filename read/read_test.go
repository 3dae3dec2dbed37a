package read

import (
	"math/rand/v2"
	"reflect"
	"regexp"
	"strings"
	"testing"

	"davit/api"
	"davit/shape"
	"davit/show"
)

// exampleText has each kind of line, calls with no, one and more Args, and pads with each of catch, all and cleanup.
const exampleText = `func 0 12
block
const 1 65535
copy 2 1
add 3 1 2
sub 3 2 1
mul 0 1 1
div 1 2 3
eq 2 3 0
lt 10 11 9
load 1 0
store 1 2
call 1 0
call 2 1 11
call 3 2 3 1 2
out 3
in 2
invoke 1 2 1 3 2 0 1
block
branch 1 2 6
block
out 0
jump 0
pad 11 catch 7
throw 11
pad 1 all
in 0
ret 1
pad 2 catch 65535 0 256 all cleanup
resume
block
invoke 0 1 6 4 3
func 1 1
block
ret 0
func 3 256
block
invoke 255 0 0 1
pad 3 cleanup
ret 255
`

func example() api.Module {
	first := api.Func{Regs: 12, Blocks: []api.Block{
		{Ins: []api.Ins{
			{Op: api.Const, Dst: 1, K: 65535}, {Op: api.Copy, Dst: 2, A: 1},
			{Op: api.Add, Dst: 3, A: 1, B: 2}, {Op: api.Sub, Dst: 3, A: 2, B: 1}, {Op: api.Mul, Dst: 0, A: 1, B: 1},
			{Op: api.Div, Dst: 1, A: 2, B: 3}, {Op: api.Eq, Dst: 2, A: 3, B: 0}, {Op: api.Lt, Dst: 10, A: 11, B: 9},
			{Op: api.Load, Dst: 1, A: 0}, {Op: api.Store, A: 1, B: 2},
			{Op: api.Call, Dst: 1, F: 0}, {Op: api.Call, Dst: 2, F: 1, Args: []int{11}}, {Op: api.Call, Dst: 3, F: 2, Args: []int{3, 1, 2}},
			{Op: api.Out, A: 3}, {Op: api.In, Dst: 2},
		}, End: api.End{Kind: api.Invoke, Dst: 1, F: 2, Args: []int{2, 0, 1}, To: 1, Pad: 3}},
		{End: api.End{Kind: api.Branch, A: 1, To: 2, Else: 6}},
		{Ins: []api.Ins{{Op: api.Out, A: 0}}, End: api.End{Kind: api.Jump, To: 0}},
		{Landing: true, Pad: api.Pad{Dst: 11, Catch: []uint16{7}}, End: api.End{Kind: api.Throw, A: 11}},
		{Landing: true, Pad: api.Pad{Dst: 1, All: true}, Ins: []api.Ins{{Op: api.In}}, End: api.End{Kind: api.Ret, A: 1}},
		{Landing: true, Pad: api.Pad{Dst: 2, Catch: []uint16{65535, 0, 256}, All: true, Cleanup: true}, End: api.End{Kind: api.Resume}},
		{End: api.End{Kind: api.Invoke, Dst: 0, F: 1, Args: []int{3}, To: 6, Pad: 4}},
	}}
	second := api.Func{Params: 1, Regs: 1, Blocks: []api.Block{{End: api.End{Kind: api.Ret}}}}
	third := api.Func{Params: 3, Regs: 256, Blocks: []api.Block{
		{End: api.End{Kind: api.Invoke, Dst: 255, To: 0, Pad: 1}},
		{Landing: true, Pad: api.Pad{Dst: 3, Cleanup: true}, End: api.End{Kind: api.Ret, A: 255}},
	}}
	return api.Module{Funcs: []api.Func{first, second, third}}
}

const smallText = "func 0 1\nblock\nret 0\n"

func checkRead(t *testing.T, text string, want api.Module) {
	t.Helper()
	m, err, line := Read(text)
	if !shape.Same(m, want) || err != api.OK || line != 0 {
		t.Errorf("%.200q: read as %+v, %d, %d", text, m, err, line)
	}
}

func checkRefused(t *testing.T, text string, wantErr api.Errno, wantLine int) {
	t.Helper()
	m, err, line := Read(text)
	if len(m.Funcs) != 0 || err != wantErr || line != wantLine {
		t.Errorf("%.200q (%d bytes): %d functions, %d, %d, not %d, %d", text, len(text), len(m.Funcs), err, line, wantErr, wantLine)
	}
}

func TestRead(t *testing.T) {
	checkRead(t, smallText, api.Module{Funcs: []api.Func{{Regs: 1, Blocks: []api.Block{{End: api.End{Kind: api.Ret}}}}}})
	checkRead(t, "func 0 0\nblock\nresume\n", api.Module{Funcs: []api.Func{{Blocks: []api.Block{{End: api.End{Kind: api.Resume}}}}}})
	checkRead(t, exampleText, example())
}

func TestReadWhatMayNotStandWhereItIs(t *testing.T) {
	for _, c := range []struct {
		text string
		line int
	}{
		{"block\n", 1}, {"out 0\n", 1}, {"ret 0\n", 1}, {"pad 0 all\n", 1}, {"resume\n", 1},
		{"block\nret 0\nfunc 0 1\n", 1},
		{"func 0 1\nfunc 0 1\n", 2}, {"func 0 1\nout 0\n", 2}, {"func 0 1\nret 0\n", 2},
		{"func 0 1\nblock\nfunc 0 1\n", 3}, {"func 0 1\nblock\nblock\n", 3}, {"func 0 1\nblock\npad 0 all\n", 3},
		{"func 0 1\nblock\nret 0\npad 0 all\nfunc 0 1\n", 5}, {"func 0 1\nblock\nret 0\npad 0 all\nblock\n", 5},
		{"func 0 1\nblock\nret 0\npad 0 all\npad 0 all\n", 5},
		{"func 0 1\nblock\nout 0\nblock\n", 4}, {"func 0 1\nblock\nout 0\npad 0 all\n", 4}, {"func 0 1\nblock\nout 0\nfunc 0 1\n", 4},
		{smallText + "out 0\n", 4}, {smallText + "ret 0\n", 4}, {smallText + "resume\n", 4}, {smallText + "const 0 1\nret 0\n", 4},
	} {
		checkRefused(t, c.text, api.ErrName, c.line)
		checkRefused(t, c.text+"ret 0", api.ErrName, c.line)
		checkRefused(t, c.text+smallText, api.ErrName, c.line)
	}
}

func TestReadWordsThatAreNone(t *testing.T) {
	lines := strings.SplitAfter(exampleText, "\n")
	lines = lines[:len(lines)-1]
	for i := range lines {
		head, tail := strings.Join(lines[:i], ""), strings.Join(lines[i:], "")
		for _, line := range []string{
			"", " ", " " + strings.TrimSuffix(lines[i], "\n"), "x", "x 1 2", "0", "function 0 1", "func0 1", "Func 0 1", "FUNC 0 1", "func\t0 1", "\tfunc 0 1",
			"blocks", "block\t", "block\r", "Block", "bloc", "pads 0 all", "pad\t0 all", "cleanup", "catch 1", "all", "nop", "const1 2", "resume\r", "resume\t", "rets 0", "# why", "\x00", "\xff",
		} {
			checkRefused(t, head+line+"\n"+tail, api.ErrName, i+1)
			checkRefused(t, head+line+"\n", api.ErrName, i+1)
		}
	}
	for _, text := range []string{"\n", "\n\n", " \n", "\n" + exampleText, "x\n", "\r\n"} {
		checkRefused(t, text, api.ErrName, 1)
	}
	checkRefused(t, exampleText+"\n", api.ErrName, 40+1)
	checkRefused(t, exampleText+"\n\n", api.ErrName, 40+1)
	checkRefused(t, strings.ReplaceAll(smallText, "\n", "\r\n"), api.ErrForm, 1)
	checkRefused(t, strings.ReplaceAll("func 0 1\nblock\nresume\n", "\nblock\n", "\nblock\r\n"), api.ErrName, 2)
}

// Of each class lines that stand where they may, and have its word, but are none.
func TestReadLinesThatAreNone(t *testing.T) {
	for _, c := range []struct {
		ahead string
		lines []string
	}{
		{"", []string{
			"func", "func ", "func 0", "func 0 ", "func 0 1 ", "func 0 1 2", "func  0 1", "func 0  1", "func -1 1", "func 0 -1", "func +0 1", "func 00 1", "func 0 01",
			"func 65536 1", "func 0 65536", "func 70000 70000", "func x 1", "func 0 x", "func 0 1\t", "func 0 1\r", "func 0, 1", "func 0 1x", "func 0 18446744073709551617",
			"func 0 1 2 3 4 5 6 7 8 9 10 11 12 13 14",
		}},
		{"func 0 1\n", []string{
			"block ", "block 1", "block block", "block  ", "pad", "pad ", "pad x", "pad 0 catch", "pad 0 catch all", "pad 0 all catch 1", "pad 0 cleanup all", "pad 0 all ", "pad 0  all",
			"pad -1 all", "pad 65536 all", "pad 0 catch 65536", "pad 0 catch -1", "pad 0 catch 01", "pad 0 catch 1 2 3 4 5 6 7 8 9", "pad 0 any", "pad 0 all\r",
		}},
		{"func 0 1\nblock\n", []string{
			"const", "const 0", "const 0 65536", "const 0 -1", "const 0 1 2", "const 0 01", "const 0 1 ", "const  0 1", "copy 0", "add 0 0", "add 0 0 0 0", "lt 0 0 x", "load 0", "store 0", "store 0 0 0",
			"call", "call 0", "call 0 0 ", "call 0 0 0 0 0 0 0 0 0 0 0", "out", "out 0 0", "out +0", "in", "in 0 0", "in 0\r",
			"ret", "ret ", "ret 0 ", "ret 0 0", "ret -0", "jump", "jump 0 0", "branch 0 0", "branch 0 0 0 0", "invoke 0 0 0", "invoke 0 0 0 0 0 0 0 0 0 0 0 0 0", "throw", "resume ", "resume 0",
		}},
		{"func 0 1\nblock\nout 0\n", []string{"const 0", "ret 65536"}},
		{"func 0 1\nblock\nret 0\npad 0 all\n", []string{"const 0", "ret 65536"}},
		{smallText, []string{"func 0", "func 1 65536", "block ", "block 0", "pad 0 catch", "pad 0 1"}},
	} {
		line := strings.Count(c.ahead, "\n") + 1
		for _, bad := range c.lines {
			for _, behind := range []string{"", "\n", "x\n", "x", "block\nret 0\n", "ret 0\n", smallText} {
				checkRefused(t, c.ahead+bad+"\n"+behind, api.ErrForm, line)
			}
		}
	}
}

func TestReadTheEarlierOfTwoErrors(t *testing.T) {
	for _, c := range []struct {
		text string
		err  api.Errno
		line int
	}{
		{"func 0\nblock x\nret\n", api.ErrForm, 1},
		{"func 0\nnone\n", api.ErrForm, 1},
		{"none\nfunc 0\n", api.ErrName, 1},
		{"func 0 1\nblock\nout\nnone\n", api.ErrForm, 3},
		{"func 0 1\nblock\nnone\nout\n", api.ErrName, 3},
		{"func 0 1\nblock\nret\nret 0\n", api.ErrForm, 3},
		{"func 0 1\nblock\nret 0\nret\nnone\n", api.ErrName, 4},
		{"func 0 1\nblock x\n\n", api.ErrForm, 2},
		{"func 0 1\n\nblock x\n", api.ErrName, 2},
		// Where one line is both, it is the word that is told.
		{"block x\n", api.ErrName, 1},
		{"ret\n", api.ErrName, 1},
		{"const 0 65536\n", api.ErrName, 1},
		{"func 0 1\nout\n", api.ErrName, 2},
		{"func 0 1\nfunc 0\n", api.ErrName, 2},
		{"func 0 1\nblock\nblock x\n", api.ErrName, 3},
		{"func 0 1\nblock\npad\n", api.ErrName, 3},
		{"func 0 1\nblock\nfunc -1 1\n", api.ErrName, 3},
		{smallText + "resume 1\n", api.ErrName, 4},
		{smallText + "call 0\n", api.ErrName, 4},
		// What is wrong with a line that has a newline is told ahead of the last line, that ahead of the module.
		{"func 0 1\nblock\nout x\nret 0", api.ErrForm, 3},
		{"func 0 1\nblock\nnone\nret 0", api.ErrName, 3},
		{"func 1 0\nblock\nret 5\nx", api.ErrForm, 4},
		{"func 1 0\nblock\nret 5\nblock\n", api.ErrForm, 5},
		{"func 1 0\nblock\nret 5\nx\n", api.ErrName, 4},
		{"func 1 0\nblock\nret 5\nblock x\n", api.ErrForm, 4},
		{"func 1 0\nblock\nret 5\n", api.ErrArg, 0},
	} {
		checkRefused(t, c.text, c.err, c.line)
	}
}

func TestReadTheLastLine(t *testing.T) {
	for _, c := range []struct {
		text string
		line int
	}{
		{"", 1}, {" ", 1}, {"x", 1}, {"block", 1}, {"func 0 1", 1}, {"ret 0", 1}, {"\t", 1}, {"\x00", 1},
		{"func 0 1\n", 2}, {"func 0 1\nblock", 2}, {"func 0 1\nnone", 2}, {"func 0 1\nfunc 0 1", 2},
		{"func 0 1\nblock\n", 3}, {"func 0 1\nblock\nret 0", 3}, {"func 0 1\nblock\nret", 3}, {"func 0 1\npad 0 all\n", 3},
		{"func 0 1\nblock\nout 0\n", 4}, {"func 0 1\nblock\nout 0\nret 0", 4},
		{smallText + "x", 4}, {smallText + " ", 4}, {smallText + "\t", 4}, {smallText + "\x00", 4}, {smallText + "\r", 4}, {smallText + "block", 4}, {smallText + "func 0 1", 4}, {smallText + "ret 0", 4},
		{smallText + "func 0 1\n", 5}, {smallText + "block\n", 5}, {smallText + "pad 0 all\n", 5}, {smallText + "block\nin 0\n", 6},
		{exampleText + "x", 41}, {strings.TrimSuffix(exampleText, "\n"), 40},
	} {
		checkRefused(t, c.text, api.ErrForm, c.line)
	}
	checkRefused(t, "block\n", api.ErrName, 1)
}

func repeat(head, part string, count int, tail string) string {
	return head + strings.Repeat(part, count) + tail
}

func TestReadModulesThatMayNotBe(t *testing.T) {
	for _, text := range []string{
		"func 1 1\nblock\nret 0\n", "func 0 0\nblock\nret 0\n", "func 0 1\nblock\nret 1\n", "func 0 1\nblock\nret 65535\n",
		"func 0 257\nblock\nret 0\n", "func 0 65535\nblock\nret 0\n", "func 65535 65535\nblock\nret 0\n", smallText + "func 9 9\nblock\nret 0\n", smallText + "func 2 1\nblock\nret 0\n",
		"func 0 1\npad 0 all\nret 0\n", "func 0 1\nblock\njump 1\n", "func 0 1\nblock\njump 65535\n", "func 0 1\nblock\njump 1\npad 0 all\nresume\n",
		"func 0 1\nblock\ncall 0 1\nret 0\n", "func 0 1\nblock\ncall 0 0 0\nret 0\n", "func 0 1\nblock\ninvoke 0 0 0 0\n",
		"func 0 1\nblock\nret 0\npad 0\nresume\n", "func 0 1\nblock\nret 0\npad 0 catch 5 5\nresume\n", "func 0 1\nblock\nret 0\npad 1 all\nresume\n",
		"func 0 1\nblock\nconst 1 0\nret 0\n", "func 0 1\nblock\nstore 0 1\nret 0\n",
		repeat("", smallText, api.MaxFuncs+1, ""), repeat("", smallText, 3000, ""),
		repeat("func 0 1\n", "block\nret 0\n", api.MaxBlocks+1, ""), repeat("func 0 1\n", "block\nret 0\n", 5000, ""),
		repeat("func 0 1\n", "block\nret 0\n", api.MaxBlocks, "pad 0 all\nret 0\n"),
		repeat("func 0 1\nblock\n", "in 0\n", api.MaxIns+1, "ret 0\n"), repeat("func 0 1\nblock\n", "in 0\n", 13000, "ret 0\n"),
	} {
		checkRefused(t, text, api.ErrArg, 0)
	}
}

func TestReadAsMuchAsMayBe(t *testing.T) {
	ret := api.End{Kind: api.Ret}
	small := api.Func{Regs: 1, Blocks: []api.Block{{End: ret}}}
	var m api.Module
	for range api.MaxFuncs {
		m.Funcs = append(m.Funcs, small)
	}
	checkRead(t, repeat("", smallText, api.MaxFuncs, ""), m)

	many := api.Func{Regs: 256}
	for range api.MaxBlocks {
		many.Blocks = append(many.Blocks, api.Block{End: ret})
	}
	checkRead(t, repeat("func 0 256\n", "block\nret 0\n", api.MaxBlocks, ""), api.Module{Funcs: []api.Func{many}})

	long := api.Func{Regs: 1, Blocks: []api.Block{{End: ret}}}
	for range api.MaxIns {
		long.Blocks[0].Ins = append(long.Blocks[0].Ins, api.Ins{Op: api.In})
	}
	checkRead(t, repeat("func 0 1\nblock\n", "in 0\n", api.MaxIns, "ret 0\n"), api.Module{Funcs: []api.Func{long}})

	args := []int{7, 6, 5, 4, 3, 2, 1, 0}
	full := api.Func{Params: 8, Regs: 8, Blocks: []api.Block{
		{Ins: []api.Ins{{Op: api.Call, Dst: 7, F: 1, Args: args}}, End: api.End{Kind: api.Invoke, F: 1, Args: args, Pad: 1}},
		{Landing: true, Pad: api.Pad{Catch: []uint16{1, 2, 3, 4, 5, 6, 7, 8}}, End: api.End{Kind: api.Resume}},
	}}
	checkRead(t, smallText+"func 8 8\nblock\ncall 7 1 7 6 5 4 3 2 1 0\ninvoke 0 1 0 1 7 6 5 4 3 2 1 0\npad 0 catch 1 2 3 4 5 6 7 8\nresume\n",
		api.Module{Funcs: []api.Func{small, full}})
}

// textOf is a right text of just so many bytes.
func textOf(t *testing.T, bytes int) string {
	t.Helper()
	const head, tail, line = "func 0 256\n", "ret 0\n", "const 255 65535\n"
	full := "block\n" + strings.Repeat(line, 56) + tail
	var text strings.Builder
	text.WriteString(head)
	for b := 1; text.Len()+len(full)+len("block\nin 0\n"+tail+head) <= bytes; b++ {
		text.WriteString(full)
		if b%(api.MaxBlocks-1) == 0 {
			text.WriteString(head)
		}
	}
	// The last block's lines are so long that they fill what is left.
	text.WriteString("block\n")
	left := bytes - text.Len() - len(tail)
	for ; left > 2*len(line); left -= len(line) {
		text.WriteString(line)
	}
	for ; left > len(line); left -= len("in 0\n") {
		text.WriteString("in 0\n")
	}
	text.WriteString(fit[left] + tail)
	if text.Len() != bytes {
		t.Fatalf("a text of %d bytes, not %d", text.Len(), bytes)
	}
	return text.String()
}

// fit has lines of so many bytes together, for the last ones of textOf.
var fit = map[int]string{
	5: "in 0\n", 6: "in 10\n", 7: "in 100\n", 8: "out 100\n", 9: "load 1 1\n", 10: "in 0\nin 0\n",
	11: "in 10\nin 0\n", 12: "in 10\nin 10\n", 13: "const 255 10\n", 14: "const 255 100\n", 15: "const 255 1000\n", 16: "const 255 10000\n",
}

func TestReadTheLongestText(t *testing.T) {
	for _, n := range []int{api.MaxText - 20, api.MaxText - 1, api.MaxText} {
		text := textOf(t, n)
		m, err, line := Read(text)
		if err != api.OK || line != 0 {
			t.Fatalf("%d bytes: %d, %d", n, err, line)
		}
		if back, err := show.Show(m); back != text || err != api.OK {
			t.Errorf("%d bytes: shown as another text, %d", n, err)
		}
	}
	for _, n := range []int{api.MaxText + 1, api.MaxText + 2, 2 * api.MaxText} {
		checkRefused(t, textOf(t, n), api.ErrLong, 0)
	}
}

// What is too long is told ahead of all else; what isn't, is not.
func TestReadTooLongIsToldFirst(t *testing.T) {
	for _, part := range []string{"x", "\n", " ", "0", "block\n", "func 0\n", smallText} {
		long := strings.Repeat(part, api.MaxText+1)
		checkRefused(t, long[:api.MaxText+1], api.ErrLong, 0)
		checkRefused(t, "func 0 1\nblock\nret\n"+long, api.ErrLong, 0)
		checkRefused(t, smallText+long[:api.MaxText-len(smallText)+1], api.ErrLong, 0)
	}
	checkRefused(t, strings.Repeat("x", 1<<24), api.ErrLong, 0)
	checkRefused(t, strings.Repeat("x", api.MaxText), api.ErrForm, 1)
	checkRefused(t, strings.Repeat("\n", api.MaxText), api.ErrName, 1)
	checkRefused(t, strings.Repeat("0", api.MaxText-1)+"\n", api.ErrName, 1)
	checkRefused(t, "func 0 1\nblock\nret 0\n"+strings.Repeat(" ", api.MaxText-21), api.ErrForm, 4)
	checkRefused(t, "func 0 1\nblock\nret "+strings.Repeat("0", api.MaxText-20)+"\n", api.ErrForm, 3)
	checkRefused(t, "func "+strings.Repeat(" ", api.MaxText-6)+"\n", api.ErrForm, 1)
	text := textOf(t, api.MaxText)
	checkRefused(t, text[:api.MaxText-1], api.ErrForm, strings.Count(text, "\n"))
	checkRefused(t, text[:api.MaxText-2]+"x\n", api.ErrForm, strings.Count(text, "\n"))
	checkRefused(t, text[1:]+"\n", api.ErrName, 1)
}

// wantRead says the chapter over again: lines by their forms, and what may stand where by pairs of words' letters.
func wantRead(text string) (api.Module, api.Errno, int) {
	if len(text) > 65536 {
		return api.Module{}, api.ErrLong, 0
	}
	lines := strings.Split(text, "\n")
	last := len(lines) - 1
	var m api.Module
	before := "^"
	for i, line := range lines[:last] {
		word := strings.Split(line, " ")[0]
		letter := letterOf(word)
		if letter == "" || !strings.Contains(" ^F FB FP BI BE PI PE II IE EF EB EP ", " "+before+letter+" ") {
			return api.Module{}, api.ErrName, i + 1
		}
		if !wantLine(&m, line, letter) {
			return api.Module{}, api.ErrForm, i + 1
		}
		before = letter
	}
	if lines[last] != "" || before != "E" {
		return api.Module{}, api.ErrForm, last + 1
	}
	if !shape.Right(m) {
		return api.Module{}, api.ErrArg, 0
	}
	return m, api.OK, 0
}

func letterOf(word string) string {
	if _, is := insByWord[word]; is {
		return "I"
	}
	if _, is := endByWord[word]; is {
		return "E"
	}
	return map[string]string{"func": "F", "block": "B", "pad": "P"}[word]
}

var funcShape = regexp.MustCompile(`\Afunc (` + aNumber + `) (` + aNumber + `)\z`)

func wantLine(m *api.Module, line, letter string) bool {
	if letter == "F" {
		found := funcShape.FindStringSubmatch(line)
		if found != nil {
			m.Funcs = append(m.Funcs, api.Func{Params: atoi(found[1]), Regs: atoi(found[2])})
		}
		return found != nil
	}
	f := &m.Funcs[len(m.Funcs)-1]
	if letter == "B" {
		f.Blocks = append(f.Blocks, api.Block{})
		return line == "block"
	}
	if letter == "P" {
		p, ok := wantPad(line)
		f.Blocks = append(f.Blocks, api.Block{Landing: true, Pad: p})
		return ok
	}
	b := &f.Blocks[len(f.Blocks)-1]
	ok := false
	if letter == "I" {
		var x api.Ins
		x, ok = wantIns(line)
		b.Ins = append(b.Ins, x)
	} else {
		b.End, ok = wantEnd(line)
	}
	return ok
}

// checkText holds Read against the chapter, said over again, and what was read against its text.
func checkText(t *testing.T, text string) api.Errno {
	t.Helper()
	m, err, line := Read(text)
	want, wantErr, wantLine := wantRead(text)
	if !shape.Same(m, want) || err != wantErr || line != wantLine {
		t.Errorf("%q: %+v, %d, %d, not %+v, %d, %d", text, m, err, line, want, wantErr, wantLine)
	}
	if err == api.OK {
		if back, e := show.Show(m); back != text || e != api.OK {
			t.Errorf("%q: shown as %q, %d", text, back, e)
		}
	}
	return err
}

func TestTextsByOneByte(t *testing.T) {
	told := map[api.Errno]int{}
	edits(exampleText, func(text string) { told[checkText(t, text)]++ })
	for i := range len(exampleText) + 1 {
		told[checkText(t, exampleText[:i])]++
		told[checkText(t, exampleText[i:])]++
	}
	for _, err := range []api.Errno{api.OK, api.ErrArg, api.ErrForm, api.ErrName} {
		if told[err] < 50 {
			t.Errorf("%d was told only %d times", err, told[err])
		}
	}
}

func TestTextsByOneLine(t *testing.T) {
	lines := strings.SplitAfter(exampleText, "\n")
	lines = lines[:len(lines)-1]
	join := func(parts ...[]string) string {
		text := ""
		for _, part := range parts {
			text += strings.Join(part, "")
		}
		return text
	}
	more := []string{"func 0 1\n", "func 1\n", "block\n", "block 1\n", "pad 0 all\n", "pad 0 catch\n", "out 0\n", "out\n", "ret 0\n", "ret\n", "none\n", "\n", " \n"}
	for i := range lines {
		checkText(t, join(lines[:i], lines[i+1:]))
		for _, line := range append(more, lines...) {
			checkText(t, join(lines[:i], []string{line}, lines[i:]))
			checkText(t, join(lines[:i], []string{line}, lines[i+1:]))
		}
		for j := i + 1; j < len(lines); j++ {
			checkText(t, join(lines[:i], lines[j:j+1], lines[i+1:j], lines[i:i+1], lines[j+1:]))
			checkText(t, join(lines[i:j]))
		}
	}
}

// Each row of up to five lines of these, right and wrong ones of each class, with and without a newline behind the last one.
func TestTextsOfFewLines(t *testing.T) {
	lines := []string{"func 0 1", "func", "block", "block 1", "pad 0 all", "pad", "in 0", "in", "ret 0", "ret", "x", ""}
	var goOn func(text string, left int)
	goOn = func(text string, left int) {
		if left == 0 {
			return
		}
		for _, line := range lines {
			checkText(t, text+line)
			checkText(t, text+line+"\n")
			// Behind a line that is refused nothing else is told; a line more shows it.
			if _, err, n := wantRead(text + line + "\n"); err == api.OK || err == api.ErrArg || n == strings.Count(text, "\n")+2 {
				goOn(text+line+"\n", left-1)
			} else {
				checkText(t, text+line+"\nx\nfunc\n")
			}
		}
	}
	goOn("", 6)
}

// some makes modules that may be, of each kind of line, the same ones each time.
type some struct{ *rand.Rand }

func (s some) module() api.Module {
	m := api.Module{Funcs: make([]api.Func, 1+s.IntN(5))}
	for i := range m.Funcs {
		f := &m.Funcs[i]
		if i > 0 {
			f.Params = s.IntN(api.MaxArgs + 1)
		}
		f.Regs = max(f.Params, 1) + s.IntN(api.MaxRegs-api.MaxArgs)
	}
	for i := range m.Funcs {
		s.blocks(m, &m.Funcs[i])
	}
	return m
}

func (s some) blocks(m api.Module, f *api.Func) {
	var goals, pads []int
	f.Blocks = make([]api.Block, 1+s.IntN(7))
	for n := range f.Blocks {
		b := &f.Blocks[n]
		b.Landing = n > 0 && s.IntN(3) == 0
		if b.Landing {
			pads = append(pads, n)
			b.Pad = api.Pad{Dst: s.IntN(f.Regs), All: s.IntN(2) == 0, Cleanup: s.IntN(2) == 0}
			from := s.IntN(65536)
			for k := range s.IntN(api.MaxCatch + 1) {
				b.Pad.Catch = append(b.Pad.Catch, uint16(from+7919*k))
			}
			b.Pad.All = b.Pad.All || len(b.Pad.Catch) == 0 && !b.Pad.Cleanup
		} else {
			goals = append(goals, n)
		}
	}
	for n := range f.Blocks {
		b := &f.Blocks[n]
		for range s.IntN(12) {
			b.Ins = append(b.Ins, s.ins(m, *f))
		}
		b.End = s.end(m, *f, goals, pads)
	}
}

func (s some) call(m api.Module, regs int) (int, []int) {
	f := s.IntN(len(m.Funcs))
	var args []int
	for range m.Funcs[f].Params {
		args = append(args, s.IntN(regs))
	}
	return f, args
}

func (s some) ins(m api.Module, f api.Func) api.Ins {
	x := api.Ins{Op: 1 + s.IntN(api.In)}
	for _, name := range strings.Fields(insForms[x.Op])[1:] {
		switch name {
		case "Dst":
			x.Dst = s.IntN(f.Regs)
		case "A":
			x.A = s.IntN(f.Regs)
		case "B":
			x.B = s.IntN(f.Regs)
		case "K":
			x.K = uint16(s.IntN(65536) >> s.IntN(17))
		case "F":
			x.F, x.Args = s.call(m, f.Regs)
		}
	}
	return x
}

func (s some) end(m api.Module, f api.Func, goals, pads []int) api.End {
	x := api.End{Kind: 1 + s.IntN(api.Resume)}
	if x.Kind == api.Invoke && len(pads) == 0 {
		x.Kind = api.Resume
	}
	for _, name := range strings.Fields(endForms[x.Kind])[1:] {
		switch name {
		case "A":
			x.A = s.IntN(f.Regs)
		case "Dst":
			x.Dst = s.IntN(f.Regs)
		case "To":
			x.To = goals[s.IntN(len(goals))]
		case "Else":
			x.Else = goals[s.IntN(len(goals))]
		case "Pad":
			x.Pad = pads[s.IntN(len(pads))]
		case "F":
			x.F, x.Args = s.call(m, f.Regs)
		}
	}
	return x
}

func TestWhatIsShownIsReadAsItWas(t *testing.T) {
	words := map[string]int{}
	for n := range 400 {
		m := some{rand.New(rand.NewPCG(4, uint64(n)))}.module()
		text, err := show.Show(m)
		if err != api.OK {
			t.Fatalf("module %d is told as %d", n, err)
		}
		checkRead(t, text, m)
		checkText(t, text)
		for line := range strings.Lines(text) {
			words[strings.Fields(line)[0]]++
		}
	}
	if len(words) != 3+13+6 {
		t.Errorf("only %d words were told: %v", len(words), words)
	}
	checkRead(t, exampleText, example())
	if text, err := show.Show(example()); text != exampleText || err != api.OK {
		t.Errorf("the example is told as %q, %d", text, err)
	}
}

// lists calls do with each list of a module.
func lists(v reflect.Value, do func(v reflect.Value)) {
	switch v.Kind() {
	case reflect.Struct:
		for i := range v.NumField() {
			lists(v.Field(i), do)
		}
	case reflect.Slice:
		do(v)
		for i := range v.Len() {
			lists(v.Index(i), do)
		}
	}
}

// Each list of an answer, with its spare room, is no other one's.
func TestReadAnswersNewMemory(t *testing.T) {
	a, _, _ := Read(exampleText)
	b, _, _ := Read(exampleText)
	type room struct{ from, to uintptr }
	var rooms []room
	for _, m := range []*api.Module{&a, &b} {
		lists(reflect.ValueOf(m).Elem(), func(v reflect.Value) {
			if v.Cap() == 0 {
				return
			}
			mine := room{v.Pointer(), v.Pointer() + uintptr(v.Cap())*v.Type().Elem().Size()}
			for _, r := range rooms {
				if mine.from < r.to && r.from < mine.to {
					t.Errorf("a list of %d %v shares memory", v.Len(), v.Type())
				}
			}
			rooms = append(rooms, mine)
		})
	}
	if len(rooms) != 2*13 {
		t.Errorf("%d lists that have room", len(rooms))
	}
	lists(reflect.ValueOf(&a).Elem(), func(v reflect.Value) {
		if v.Type().Elem().Kind() == reflect.Int || v.Type().Elem().Kind() == reflect.Uint16 {
			for i := range v.Len() {
				v.Index(i).Set(reflect.Zero(v.Type().Elem()))
			}
		}
	})
	if !shape.Same(b, example()) {
		t.Error("one answer was changed with the other one")
	}
	checkRead(t, exampleText, example())
}
