package read

import (
	"fmt"
	"math"
	"reflect"
	"regexp"
	"slices"
	"strconv"
	"strings"
	"testing"

	"davit/api"
	"davit/show"
)

// insForms has the line of each Op as a pattern: the word, and the fields behind it.
var insForms = map[int]string{
	api.Const: "const Dst K", api.Copy: "copy Dst A",
	api.Add: "add Dst A B", api.Sub: "sub Dst A B", api.Mul: "mul Dst A B",
	api.Div: "div Dst A B", api.Eq: "eq Dst A B", api.Lt: "lt Dst A B",
	api.Load: "load Dst A", api.Store: "store A B",
	api.Call: "call Dst F Args", api.Out: "out A", api.In: "in Dst",
}

// endForms likewise, of each Kind.
var endForms = map[int]string{
	api.Ret: "ret A", api.Jump: "jump To", api.Branch: "branch A To Else",
	api.Invoke: "invoke Dst F To Pad Args", api.Throw: "throw A", api.Resume: "resume",
}

// aNumber is the word of a number from 0 to 65535, digit by digit.
const aNumber = `(?:0|[1-9][0-9]{0,3}|[1-5][0-9]{4}|6[0-4][0-9]{3}|65[0-4][0-9]{2}|655[0-2][0-9]|6553[0-5])`

// form of a line: what it must match, the names of its fields, and what it is the line of.
type form struct {
	shape  *regexp.Regexp
	fields []string
	is     int
}

// forms says the chapter's lines over again, by other means than the program: by their words.
func forms(patterns map[int]string) map[string]form {
	found := map[string]form{}
	for is, pattern := range patterns {
		words := strings.Fields(pattern)
		shape := words[0]
		for _, name := range words[1:] {
			if name == "Args" {
				shape += `(?: ` + aNumber + `){0,8}`
			} else {
				shape += ` ` + aNumber
			}
		}
		found[words[0]] = form{regexp.MustCompile(`\A` + shape + `\z`), words[1:], is}
	}
	return found
}

var (
	insByWord = forms(insForms)
	endByWord = forms(endForms)
	padShape  = regexp.MustCompile(`\Apad (` + aNumber + `)(?: catch((?: ` + aNumber + `){1,8}))?( all)?( cleanup)?\z`)
)

// place puts a line's numbers into the fields of x that its form names.
func place(x reflect.Value, fields, words []string) {
	for i, name := range fields {
		field := x.FieldByName(name)
		if name == "Args" {
			for _, word := range words[i:] {
				field.Set(reflect.Append(field, reflect.ValueOf(atoi(word))))
			}
			return
		}
		field.Set(reflect.ValueOf(atoi(words[i])).Convert(field.Type()))
	}
}

func atoi(word string) int {
	n, err := strconv.Atoi(word)
	if err != nil {
		panic(err)
	}
	return n
}

func wantIns(line string) (api.Ins, bool) {
	words := strings.Split(line, " ")
	f, is := insByWord[words[0]]
	if !is || !f.shape.MatchString(line) {
		return api.Ins{}, false
	}
	x := api.Ins{Op: f.is}
	place(reflect.ValueOf(&x).Elem(), f.fields, words[1:])
	return x, true
}

func wantEnd(line string) (api.End, bool) {
	words := strings.Split(line, " ")
	f, is := endByWord[words[0]]
	if !is || !f.shape.MatchString(line) {
		return api.End{}, false
	}
	x := api.End{Kind: f.is}
	place(reflect.ValueOf(&x).Elem(), f.fields, words[1:])
	return x, true
}

func wantPad(line string) (api.Pad, bool) {
	found := padShape.FindStringSubmatch(line)
	if found == nil {
		return api.Pad{}, false
	}
	p := api.Pad{Dst: atoi(found[1]), All: found[3] != "", Cleanup: found[4] != ""}
	for _, word := range strings.Fields(found[2]) {
		p.Catch = append(p.Catch, uint16(atoi(word)))
	}
	return p, true
}

// checkLine hands a line to each of the three, and holds their answers against the forms.
func checkLine(t *testing.T, line string) {
	t.Helper()
	x, xIs := Ins(line)
	if want, is := wantIns(line); xIs != is || !reflect.DeepEqual(x, want) {
		t.Errorf("Ins(%q): %+v, %v, not %+v, %v", line, x, xIs, want, is)
	}
	e, eIs := End(line)
	if want, is := wantEnd(line); eIs != is || !reflect.DeepEqual(e, want) {
		t.Errorf("End(%q): %+v, %v, not %+v, %v", line, e, eIs, want, is)
	}
	p, pIs := Pad(line)
	if want, is := wantPad(line); pIs != is || !reflect.DeepEqual(p, want) {
		t.Errorf("Pad(%q): %+v, %v, not %+v, %v", line, p, pIs, want, is)
	}
}

// checkNone holds that a line is nobody's.
func checkNone(t *testing.T, line string) {
	t.Helper()
	if x, ok := Ins(line); ok || !reflect.DeepEqual(x, api.Ins{}) {
		t.Errorf("Ins(%q): %+v, %v", line, x, ok)
	}
	if x, ok := End(line); ok || !reflect.DeepEqual(x, api.End{}) {
		t.Errorf("End(%q): %+v, %v", line, x, ok)
	}
	if p, ok := Pad(line); ok || !reflect.DeepEqual(p, api.Pad{}) {
		t.Errorf("Pad(%q): %+v, %v", line, p, ok)
	}
}

var insLines = []struct {
	line string
	x    api.Ins
}{
	{"const 1 2", api.Ins{Op: api.Const, Dst: 1, K: 2}},
	{"const 0 65535", api.Ins{Op: api.Const, K: 65535}},
	{"copy 1 2", api.Ins{Op: api.Copy, Dst: 1, A: 2}},
	{"add 1 2 3", api.Ins{Op: api.Add, Dst: 1, A: 2, B: 3}},
	{"sub 1 2 3", api.Ins{Op: api.Sub, Dst: 1, A: 2, B: 3}},
	{"mul 1 2 3", api.Ins{Op: api.Mul, Dst: 1, A: 2, B: 3}},
	{"div 1 2 3", api.Ins{Op: api.Div, Dst: 1, A: 2, B: 3}},
	{"eq 1 2 3", api.Ins{Op: api.Eq, Dst: 1, A: 2, B: 3}},
	{"lt 1 2 3", api.Ins{Op: api.Lt, Dst: 1, A: 2, B: 3}},
	{"load 1 2", api.Ins{Op: api.Load, Dst: 1, A: 2}},
	{"store 1 2", api.Ins{Op: api.Store, A: 1, B: 2}},
	{"call 1 2", api.Ins{Op: api.Call, Dst: 1, F: 2}},
	{"call 1 2 3", api.Ins{Op: api.Call, Dst: 1, F: 2, Args: []int{3}}},
	{"call 1 2 5 4 65535 0", api.Ins{Op: api.Call, Dst: 1, F: 2, Args: []int{5, 4, 65535, 0}}},
	{"call 1 2 3 4 5 6 7 8 9 10", api.Ins{Op: api.Call, Dst: 1, F: 2, Args: []int{3, 4, 5, 6, 7, 8, 9, 10}}},
	{"out 1", api.Ins{Op: api.Out, A: 1}},
	{"in 1", api.Ins{Op: api.In, Dst: 1}},
}

var endLines = []struct {
	line string
	x    api.End
}{
	{"ret 1", api.End{Kind: api.Ret, A: 1}},
	{"jump 1", api.End{Kind: api.Jump, To: 1}},
	{"branch 1 2 3", api.End{Kind: api.Branch, A: 1, To: 2, Else: 3}},
	{"invoke 1 2 3 4", api.End{Kind: api.Invoke, Dst: 1, F: 2, To: 3, Pad: 4}},
	{"invoke 1 2 3 4 5", api.End{Kind: api.Invoke, Dst: 1, F: 2, To: 3, Pad: 4, Args: []int{5}}},
	{"invoke 1 2 3 4 5 6 7 8 9 10 11 12", api.End{Kind: api.Invoke, Dst: 1, F: 2, To: 3, Pad: 4, Args: []int{5, 6, 7, 8, 9, 10, 11, 12}}},
	{"throw 1", api.End{Kind: api.Throw, A: 1}},
	{"resume", api.End{Kind: api.Resume}},
}

var padLines = []struct {
	line string
	p    api.Pad
}{
	{"pad 1", api.Pad{Dst: 1}},
	{"pad 1 catch 2", api.Pad{Dst: 1, Catch: []uint16{2}}},
	{"pad 1 all", api.Pad{Dst: 1, All: true}},
	{"pad 1 cleanup", api.Pad{Dst: 1, Cleanup: true}},
	{"pad 1 all cleanup", api.Pad{Dst: 1, All: true, Cleanup: true}},
	{"pad 1 catch 2 all", api.Pad{Dst: 1, Catch: []uint16{2}, All: true}},
	{"pad 1 catch 65535 0 cleanup", api.Pad{Dst: 1, Catch: []uint16{65535, 0}, Cleanup: true}},
	{"pad 1 catch 5 5", api.Pad{Dst: 1, Catch: []uint16{5, 5}}},
	{"pad 65535 catch 9 8 7 6 5 4 3 2 all cleanup", api.Pad{Dst: 65535, Catch: []uint16{9, 8, 7, 6, 5, 4, 3, 2}, All: true, Cleanup: true}},
}

func allLines() []string {
	var lines []string
	for _, c := range insLines {
		lines = append(lines, c.line)
	}
	for _, c := range endLines {
		lines = append(lines, c.line)
	}
	for _, c := range padLines {
		lines = append(lines, c.line)
	}
	return lines
}

func TestLinesOfEachOp(t *testing.T) {
	for _, c := range insLines {
		if x, ok := Ins(c.line); !ok || !reflect.DeepEqual(x, c.x) {
			t.Errorf("%q: %+v, %v", c.line, x, ok)
		}
	}
}

func TestLinesOfEachKind(t *testing.T) {
	for _, c := range endLines {
		if x, ok := End(c.line); !ok || !reflect.DeepEqual(x, c.x) {
			t.Errorf("%q: %+v, %v", c.line, x, ok)
		}
	}
}

func TestLinesOfPads(t *testing.T) {
	for _, c := range padLines {
		if p, ok := Pad(c.line); !ok || !reflect.DeepEqual(p, c.p) {
			t.Errorf("%q: %+v, %v", c.line, p, ok)
		}
	}
}

func TestALineIsOfItsOwnKindAlone(t *testing.T) {
	for _, line := range allLines() {
		_, x := Ins(line)
		_, e := End(line)
		_, p := Pad(line)
		word, _, _ := strings.Cut(line, " ")
		_, isIns := insByWord[word]
		_, isEnd := endByWord[word]
		if x != isIns || e != isEnd || p != (word == "pad") {
			t.Errorf("%q: an instruction %v, an end %v, a pad %v", line, x, e, p)
		}
	}
	for _, line := range []string{"func 0 1", "func 0 0", "func", "block", "block 1"} {
		checkNone(t, line)
	}
}

// notNumbers are words that tell no number from 0 to 65535, or tell one otherwise than by its digits alone.
var notNumbers = []string{
	"65536", "65537", "65545", "66000", "70000", "99999", "100000", "131072", "4294967295", "4294967296", "4294967297",
	"9223372036854775808", "18446744073709551615", "18446744073709551616", "18446744073709551617", strings.Repeat("9", 400),
	"-1", "-5", "-65535", "-65536", "-0", "-", "--1", "+0", "+1", "+", "+-1",
	"00", "01", "007", "000", "065535", "00065535", strings.Repeat("0", 400) + "1",
	"", "a", "x1", "1x", "0x1", "0b1", "0o7", "1_0", "1.0", "1.", ".1", "1e1", "1,", "NaN", "K", "A", "all", "cleanup", "catch",
	"1\t", "\t1", "1\n", "\n1", "1\r", "1\v", "1\x00", "\x001", "1\xff", "\u00a01", "1\u00a0", "\u0663", "\uff11", "\u00b2",
}

// slots calls do with each number of each line that has any: the words of the line, and which one it is.
func slots(do func(words []string, i int)) {
	for _, line := range allLines() {
		words := strings.Split(line, " ")
		for i, word := range words {
			if word[0] >= '0' && word[0] <= '9' {
				do(slices.Clone(words), i)
			}
		}
	}
}

func TestNumbersAtEachPlace(t *testing.T) {
	slots(func(words []string, i int) {
		for _, n := range []int{0, 1, 9, 10, 99, 100, 255, 256, 999, 1000, 9999, 10000, 32767, 32768, 65534, 65535} {
			words[i] = strconv.Itoa(n)
			line := strings.Join(words, " ")
			checkLine(t, line)
			_, x := Ins(line)
			_, e := End(line)
			_, p := Pad(line)
			if !x && !e && !p {
				t.Errorf("%q is not read", line)
			}
		}
	})
}

// A word that is no number is refused at each place, and so is what it breaks up.
func TestNoNumberAtEachPlace(t *testing.T) {
	slots(func(words []string, i int) {
		for _, word := range notNumbers {
			words[i] = word
			line := strings.Join(words, " ")
			// Behind a pad's other numbers its own words may stand.
			if words[0] == "pad" && (word == "all" || word == "cleanup") {
				checkLine(t, line)
			} else {
				checkNone(t, line)
			}
		}
	})
}

func counted(word string, count int) string {
	var line strings.Builder
	line.WriteString(word)
	for n := range count {
		line.WriteString(" " + strconv.Itoa(n+1))
	}
	return line.String()
}

func TestHowManyArgsAndNumbers(t *testing.T) {
	for _, count := range []int{0, 1, 7, 8, 9, 10, 11, 12, 13, 16, 100, 100000} {
		few := count <= 8
		call, callIs := Ins(counted("call 0 0", count))
		if callIs != few || few && len(call.Args) != count || !few && !reflect.DeepEqual(call, api.Ins{}) {
			t.Errorf("a call with %d Args: %v, %v", count, call, callIs)
		}
		invoke, invokeIs := End(counted("invoke 0 0 0 0", count))
		if invokeIs != few || few && len(invoke.Args) != count || !few && !reflect.DeepEqual(invoke, api.End{}) {
			t.Errorf("an invoke with %d Args: %v, %v", count, invoke, invokeIs)
		}
		for _, behind := range []string{"", " all", " cleanup", " all cleanup"} {
			pad, padIs := Pad(counted("pad 0 catch", count) + behind)
			some := few && count > 0
			if padIs != some || some && len(pad.Catch) != count || !some && !reflect.DeepEqual(pad, api.Pad{}) {
				t.Errorf("a pad with %d numbers%s: %v, %v", count, behind, pad, padIs)
			}
		}
	}
}

func TestHowManyNumbersBehindAWord(t *testing.T) {
	for op, pattern := range insForms {
		words := strings.Fields(pattern)
		for count := range 16 {
			_, ok := Ins(counted(words[0], count))
			is := count == len(words)-1
			if op == api.Call {
				is = count >= 2 && count <= 10
			}
			if ok != is {
				t.Errorf("%s with %d numbers: %v", words[0], count, ok)
			}
		}
	}
	for kind, pattern := range endForms {
		words := strings.Fields(pattern)
		for count := range 16 {
			_, ok := End(counted(words[0], count))
			is := count == len(words)-1
			if kind == api.Invoke {
				is = count >= 4 && count <= 12
			}
			if ok != is {
				t.Errorf("%s with %d numbers: %v", words[0], count, ok)
			}
		}
	}
}

func TestLinesThatAreNone(t *testing.T) {
	for _, line := range []string{
		"", " ", "  ", "\n", "\t", "\x00", "0", "1 2 3", "-", "none", "nop", "nought 1",
		"pad", "pad ", "pad all", "pad cleanup", "pad catch", "pad catch 5", "pad catch 5 all",
		"pad 1 catch", "pad 1 catch ", "pad 1 catch all", "pad 1 catch cleanup", "pad 1 catch all cleanup",
		"pad 1 2", "pad 1 2 all", "pad 1 all catch 2", "pad 1 cleanup all", "pad 1 cleanup catch 2", "pad 1 catch 2 cleanup all",
		"pad 1 all all", "pad 1 cleanup cleanup", "pad 1 catch 2 catch 3", "pad 1 catch catch 2", "pad 1 catch 2 all 3",
		"pad 1 all cleanup all", "pad 1 catch 2 all cleanup 3", "pad 1 All", "pad 1 ALL", "pad 1 any", "pad 1 catches 2", "Pad 1 all", "PAD 1 all",
		"CONST 1 2", "Const 1 2", "const1 2", "const 12", "const 1", "const", "const ", "const 1 2 3", "const 1 2 ", " const 1 2", "const  1 2", "const 1  2",
		"const\t1 2", "const 1\t2", "const 1 2\t", "const 1 2\n", "const 1 2\r", "\nconst 1 2", "const 1\n2", "const 1 2\nconst 1 2",
		"const, 1 2", "const 1, 2", "const 1 -2", "const -1 2", "const x 2", "const 1 x", "consts 1 2", "cons 1 2", "onst 1 2",
		"resume ", " resume", "resume 0", "resumes", "resum", "resume\n", "Resume", "ret", "ret ", "ret 1 ", "ret 1 2", "ret1", "returns 1",
		"jump", "jump -1", "jump 1 2", "branch 1 2", "branch 1", "branch 1 2 3 4", "throw", "throw 1 2",
		"call", "call 1", "call  1 2", "call 1 2 ", "call 1 2  3", "call 1 2 3 ", "call 1 2 x", "call 1 2 3 x", "call 1 2 3 4 5 6 7 8 9 10 11", "call 1 2 3 4 5 6 7 8 9 10 ",
		"invoke", "invoke 1", "invoke 1 2", "invoke 1 2 3", "invoke 1 2 3 4 ", "invoke 1 2 3 4  5", "invoke 1 2 3 4 x",
		"invoke 1 2 3 4 5 6 7 8 9 10 11 12 13", "invoke 1 2 3 4 5 6 7 8 9 10 11 12 ",
		"in", "in ", "in 1 2", "int 1", "i 1", "out", "out 1 2", "ou 1", "outs 1", "lt 1 2", "lt 1 2 3 4", "eq 1 2", "add 1 2", "add 1 2 3 4", "add 1 2 3 4 5",
		"store 1", "store 1 2 3", "load 1", "load 1 2 3", "copy 1", "copy 1 2 3",
	} {
		checkNone(t, line)
	}
}

// someBytes are put into lines and texts: such as stand there, and such as don't.
const someBytes = " \n\t\r\x00-+019aelst\xff"

// edits calls do with each text that differs from text by one byte: one less, one more, another one, two turned.
func edits(text string, do func(text string)) {
	for i := range len(text) + 1 {
		for j := range len(someBytes) {
			do(text[:i] + someBytes[j:j+1] + text[i:])
			if i < len(text) {
				do(text[:i] + someBytes[j:j+1] + text[i+1:])
			}
		}
		if i < len(text) {
			do(text[:i] + text[i+1:])
		}
		if i+1 < len(text) {
			do(text[:i] + text[i+1:i+2] + text[i:i+1] + text[i+2:])
		}
	}
}

func TestLinesByOneByte(t *testing.T) {
	for _, line := range allLines() {
		edits(line, func(line string) { checkLine(t, line) })
		for i := range len(line) + 1 {
			checkLine(t, line[:i])
			checkLine(t, line[i:])
			checkLine(t, line+" "+line[i:])
		}
	}
}

func TestLongLinesEnd(t *testing.T) {
	for _, part := range []string{" ", "0", "9", " 1", "const 1 2 ", "\n", "all ", "x"} {
		long := strings.Repeat(part, 1<<20)
		for _, ahead := range []string{"", "const ", "const 1 ", "call 1 2 ", "invoke 1 2 3 4 5", "pad 1 ", "pad 1 catch ", "resume", "resume "} {
			checkNone(t, ahead+long)
		}
	}
}

// What show tells is read as what it was told of; with a number below 0 or above 65535, or too long a list, it is not.
func TestLinesThatShowTells(t *testing.T) {
	for _, n := range []int{0, 1, 10, 255, 65535, 65536, 70000, math.MaxInt, -1, -65535, math.MinInt} {
		is := n >= 0 && n <= 65535
		for op, pattern := range insForms {
			for _, name := range strings.Fields(pattern)[1:] {
				x := api.Ins{Op: op}
				setField(reflect.ValueOf(&x).Elem().FieldByName(name), n)
				got, ok := Ins(show.Ins(x))
				if want := is || name == "K"; ok != want || ok && !reflect.DeepEqual(got, x) {
					t.Errorf("%q: %+v, %v", show.Ins(x), got, ok)
				}
			}
		}
		for kind, pattern := range endForms {
			for _, name := range strings.Fields(pattern)[1:] {
				x := api.End{Kind: kind}
				setField(reflect.ValueOf(&x).Elem().FieldByName(name), n)
				got, ok := End(show.End(x))
				if ok != is || ok && !reflect.DeepEqual(got, x) {
					t.Errorf("%q: %+v, %v", show.End(x), got, ok)
				}
			}
		}
		p := api.Pad{Dst: n, Catch: []uint16{uint16(n)}, All: n%2 == 0, Cleanup: n%3 == 0}
		if got, ok := Pad(show.Pad(p)); ok != is || ok && !reflect.DeepEqual(got, p) {
			t.Errorf("%q: %+v, %v", show.Pad(p), got, ok)
		}
	}
}

func setField(v reflect.Value, n int) {
	if v.Kind() == reflect.Slice {
		v.Set(reflect.ValueOf([]int{n, 7, n}))
		return
	}
	v.Set(reflect.ValueOf(n).Convert(v.Type()))
}

// What an answer's lists are is nobody else's: one that is changed changes no other one.
func TestLinesAnswerNewMemory(t *testing.T) {
	for range 2 {
		a, _ := Ins("call 1 2 3 4")
		b, _ := Ins("call 1 2 3 4")
		a.Args[0], a.Args[1] = 90, 91
		e, _ := End("invoke 1 2 3 4 5 6")
		f, _ := End("invoke 1 2 3 4 5 6")
		e.Args[0], e.Args[1] = 90, 91
		p, _ := Pad("pad 1 catch 2 3")
		q, _ := Pad("pad 1 catch 2 3")
		p.Catch[0], p.Catch[1] = 90, 91
		if got := fmt.Sprint(b.Args, f.Args, q.Catch); got != "[3 4] [5 6] [2 3]" {
			t.Error(got)
		}
	}
}
