package read

import (
	"strconv"
	"strings"

	"davit/api"
	"davit/show"
)

// mostWords are those of the longest lines: an invoke with all Args, and a pad with catch, all its numbers, all and cleanup.
const mostWords = 5 + max(api.MaxArgs, api.MaxCatch)

// Ins of a line: it must show as this.
func Ins(line string) (api.Ins, bool) {
	words := split(line)
	x := insOf(opOf(words[0]), words[1:])
	if x.Op == 0 || len(x.Args) > api.MaxArgs || show.Ins(x) != line {
		return api.Ins{}, false
	}
	return x, true
}

func insOf(op int, words []string) api.Ins {
	x := api.Ins{Op: op}
	switch op {
	case api.Const:
		var k int
		fill(words, &x.Dst, &k)
		x.K = uint16(k)
	case api.Copy, api.Load:
		fill(words, &x.Dst, &x.A)
	case api.Add, api.Sub, api.Mul, api.Div, api.Eq, api.Lt:
		fill(words, &x.Dst, &x.A, &x.B)
	case api.Store:
		fill(words, &x.A, &x.B)
	case api.Call:
		x.Args = fill(words, &x.Dst, &x.F)
	case api.Out:
		fill(words, &x.A)
	case api.In:
		fill(words, &x.Dst)
	}
	return x
}

// End of a line: it must show as this.
func End(line string) (api.End, bool) {
	words := split(line)
	x := endOf(kindOf(words[0]), words[1:])
	if x.Kind == 0 || len(x.Args) > api.MaxArgs || show.End(x) != line {
		return api.End{}, false
	}
	return x, true
}

func endOf(kind int, words []string) api.End {
	x := api.End{Kind: kind}
	switch kind {
	case api.Ret, api.Throw:
		fill(words, &x.A)
	case api.Jump:
		fill(words, &x.To)
	case api.Branch:
		fill(words, &x.A, &x.To, &x.Else)
	case api.Invoke:
		x.Args = fill(words, &x.Dst, &x.F, &x.To, &x.Pad)
	}
	return x
}

// Pad of a line: it must show as this.
func Pad(line string) (api.Pad, bool) {
	p := padOf(split(line)[1:])
	if len(p.Catch) > api.MaxCatch || show.Pad(p) != line {
		return api.Pad{}, false
	}
	return p, true
}

// padOf asks not in what order its words stand: the line that is shown has them in theirs.
func padOf(words []string) api.Pad {
	var p api.Pad
	for i, word := range words {
		switch {
		case i == 0:
			p.Dst = number(word)
		case word == "catch":
		case word == "all":
			p.All = true
		case word == "cleanup":
			p.Cleanup = true
		default:
			p.Catch = append(p.Catch, uint16(number(word)))
		}
	}
	return p
}

// readFunc of a line: a function without blocks yet. Show has no call that tells its line.
func readFunc(line string) (api.Func, bool) {
	var f api.Func
	fill(split(line)[1:], &f.Params, &f.Regs)
	return f, line == "func "+strconv.Itoa(f.Params)+" "+strconv.Itoa(f.Regs)
}

// split a line at its blanks. A line of more words than any that is one is not gone through to its end, however long it is.
func split(line string) []string { return strings.SplitN(line, " ", mostWords+1) }

// fill puts the numbers of words into fields, one behind the other, and answers those that are left.
func fill(words []string, fields ...*int) []int {
	var left []int
	for i, word := range words {
		if i < len(fields) {
			*fields[i] = number(word)
		} else {
			left = append(left, number(word))
		}
	}
	return left
}

// number of a word. One that isn't just the word of a number from 0 to 65535 gets another one's, so that what is read of its line does not show as it.
func number(word string) int {
	n, _ := strconv.ParseUint(word, 10, 16)
	return int(n)
}
