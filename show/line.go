package show

import (
	"strconv"
	"strings"

	"davit/api"
)

// Ins as a line.
func Ins(x api.Ins) string {
	switch x.Op {
	case api.Const:
		return line("const", x.Dst, int(x.K))
	case api.Copy:
		return line("copy", x.Dst, x.A)
	case api.Add:
		return line("add", x.Dst, x.A, x.B)
	case api.Sub:
		return line("sub", x.Dst, x.A, x.B)
	case api.Mul:
		return line("mul", x.Dst, x.A, x.B)
	case api.Div:
		return line("div", x.Dst, x.A, x.B)
	case api.Eq:
		return line("eq", x.Dst, x.A, x.B)
	case api.Lt:
		return line("lt", x.Dst, x.A, x.B)
	case api.Load:
		return line("load", x.Dst, x.A)
	case api.Store:
		return line("store", x.A, x.B)
	case api.Call:
		return line("call", behind(x.Args, x.Dst, x.F)...)
	case api.Out:
		return line("out", x.A)
	case api.In:
		return line("in", x.Dst)
	}
	return ""
}

// End as a line.
func End(x api.End) string {
	switch x.Kind {
	case api.Ret:
		return line("ret", x.A)
	case api.Jump:
		return line("jump", x.To)
	case api.Branch:
		return line("branch", x.A, x.To, x.Else)
	case api.Invoke:
		return line("invoke", behind(x.Args, x.Dst, x.F, x.To, x.Pad)...)
	case api.Throw:
		return line("throw", x.A)
	case api.Resume:
		return line("resume")
	}
	return ""
}

// Pad as a line.
func Pad(p api.Pad) string {
	text := line("pad", p.Dst)
	if len(p.Catch) > 0 {
		text += " " + line("catch", wide(p.Catch)...)
	}
	if p.All {
		text += " all"
	}
	if p.Cleanup {
		text += " cleanup"
	}
	return text
}

// line is a word and the numbers behind it, with single blanks between.
func line(word string, numbers ...int) string {
	var text strings.Builder
	text.WriteString(word)
	for _, n := range numbers {
		text.WriteByte(' ')
		text.WriteString(strconv.Itoa(n))
	}
	return text.String()
}

// behind puts args behind the first numbers, in a list of its own: what is handed in is not written to.
func behind(args []int, first ...int) []int {
	numbers := make([]int, 0, len(first)+len(args))
	numbers = append(numbers, first...)
	return append(numbers, args...)
}

func wide(words []uint16) []int {
	numbers := make([]int, len(words))
	for i, n := range words {
		numbers[i] = int(n)
	}
	return numbers
}
