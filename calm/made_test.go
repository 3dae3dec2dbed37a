package calm

import (
	"slices"
	"strings"
	"testing"

	"davit/api"
	"davit/made"
	"davit/samples"
	"davit/shape"
	"davit/throws"
)

// calmText is a module's text calmed, line by line: an invoke of one out of which nothing is thrown becomes two lines.
func calmText(text string, out []bool) string {
	var lines []string
	ins := 0 // lines of instructions, of the block
	for line := range strings.Lines(text) {
		words := strings.Fields(line)
		switch {
		case words[0] == "block" || words[0] == "pad":
			ins = -1
		case words[0] == "invoke" && ins < api.MaxIns && !out[number(words[2])]:
			call := slices.Concat([]string{"call", words[1], words[2]}, words[5:])
			line = strings.Join(call, " ") + "\njump " + words[3] + "\n"
		}
		ins++
		lines = append(lines, line)
	}
	return strings.Join(lines, "")
}

// number of a function, of one or two digits.
func number(word string) int {
	n := 0
	for _, digit := range []byte(word) {
		n = 10*n + int(digit-'0')
	}
	return n
}

// tally is of how many blocks invoke: calmed ones, such as stay since they are full, and such as invoke one that may throw.
type tally struct{ calmed, full, stay int }

// check a module that may be: calmed it is what its text says, calmed again it stays, and out of the same functions something may be thrown.
func (c *tally) check(t *testing.T, m api.Module) {
	t.Helper()
	text, out := samples.Text(m), throws.Out(m)
	got, err := Module(m)
	if want := calmText(text, out); err != api.OK || samples.Text(got) != want {
		t.Fatalf("%+v: %v, %+v, not %q", m, err, got, want)
	}
	if again, err := Module(got); err != api.OK || !shape.Same(again, got) {
		t.Fatalf("%+v: calmed again %v, %+v", got, err, again)
	}
	if after := throws.Out(got); !slices.Equal(after, out) {
		t.Fatalf("%+v: something may be thrown out of %v, calmed out of %v", m, out, after)
	}
	c.count(t, got, out)
	c.calmed += Many(m) - Many(got)
}

// count what is left: invokes of those that may throw, and such of full blocks.
func (c *tally) count(t *testing.T, m api.Module, out []bool) {
	t.Helper()
	for _, f := range m.Funcs {
		for _, b := range f.Blocks {
			switch {
			case b.End.Kind != api.Invoke:
			case out[b.End.F]:
				c.stay++
			case len(b.Ins) == api.MaxIns:
				c.full++
			default:
				t.Fatalf("%+v: a block that isn't full invokes %d, out of which nothing is thrown", m, b.End.F)
			}
		}
	}
}

// Every module of up to three functions, by who calls whom how, and who throws; of three by Invokes alone, each of which each invokes.
func TestEveryModuleOfFewFunctions(t *testing.T) {
	var c tally
	all := []int{made.NoCall, made.ByCall, made.ByInvoke, made.ByAll}
	for m := range made.Doers(1, all) {
		c.check(t, m)
	}
	for m := range made.Doers(2, all) {
		c.check(t, m)
	}
	for m := range made.Doers(3, all[2:]) {
		c.check(t, m)
	}
	if min(c.calmed, c.stay) < 1000 {
		t.Errorf("%+v", c)
	}
}

func TestMadeModules(t *testing.T) {
	var c tally
	for seed := range 6000 {
		c.check(t, made.Module(uint64(seed)))
		c.check(t, made.Mixed(uint64(seed)))
		c.check(t, made.Stuffed(made.Mixed(uint64(seed)), seed))
	}
	if min(c.calmed, c.full, c.stay) < 300 {
		t.Errorf("%+v", c)
	}
}
