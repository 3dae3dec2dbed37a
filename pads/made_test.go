package pads

import (
	"slices"
	"strconv"
	"strings"
	"testing"

	"davit/api"
	"davit/made"
	"davit/samples"
	"davit/shape"
)

// trimText is a module's text trimmed: each function's, whose blocks are texts.
func trimText(text string) string {
	var funcs []string
	for _, f := range strings.Split("\n"+text, "\nfunc ")[1:] {
		head, rest, _ := strings.Cut(f, "\n")
		funcs = append(funcs, "func "+head+"\n"+strings.Join(trimBlocks(blockTexts(rest)), ""))
	}
	return strings.Join(funcs, "")
}

// blockTexts of a function's text, without its head.
func blockTexts(text string) []string {
	var list []string
	for line := range strings.Lines(strings.TrimSuffix(text, "\n") + "\n") {
		if strings.HasPrefix(line, "block") || strings.HasPrefix(line, "pad ") {
			list = append(list, "")
		}
		list[len(list)-1] += line
	}
	return list
}

// trimBlocks: the texts of a function's blocks, each of which is trimmed, and goes round such as are but a cleanup's head and a resume.
func trimBlocks(blocks []string) []string {
	nothing := map[string]int{}
	for n, b := range blocks {
		if words := strings.Fields(b); len(words) == 4 && words[0] == "pad" && words[2] == "cleanup" && words[3] == "resume" {
			nothing[strconv.Itoa(n)] = 1
		}
	}
	var list []string
	for _, b := range blocks {
		lines := strings.SplitAfter(strings.TrimSuffix(b, "\n")+"\n", "\n")
		lines = lines[:len(lines)-1]
		if words := strings.Fields(lines[0]); slices.Contains(words, "all") {
			lines[0] = "pad " + words[1] + " all\n"
		}
		last := len(lines) - 1
		if words := strings.Fields(lines[last]); words[0] == "invoke" && nothing[words[4]] == 1 && last-1 < api.MaxIns {
			call := slices.Concat([]string{"call", words[1], words[2]}, words[5:])
			lines[last] = strings.Join(call, " ") + "\njump " + words[3] + "\n"
		}
		list = append(list, strings.Join(lines, ""))
	}
	return list
}

// tally is of how many pads are trimmed, how many blocks go round one, and how many don't since they are full.
type tally struct{ trimmed, round, full int }

// check a module that may be: trimmed it is what its text says, trimmed again it stays, and no pad has something that its All shadows.
func (c *tally) check(t *testing.T, m api.Module) {
	t.Helper()
	got, err := Module(m)
	if want := trimText(samples.Text(m)); err != api.OK || samples.Text(got) != want {
		t.Fatalf("%+v: %v, %+v, not %q", m, err, got, want)
	}
	if again, err := Module(got); err != api.OK || !shape.Same(again, got) {
		t.Fatalf("%+v: trimmed again %v, %+v", got, err, again)
	}
	for n, f := range got.Funcs {
		for i, b := range f.Blocks {
			was := m.Funcs[n].Blocks[i]
			if b.Pad.All && (len(b.Pad.Catch) > 0 || b.Pad.Cleanup) {
				t.Fatalf("%+v: All of block %d of function %d shadows more", got, i, n)
			}
			if len(b.Pad.Catch) < len(was.Pad.Catch) || was.Pad.Cleanup != b.Pad.Cleanup {
				c.trimmed++
			}
			if b.End.Kind != was.End.Kind {
				c.round++
			}
			if b.End.Kind == api.Invoke && Nothing(f.Blocks[b.End.Pad]) {
				c.full++
				if len(b.Ins) < api.MaxIns {
					t.Fatalf("%+v: block %d of function %d, which isn't full, doesn't go round", got, i, n)
				}
			}
		}
	}
}

func TestMadeModules(t *testing.T) {
	var c tally
	for seed := range 5000 {
		c.check(t, made.Module(uint64(seed)))
		m := made.Padded(made.Mixed(uint64(seed)), seed)
		c.check(t, m)
		c.check(t, made.Stuffed(m, seed))
	}
	if min(c.trimmed, c.round, c.full) < 200 {
		t.Errorf("%+v", c)
	}
}

// Functions of every two pads, one of which each of two blocks invokes by.
func TestEveryTwoPads(t *testing.T) {
	var c tally
	landings := []string{
		"pad 0 cleanup / resume", "pad 1 cleanup / resume", "pad 0 catch 1 / resume", "pad 0 catch 1 cleanup / resume", "pad 0 all / resume", "pad 0 all cleanup / resume",
		"pad 0 catch 1 all / resume", "pad 0 catch 1 all cleanup / resume", "pad 0 cleanup / out 0 / resume", "pad 0 cleanup / ret 0", "pad 0 cleanup / throw 0", "pad 0 cleanup / jump 0",
		"pad 0 cleanup / invoke 0 0 0 2", "pad 0 catch 1 all cleanup / invoke 0 0 0 3", "pad 0 cleanup / branch 0 0 1",
	}
	for _, one := range landings {
		for _, other := range landings {
			for pads := range 4 {
				ends := "func 0 2 / block / invoke 0 0 1 " + strconv.Itoa(2+pads%2) + " / block / invoke 1 0 0 " + strconv.Itoa(2+pads/2)
				c.check(t, samples.Module(ends+" / "+one+" / "+other))
			}
		}
	}
	if min(c.trimmed, c.round) < 100 {
		t.Errorf("%+v", c)
	}
}
