package mach

import (
	"slices"
	"strings"
	"testing"

	"davit/api"
	"davit/runs"
	"davit/samples"
)

// throwing: function 0's blocks each invoke function 1 with a pad of another kind, in block + 8, or call it; function 1 throws 5, or its argument.
const throwing = "func 0 3" +
	" / block / invoke 1 1 7 8 0 / block / invoke 1 1 7 9 0 / block / invoke 1 1 7 10 0 / block / invoke 1 1 7 11 0" +
	" / block / invoke 1 1 7 12 0 / block / call 1 1 0 / ret 0 / block / call 1 0 / ret 0 / block / ret 0" +
	" / pad 0 catch 5 / ret 0 / pad 1 all / ret 0 / pad 2 cleanup / resume / pad 1 catch 6 7 cleanup / resume / pad 2 catch 1 2 3 4 6 5 / ret 0" +
	" / func 1 2" +
	" / block / invoke 1 1 7 8 0 / block / invoke 1 1 7 9 0 / block / invoke 1 1 7 10 0 / block / invoke 1 1 7 11 0" +
	" / block / invoke 1 1 7 12 0 / block / call 1 1 0 / ret 0 / block / throw 0 / block / ret 0" +
	" / pad 0 catch 5 / resume / pad 1 all / ret 0 / pad 1 cleanup / resume / pad 1 catch 6 7 cleanup / resume / pad 0 catch 1 2 3 4 6 5 / ret 0"

// What a block of throwing does with a word that is thrown: by heart, of its pad.
func catches(block int, n uint16) bool {
	switch block {
	case 0:
		return n == 5
	case 1:
		return true
	case 3:
		return n == 6 || n == 7
	case 4:
		return n >= 1 && n <= 6
	}
	return false
}

func cleans(block int) bool { return block == 2 || block == 3 }

// padDst of function 0, and of function 1, by the block that invokes.
var padDsts = [2][5]int{{0, 1, 2, 1, 2}, {0, 1, 1, 1, 0}}

// tower has frames at these blocks, the last one below a frame that throws.
func tower(m api.Module, blocks []int, top api.Frame) api.Mach {
	s := before(m, 0)
	s.Stack = nil
	for i, block := range blocks {
		f := at(m, min(i, 1), block, 0)
		f.Fly = uint16(50 + i)
		s.Stack = append(s.Stack, f)
	}
	s.Stack = append(s.Stack, top)
	return s
}

// Each tower of up to four frames below the one that throws, at each pad, and at a Call.
func TestTowers(t *testing.T) {
	m := samples.Module(throwing)
	counts := map[string]int{}
	for height := range 5 {
		blocks := make([]int, height)
		for {
			for _, n := range []uint16{0, 4, 5, 6, 7, 8, 65535} {
				counts[thrown(t, m, blocks, n)]++
			}
			if !next(blocks) {
				break
			}
		}
	}
	for _, what := range []string{"nobody", "the next", "further down", "a cleanup first"} {
		if counts[what] == 0 {
			t.Errorf("%s: none was tried", what)
		}
	}
}

// next is the next list of blocks, each of 0 to 5.
func next(blocks []int) bool {
	for i := range blocks {
		if blocks[i]++; blocks[i] <= 5 {
			return true
		}
		blocks[i] = 0
	}
	return false
}

// thrown holds a throw above frames at these blocks, by Throw and by Resume, and says what there was to it.
func thrown(t *testing.T, m api.Module, blocks []int, n uint16) string {
	t.Helper()
	catcher, first := -1, -1
	for i, block := range blocks {
		if catches(block, n) {
			catcher = i
		}
		if catches(block, n) || cleans(block) {
			first = i
		}
	}
	for _, top := range []api.Frame{
		{F: 1, Block: 6, Regs: []uint16{n, 9}, Fly: n + 1},
		{F: 1, Block: 10, Regs: []uint16{n + 1, n + 1}, Fly: n},
	} {
		s := tower(m, blocks, top)
		want := Copy(s)
		if catcher < 0 {
			want.Stack, want.Done, want.Value = want.Stack[:len(blocks)], api.Thrown, n
		} else {
			want.Stack = want.Stack[:first+1]
			f := &want.Stack[first]
			f.Regs[padDsts[f.F][f.Block]] = n
			f.Block, f.At, f.Fly = f.Block+8, 0, n
		}
		steps(t, m, s, want)
	}
	switch {
	case catcher < 0:
		return "nobody"
	case catcher < first:
		return "a cleanup first"
	case catcher == len(blocks)-1:
		return "the next"
	}
	return "further down"
}

// A pad of its own doesn't catch what a frame throws itself: it stands at no Invoke.
func TestOwnPadsDoNotCatch(t *testing.T) {
	m := samples.Module("func 0 1 / block / invoke 0 1 1 2 / block / throw 0 / pad 0 all cleanup / throw 0 / func 0 1 / block / throw 0")
	for block := 1; block <= 2; block++ {
		s := before(m, 0, 8)
		s.Stack[0].Block = block
		want := Copy(s)
		want.Stack, want.Done, want.Value = nil, api.Thrown, 8
		steps(t, m, s, want)
	}
}

// A word that comes from a Throw of 0 and one that was never thrown: Resume in a frame into which nothing was thrown throws 0.
func TestResumeOfNothing(t *testing.T) {
	m := samples.Module("func 0 1 / block / invoke 0 1 1 2 / block / ret 0 / pad 0 catch 0 / ret 0 / func 0 1 / block / const 0 4 / resume")
	got, err := Run(m, nil, 100)
	if err != api.OK || got.Done != api.Answered || got.Value != 0 || len(got.Stack) != 0 {
		t.Error(got, err)
	}
}

// A cleanup that throws another word: whoever catches that one is sought anew.
func TestACleanupThrowsAnew(t *testing.T) {
	text := "func 0 1 / block / invoke 0 1 1 2 / block / ret 0 / pad 0 catch 5 / out 0 / ret 0" +
		" / func 0 2 / block / invoke 0 2 1 2 / block / ret 0 / pad 1 cleanup / const 1 WORD / out 1 / throw 1" +
		" / func 0 1 / block / const 0 5 / throw 0"
	for _, c := range []struct {
		word   string
		done   int
		value  uint16
		events []int
		left   int
	}{
		{"5", api.Answered, 5, []int{5, 5}, 0},
		{"6", api.Thrown, 6, []int{6}, 1},
	} {
		m := samples.Module(strings.ReplaceAll(text, "WORD", c.word))
		got, err := Run(m, nil, 100)
		if err != api.OK || got.Done != c.done || got.Value != c.value || !slices.Equal(got.Events, c.events) || len(got.Stack) != c.left {
			t.Errorf("%s: %+v, %v", c.word, got, err)
		}
	}
}

// Where nobody catches, nobody cleans up, and the frames stay where they stood.
func TestNobodyCatchesSoNobodyCleans(t *testing.T) {
	m := samples.Module("func 0 1 / block / invoke 0 1 1 2 / block / ret 0 / pad 0 catch 6 / out 0 / ret 0" +
		" / func 0 1 / block / invoke 0 2 1 2 / block / ret 0 / pad 0 cleanup / out 0 / resume" +
		" / func 0 1 / block / call 0 3 / ret 0 / func 0 1 / block / const 0 5 / throw 0")
	got, err := Run(m, nil, 100)
	want := api.Mach{Stack: []api.Frame{{Regs: []uint16{0}}, {F: 1, Regs: []uint16{0}}, {F: 2, Regs: []uint16{0}}}, Done: api.Thrown, Value: 5}
	if err != api.OK || !runs.Alike(got, want) {
		t.Errorf("%+v, %v", got, err)
	}
}

// A frame that stands at a Call isn't at its block's Invoke yet.
func TestAPadIsNotAskedAheadOfItsInvoke(t *testing.T) {
	for _, pad := range []string{"all", "cleanup", "catch 5 cleanup"} {
		m := samples.Module("func 0 2 / block / call 0 1 / invoke 1 1 1 2 / block / ret 0 / pad 0 " + pad + " / ret 0 / func 0 1 / block / throw 0")
		low, top := at(m, 0, 0, 0), at(m, 1, 0, 0)
		top.Regs[0] = 5
		steps(t, m, api.Mach{Stack: []api.Frame{low, top}}, api.Mach{Stack: []api.Frame{low}, Done: api.Thrown, Value: 5})
	}
}
