package live

import (
	"slices"
	"strconv"
	"strings"
	"testing"

	"davit/api"
	"davit/read"
)

// function of so many places, of lines that stand with a / between; it need not be one that may be. What stands ahead of the first block's or pad's line is of a block, too.
func function(t *testing.T, regs int, text string) api.Func {
	t.Helper()
	f := api.Func{Regs: regs}
	for _, line := range strings.Split(text, " / ") {
		pad, landing := read.Pad(line)
		x, isIns := read.Ins(line)
		end, isEnd := read.End(line)
		if line == "block" || landing || len(f.Blocks) == 0 {
			f.Blocks = append(f.Blocks, api.Block{Landing: landing, Pad: pad})
		}
		last := &f.Blocks[len(f.Blocks)-1]
		switch {
		case isIns:
			last.Ins = append(last.Ins, x)
		case isEnd:
			last.End = end
		case line != "block" && !landing:
			t.Fatalf("%q: no line", line)
		}
	}
	return f
}

// told of each block the places that are live, the blocks with a | between.
func told(live [][]bool) string {
	var blocks []string
	for _, list := range live {
		var places []string
		for place, is := range list {
			if is {
				places = append(places, strconv.Itoa(place))
			}
		}
		blocks = append(blocks, strings.Join(places, " "))
	}
	return strings.Join(blocks, "|")
}

// lived is a function of so many places, and what is live in it.
type lived struct {
	name       string
	regs       int
	text       string
	at, behind string
}

// inOneBlock are blocks that answer, throw, or go nowhere.
func inOneBlock() []lived {
	return []lived{
		{"the chapter's", 3, "block / add 2 0 1 / ret 2", "0 1", ""},
		{"one that only answers", 1, "block / ret 0", "0", ""},
		{"one that only throws", 2, "block / throw 1", "1", ""},
		{"one that resumes", 2, "block / resume", "", ""},
		{"no place", 0, "block / resume", "", ""},
		{"no place, round and round", 0, "block / jump 0", "", ""},
		{"set ahead of where it is asked for", 1, "block / const 0 1 / ret 0", "", ""},
		{"asked for ahead of where it is set", 1, "block / out 0 / const 0 1 / ret 0", "0", ""},
		{"asked for, set, and asked for again", 2, "block / out 1 / in 1 / out 1 / ret 1", "1", ""},
		{"set, asked for, and set", 1, "block / in 0 / out 0 / in 0 / ret 0", "", ""},
		{"set and never asked for", 2, "block / const 1 1 / ret 0", "0", ""},
		{"asked for by what sets it", 2, "block / add 0 0 1 / ret 0", "0 1", ""},
		{"a copy of itself", 2, "block / copy 1 1 / ret 0", "0 1", ""},
		{"a copy that is copied", 3, "block / copy 1 0 / copy 2 1 / ret 2", "0", ""},
		{"a copy the other way", 3, "block / copy 2 1 / copy 1 0 / ret 2", "0 1", ""},
		{"a Load sets what it asks for", 1, "block / load 0 0 / ret 0", "0", ""},
		{"a Store sets nothing", 3, "block / store 0 1 / ret 0", "0 1", ""},
		{"an Out sets nothing", 2, "block / out 1 / ret 0", "0 1", ""},
		{"In sets", 2, "block / in 0 / ret 0", "", ""},
		{"a Call without Args", 2, "block / call 0 1 / ret 0", "", ""},
		{"a Call with Args", 4, "block / call 0 1 2 1 2 / ret 0", "1 2", ""},
		{"a Call of what it sets", 2, "block / call 0 1 0 / ret 0", "0", ""},
		{"what is asked for by one that nobody asks", 3, "block / add 2 0 1 / ret 0", "0 1", ""},
		{"the last place", 256, "block / copy 254 255 / ret 254", "255", ""},
	}
}

func overBlocks() []lived {
	return []lived{
		{"through a row", 2, "block / jump 1 / block / jump 2 / block / jump 3 / block / ret 1", "1|1|1|1", "1|1|1|"},
		{"through a row whose numbers fall", 2, "block / jump 3 / block / ret 1 / block / jump 1 / block / jump 2", "1|1|1|1", "1||1|1"},
		{"a row, set on the way", 2, "block / jump 1 / block / const 1 7 / jump 2 / block / jump 3 / block / ret 1", "||1|1", "|1|1|"},
		{"a row, set first", 1, "block / in 0 / jump 1 / block / jump 2 / block / ret 0", "|0|0", "0|0|"},
		{"a row, asked for and set on the way", 1, "block / jump 1 / block / out 0 / in 0 / jump 2 / block / ret 0", "0|0|0", "0|0|"},
		{"a row, asked for on the way alone", 2, "block / jump 1 / block / out 0 / jump 2 / block / ret 1", "0 1|0 1|1", "0 1|1|"},
		{"a row, set where it isn't asked for any more", 1, "block / out 0 / jump 1 / block / in 0 / jump 2 / block / resume", "0||", "||"},
		{"round a loop", 3, "block / jump 1 / block / sub 0 0 1 / branch 0 1 2 / block / ret 2", "0 1 2|0 1 2|2", "0 1 2|0 1 2|"},
		{"round a loop, asked for ahead of where it is set", 2, "block / out 0 / in 0 / branch 1 0 1 / block / resume", "0 1|", "0 1|"},
		{"round a loop, set ahead of where it is asked for", 2, "block / in 0 / out 0 / branch 1 0 1 / block / resume", "1|", "1|"},
		{"round a loop, asked for behind it alone", 2, "block / branch 1 0 1 / block / ret 0", "0 1|0", "0 1|"},
		{"round a loop, asked for by nobody", 2, "block / in 0 / jump 1 / block / in 0 / jump 0", "|", "|"},
		{"round a loop of three, asked for in one", 2, "block / jump 1 / block / jump 2 / block / out 1 / jump 0", "1|1|1", "1|1|1"},
		{"round a loop of three, asked for in one, set in another", 2, "block / jump 1 / block / in 1 / jump 2 / block / out 1 / jump 0", "||1", "|1|"},
		{"a loop in a loop", 4, "block / jump 1 / block / branch 0 1 2 / block / branch 1 0 3 / block / ret 2", "0 1 2|0 1 2|0 1 2|2", "0 1 2|0 1 2|0 1 2|"},
		{"two ways, asked for on the one", 3, "block / branch 0 1 2 / block / ret 1 / block / resume", "0 1|1|", "1||"},
		{"two ways, asked for on the other", 3, "block / branch 0 1 2 / block / resume / block / ret 1", "0 1||1", "1||"},
		{"two ways, one place on each", 3, "block / branch 0 1 2 / block / ret 1 / block / ret 2", "0 1 2|1|2", "1 2||"},
		{"two ways that meet, set on the one", 2, "block / branch 0 1 2 / block / in 1 / jump 3 / block / jump 3 / block / ret 1", "0 1||1|1", "1|1|1|"},
		{"two ways that meet, set on both", 2, "block / branch 0 1 2 / block / in 1 / jump 3 / block / in 1 / jump 3 / block / ret 1", "0|||1", "|1|1|"},
		{"two ways to one", 2, "block / branch 0 1 1 / block / ret 1", "0 1|1", "1|"},
		{"a Branch asks behind what sets its place", 2, "block / in 0 / branch 0 1 1 / block / ret 0", "|0", "0|"},
		{"from one that isn't reached", 2, "block / resume / block / out 1 / jump 2 / block / ret 0", "|0 1|0", "|0|"},
		{"round a loop that isn't reached", 2, "block / resume / block / jump 2 / block / out 1 / jump 1", "|1|1", "|1|1"},
		{"to one that is reached from one that isn't", 2, "block / jump 1 / block / ret 0 / block / in 1 / jump 1", "0|0|0", "0||0"},
	}
}

func overInvokes() []lived {
	return []lived{
		{"Dst by its To, the Pad's by the Pad", 3, "block / invoke 0 0 1 2 / block / ret 0 / pad 1 all / ret 1", "|0|1", "||"},
		{"Dst by the Pad, the Pad's by its To", 3, "block / invoke 0 0 1 2 / block / ret 1 / pad 1 all / ret 0", "0 1|1|0", "0 1||"},
		{"Dst by both", 3, "block / invoke 0 0 1 2 / block / ret 0 / pad 1 all / ret 0", "0|0|0", "0||"},
		{"the Pad's by both", 3, "block / invoke 0 0 1 2 / block / ret 1 / pad 1 all / ret 1", "1|1|1", "1||"},
		{"one Dst of both, asked for by both", 2, "block / invoke 1 0 1 2 / block / ret 1 / pad 1 all / ret 1", "|1|1", "||"},
		{"one Dst of both, asked for by To", 2, "block / invoke 1 0 1 2 / block / ret 1 / pad 1 all / resume", "|1|", "||"},
		{"one Dst of both, asked for by the Pad", 2, "block / invoke 1 0 1 2 / block / resume / pad 1 all / ret 1", "||1", "||"},
		{"Dst, which it asks for itself", 3, "block / invoke 0 1 1 2 0 2 / block / ret 0 / pad 1 all / resume", "0 2|0|", "||"},
		{"the Pad's, which it asks for itself", 3, "block / invoke 0 1 1 2 1 1 / block / resume / pad 1 all / ret 1", "1||1", "||"},
		{"Args set ahead", 3, "block / in 2 / invoke 0 1 1 2 2 / block / ret 0 / pad 1 all / ret 1", "|0|1", "||"},
		{"others by both ways", 4, "block / invoke 0 0 1 2 / block / ret 2 / pad 1 all / ret 3", "2 3|2|3", "2 3||"},
		{"set ahead of it, live by the Pad alone", 2, "block / in 0 / invoke 0 0 1 2 / block / ret 0 / pad 1 cleanup / throw 0", "|0|0", "0||"},
		{"the Pad's, set again behind it", 2, "block / invoke 0 0 1 2 / block / resume / pad 1 catch 5 / in 1 / ret 1", "||", "||"},
		{"one pad of two, by Dsts that are unlike", 3, "block / invoke 0 0 1 2 / block / invoke 1 0 1 2 / pad 2 all / add 2 0 1 / ret 2", "0 1|0 1|0 1", "0 1|0 1|"},
		{"to itself", 2, "block / invoke 0 1 0 1 0 / pad 1 all / ret 1", "0|1", "|"},
		{"to itself, asked for by itself, and by the Pad", 2, "block / invoke 0 1 0 1 0 / pad 1 all / ret 0", "0|0", "0|"},
		{"a Landing one that nobody leads to", 2, "block / ret 0 / pad 1 all / throw 1", "0|1", "|"},
		{"a Landing one that goes on", 3, "block / invoke 0 0 1 2 / block / ret 2 / pad 1 all / copy 2 1 / jump 1", "2|2|1", "2||2"},
		{"a Pad's Dst by a Jump to what it asks for", 2, "block / invoke 0 0 1 2 / block / ret 1 / pad 1 all / jump 1", "1|1|1", "1||1"},
		{"a Pad that invokes the same Pad", 2, "block / invoke 0 0 1 2 / block / resume / pad 1 cleanup / invoke 1 0 1 2", "||", "||"},
		{"a Pad that invokes the same Pad, and asks", 2, "block / invoke 0 0 1 2 / block / resume / pad 1 cleanup / out 0 / invoke 1 1 1 2 1", "0||0 1", "0||0"},
		{"a loop by a Pad", 3, "block / jump 1 / block / invoke 0 0 2 3 / block / ret 0 / pad 1 all / out 2 / jump 1", "2|2|0|2", "2|2||2"},
	}
}

func cases() []lived { return slices.Concat(inOneBlock(), overBlocks(), overInvokes()) }

func TestAtAndBehind(t *testing.T) {
	for _, c := range cases() {
		f := function(t, c.regs, c.text)
		at, behind := At(f), Behind(f)
		if told(at) != c.at || told(behind) != c.behind {
			t.Errorf("%s: live are %s, and behind %s; not %s, and %s", c.name, told(at), told(behind), c.at, c.behind)
		}
		checkSizes(t, f, at)
		checkSizes(t, f, behind)
	}
}

// checkSizes: something is told of each place of each block.
func checkSizes(t *testing.T, f api.Func, live [][]bool) {
	t.Helper()
	if len(live) != len(f.Blocks) {
		t.Fatalf("%+v: %d lists, of %d blocks", f, len(live), len(f.Blocks))
	}
	for n, list := range live {
		if len(list) != f.Regs {
			t.Fatalf("%+v: block %d: %d places, of %d", f, n, len(list), f.Regs)
		}
	}
}

// Nobody has set arguments but who called.
func TestArgumentsAreLive(t *testing.T) {
	for params := range 4 {
		f := function(t, 3, "block / add 2 0 1 / jump 1 / block / ret 2")
		f.Params = params
		if at, behind := told(At(f)), told(Behind(f)); at != "0 1|2" || behind != "2|" {
			t.Errorf("%d Params: %s, %s", params, at, behind)
		}
	}
}
