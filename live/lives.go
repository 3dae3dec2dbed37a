package live

import (
	"slices"

	"davit/api"
	"davit/lists"
	"davit/shape"
)

// lives says of each block of each place whether it is live, as far as that was found.
type lives struct {
	f          api.Func
	at, behind [][]bool
}

// livesOf begins with nothing live behind any block and takes up what must be, till nothing more comes: that is the least that is so.
func livesOf(f api.Func) lives {
	if !couldBe(f) {
		return lives{}
	}
	l := lives{f: f, at: make([][]bool, len(f.Blocks)), behind: make([][]bool, len(f.Blocks))}
	for n := range f.Blocks {
		l.put(n, make([]bool, f.Regs))
	}
	for l.grow() {
	}
	return l
}

// put what is live behind a block, and what is live at its beginning by that.
func (l lives) put(n int, behind []bool) {
	l.at[n], l.behind[n] = beginning(l.f.Blocks[n], behind), behind
}

// grow tells whether more was found. It goes from the last block to the first: most ways lead on, and what is live comes against them.
func (l lives) grow() bool {
	grown := false
	for n, b := range slices.Backward(l.f.Blocks) {
		if behind := l.behindEnd(b); !slices.Equal(behind, l.behind[n]) {
			l.put(n, behind)
			grown = true
		}
	}
	return grown
}

// behindEnd is what is live behind a block, by what was found at the beginnings of others.
func (l lives) behindEnd(b api.Block) []bool {
	const none = -1
	live := make([]bool, l.f.Regs)
	if b.End.Kind == api.Invoke {
		l.add(live, b.End.To, b.End.Dst)
		l.add(live, b.End.Pad, l.f.Blocks[b.End.Pad].Pad.Dst)
		return live
	}
	for _, goal := range shape.Goals(b) {
		l.add(live, goal, none)
	}
	return live
}

// add what is live at a block's beginning, but the place that is set on the way there.
func (l lives) add(live []bool, n, set int) {
	for place, is := range l.at[n] {
		if is && place != set {
			live[place] = true
		}
	}
}

// beginning is what is live at a block's beginning, by what is live behind it.
func beginning(b api.Block, behind []bool) []bool {
	live := lists.Own(behind)
	ask(live, EndAsks(b.End))
	for _, x := range slices.Backward(b.Ins) {
		if place, ok := Sets(x); ok {
			live[place] = false
		}
		// Behind what it sets: where it asks for that place, too, it uses the word from ahead of it.
		ask(live, Asks(x))
	}
	return live
}

func ask(live []bool, places []int) {
	for _, place := range places {
		live[place] = true
	}
}
