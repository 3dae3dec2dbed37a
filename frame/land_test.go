package frame

import (
	"slices"
	"testing"

	"davit/api"
	"davit/runs"
)

func TestCatches(t *testing.T) {
	for _, c := range []struct {
		name string
		p    api.Pad
		w    uint16
		want bool
	}{
		{"all", api.Pad{All: true}, 5, true},
		{"all, 0", api.Pad{All: true}, 0, true},
		{"all, the greatest", api.Pad{All: true}, 65535, true},
		{"all, and others", api.Pad{All: true, Catch: []uint16{6, 7}}, 5, true},
		{"all, and it", api.Pad{All: true, Catch: []uint16{5}}, 5, true},
		{"alone", api.Pad{Catch: []uint16{5}}, 5, true},
		{"alone, not it", api.Pad{Catch: []uint16{5}}, 6, false},
		{"first", api.Pad{Catch: []uint16{5, 6, 7}}, 5, true},
		{"in the middle", api.Pad{Catch: []uint16{6, 5, 7}}, 5, true},
		{"last", api.Pad{Catch: []uint16{6, 7, 5}}, 5, true},
		{"not at all", api.Pad{Catch: []uint16{6, 7, 8}}, 5, false},
		{"between", api.Pad{Catch: []uint16{4, 6}}, 5, false},
		{"alike but for the upper half", api.Pad{Catch: []uint16{5 + 256}}, 5, false},
		{"last of as many as there may be", api.Pad{Catch: words(8)}, words(8)[7], true},
		{"last of more", api.Pad{Catch: words(100)}, words(100)[99], true},
		{"the greatest", api.Pad{Catch: []uint16{0, 65535}}, 65535, true},
		{"0 is one as any", api.Pad{Catch: []uint16{7, 0}}, 0, true},
		{"0 of none", api.Pad{}, 0, false},
		{"none", api.Pad{Catch: []uint16{}}, 5, false},
		{"a cleanup", api.Pad{Cleanup: true}, 5, false},
		{"a cleanup, 0", api.Pad{Cleanup: true}, 0, false},
		{"a cleanup that catches it", api.Pad{Cleanup: true, Catch: []uint16{5}}, 5, true},
		{"its Dst is no number of Catch", api.Pad{Dst: 5, Catch: []uint16{6}}, 5, false},
	} {
		if Catches(c.p, c.w) != c.want {
			t.Errorf("%s: Catches is %v", c.name, !c.want)
		}
	}
}

func TestCatchesEachOfItsNumbersAlone(t *testing.T) {
	p := api.Pad{Catch: []uint16{9, 0, 65535, 300}}
	for w := range 1 << 16 {
		if got := Catches(p, uint16(w)); got != slices.Contains([]int{0, 9, 300, 65535}, w) {
			t.Errorf("%d: Catches is %v", w, got)
		}
		if !Catches(api.Pad{All: true}, uint16(w)) || Catches(api.Pad{Cleanup: true}, uint16(w)) {
			t.Errorf("%d: All, or a Cleanup", w)
		}
	}
}

// The pads of the example, by function and block: the place Dst of each.
var pads = map[[2]int]int{{0, 2}: 3, {0, 3}: 0, {0, 4}: 2, {1, 1}: 1}

func TestLand(t *testing.T) {
	m := example()
	landed := 0
	allRight(m, func(f api.Frame) {
		for pad := -2; pad <= 7; pad++ {
			for _, w := range []uint16{0, 1, 5, 256, 65535} {
				got, err := Land(m, f, pad, w)
				dst, lands := pads[[2]int{f.F, pad}]
				if !lands {
					if err != api.ErrArg || !runs.AlikeFrames(got, f) {
						t.Errorf("%+v at %d: %+v, %v", f, pad, got, err)
					}
					continue
				}
				landed++
				want := api.Frame{F: f.F, Block: pad, At: 0, Regs: words(len(f.Regs)), Fly: w}
				want.Regs[dst] = w
				if err != api.OK || !runs.AlikeFrames(got, want) {
					t.Errorf("%+v at %d: %+v, %v; not %+v", f, pad, got, err, want)
				}
			}
		}
	})
	if landed != 5*(12*3+4) {
		t.Errorf("%d landed", landed)
	}
}

func TestNoLandingFarOff(t *testing.T) {
	m := example()
	for _, pad := range append([]int{8, 63, 64, 1<<32 + 2, 65536 + 2, 256 + 2}, farNumbers...) {
		allRight(m, func(f api.Frame) {
			if got, err := Land(m, f, pad, 5); err != api.ErrArg || !runs.AlikeFrames(got, f) {
				t.Errorf("%+v at %d: %+v, %v", f, pad, got, err)
			}
		})
	}
}

func TestNoLandingOfAFrameThatMayNotBe(t *testing.T) {
	m := example()
	refused := func(m api.Module, f api.Frame, pad int) {
		t.Helper()
		if got, err := Land(m, f, pad, 5); err != api.ErrArg || !runs.AlikeFrames(got, f) {
			t.Errorf("%+v at %d: %+v, %v", f, pad, got, err)
		}
	}
	for n := -2; n <= 5; n++ {
		for block := -2; block <= 6; block++ {
			for at := -2; at <= 6; at++ {
				for regs := range 11 {
					f := api.Frame{F: n, Block: block, At: at, Regs: words(regs), Fly: 77}
					for pad := 1; pad <= 4 && !mayBe(f); pad++ {
						refused(m, f, pad)
					}
				}
			}
		}
	}
	for _, far := range farNumbers {
		refused(m, api.Frame{F: far, Regs: words(4), Fly: 77}, 2)
		refused(m, api.Frame{Block: far, Regs: words(4), Fly: 77}, 2)
		refused(m, api.Frame{At: far, Regs: words(4), Fly: 77}, 2)
	}
	for _, m := range mayNotBe() {
		allRight(m, func(f api.Frame) {
			for pad := 1; pad <= 4; pad++ {
				refused(m, f, pad)
			}
		})
		refused(m, api.Frame{}, 0)
	}
}

// Nobody asks whether the pad catches: a cleanup lands, too.
func TestLandAtAPadThatDoesNotCatch(t *testing.T) {
	m := example()
	f := api.Frame{At: 4, Regs: []uint16{1, 2, 3, 4}, Fly: 5}
	for pad, want := range map[int][]uint16{2: {1, 2, 3, 6}, 3: {6, 2, 3, 4}} {
		if Catches(m.Funcs[0].Blocks[pad].Pad, 6) {
			t.Fatalf("pad %d catches it", pad)
		}
		got, err := Land(m, f, pad, 6)
		if err != api.OK || !runs.AlikeFrames(got, api.Frame{Block: pad, Regs: want, Fly: 6}) {
			t.Errorf("pad %d: %+v, %v", pad, got, err)
		}
	}
}
