package frame

import (
	"fmt"
	"slices"
	"testing"

	"davit/api"
	"davit/runs"
	"davit/word"
)

var pureOps = []int{api.Copy, api.Add, api.Sub, api.Mul, api.Div, api.Eq, api.Lt}

// Numbers that are no Op that is reckoned: api's others, those around them, and those that would be one if they were cut to fewer bits.
var otherOps = append([]int{
	api.Load, api.Store, api.Call, api.Out, api.In,
	0, 14, 15, 100, -1, -2, -3, 256 + api.Const, 256 + api.Add, 65536 + api.Copy, 1<<32 + api.Const, 1<<32 + api.Div,
}, farNumbers...)

// The words at which something goes round, or just doesn't.
var edgeWords = []uint16{0, 1, 2, 3, 255, 256, 32767, 32768, 65534, 65535}

func running(regs ...uint16) api.Frame { return api.Frame{F: 3, Block: 2, At: 5, Regs: regs, Fly: 11} }

// reckons holds a frame's step against what the chapter says: the place dst is n, At one more, all else as it was.
func reckons(t *testing.T, f api.Frame, x api.Ins, n uint16) {
	t.Helper()
	want := api.Frame{F: f.F, Block: f.Block, At: f.At + 1, Regs: slices.Clone(f.Regs), Fly: f.Fly}
	want.Regs[x.Dst] = n
	if got, ok := Reckon(f, x); !ok || !runs.AlikeFrames(got, want) {
		t.Errorf("%+v of %+v: %+v, %v; not %+v, true", x, f, got, ok, want)
	}
}

// staysAs holds that nothing is reckoned.
func staysAs(t *testing.T, f api.Frame, x api.Ins) {
	t.Helper()
	want := f
	want.Regs = slices.Clone(f.Regs)
	if got, ok := Reckon(f, x); ok || !runs.AlikeFrames(got, want) {
		t.Errorf("%+v of %+v: %+v, %v; not %+v, false", x, f, got, ok, want)
	}
}

func TestReckonExamples(t *testing.T) {
	for _, c := range []struct {
		name string
		regs []uint16
		x    api.Ins
		n    uint16
	}{
		{"the chapter's", []uint16{3, 4, 0}, api.Ins{Op: api.Add, Dst: 2, A: 0, B: 1}, 7},
		{"const", []uint16{3, 4, 9}, api.Ins{Op: api.Const, Dst: 2, K: 65535}, 65535},
		{"const of 0", []uint16{3, 4, 9}, api.Ins{Op: api.Const, Dst: 1}, 0},
		{"const of what it is", []uint16{3, 4, 9}, api.Ins{Op: api.Const, Dst: 0, K: 3}, 3},
		{"copy", []uint16{3, 4, 9}, api.Ins{Op: api.Copy, Dst: 2, A: 1}, 4},
		{"copy into itself", []uint16{3, 4, 9}, api.Ins{Op: api.Copy, Dst: 1, A: 1}, 4},
		{"add goes round", []uint16{65535, 1, 9}, api.Ins{Op: api.Add, Dst: 2, A: 0, B: 1}, 0},
		{"sub", []uint16{3, 4, 9}, api.Ins{Op: api.Sub, Dst: 2, A: 1, B: 0}, 1},
		{"sub goes round", []uint16{3, 4, 9}, api.Ins{Op: api.Sub, Dst: 2, A: 0, B: 1}, 65535},
		{"mul", []uint16{3, 4, 9}, api.Ins{Op: api.Mul, Dst: 2, A: 0, B: 1}, 12},
		{"mul by itself, into itself", []uint16{3, 4, 9}, api.Ins{Op: api.Mul, Dst: 2, A: 2, B: 2}, 81},
		{"div", []uint16{17, 5, 9}, api.Ins{Op: api.Div, Dst: 2, A: 0, B: 1}, 3},
		{"div of 0", []uint16{0, 5, 9}, api.Ins{Op: api.Div, Dst: 2, A: 0, B: 1}, 0},
		{"div into what it is by", []uint16{17, 5, 9}, api.Ins{Op: api.Div, Dst: 1, A: 0, B: 1}, 3},
		{"eq", []uint16{4, 4, 9}, api.Ins{Op: api.Eq, Dst: 2, A: 0, B: 1}, 1},
		{"not eq", []uint16{3, 4, 9}, api.Ins{Op: api.Eq, Dst: 2, A: 0, B: 1}, 0},
		{"lt", []uint16{3, 4, 9}, api.Ins{Op: api.Lt, Dst: 2, A: 0, B: 1}, 1},
		{"not lt", []uint16{3, 4, 9}, api.Ins{Op: api.Lt, Dst: 2, A: 1, B: 0}, 0},
	} {
		t.Run(c.name, func(t *testing.T) { reckons(t, running(c.regs...), c.x, c.n) })
	}
}

func TestReckonIsLayerOnes(t *testing.T) {
	for _, op := range pureOps {
		for _, a := range edgeWords {
			for _, b := range edgeWords {
				for dst := range 4 {
					f, x := running(21, a, b, 22), api.Ins{Op: op, Dst: dst, A: 1, B: 2}
					if op == api.Copy {
						x.B = 0
					}
					if n, ok := word.Do(op, a, b); ok {
						reckons(t, f, x, n)
					} else {
						staysAs(t, f, x)
					}
				}
			}
		}
	}
}

func TestReckonAtAnyPlaces(t *testing.T) {
	f := running(words(256)...)
	for _, op := range pureOps {
		for _, dst := range []int{0, 1, 254, 255} {
			for _, a := range []int{0, 1, 254, 255} {
				for _, b := range []int{0, 1, 254, 255} {
					n, _ := word.Do(op, f.Regs[a], f.Regs[b])
					reckons(t, f, api.Ins{Op: op, Dst: dst, A: a, B: b}, n)
				}
				reckons(t, f, api.Ins{Op: api.Const, Dst: dst, K: uint16(a)}, uint16(a))
			}
		}
	}
}

// The places that an instruction doesn't use are asked for by none.
func TestWhatIsNotUsedIsNotAskedFor(t *testing.T) {
	f := running(3, 4, 9)
	for _, far := range append([]int{-1, 3}, farNumbers...) {
		reckons(t, f, api.Ins{Op: api.Const, Dst: 2, K: 7, A: far, B: far, F: far, Args: []int{far}}, 7)
		reckons(t, f, api.Ins{Op: api.Copy, Dst: 2, A: 1, B: far, K: 7, F: far, Args: []int{far}}, 4)
		reckons(t, f, api.Ins{Op: api.Add, Dst: 2, A: 0, B: 1, K: 8, F: far, Args: []int{far}}, 7)
	}
}

// Where the frame stands isn't asked for: At, Block and F may be any numbers.
func TestReckonWhereverTheFrameStands(t *testing.T) {
	for _, far := range []int{-2, -1, 0, 1, 64, 65, 1000} {
		f := api.Frame{F: far, Block: far, At: far, Regs: []uint16{3, 4, 0}, Fly: 65535}
		reckons(t, f, api.Ins{Op: api.Add, Dst: 2, A: 0, B: 1}, 7)
		staysAs(t, f, api.Ins{Op: api.Out})
	}
}

func TestOtherOpsAreNotReckoned(t *testing.T) {
	for _, op := range otherOps {
		f := running(3, 4, 9)
		staysAs(t, f, api.Ins{Op: op})
		staysAs(t, f, api.Ins{Op: op, Dst: 2, A: 0, B: 1, K: 7, F: 1, Args: []int{1}})
		staysAs(t, f, api.Ins{Op: op, Dst: -1, A: 3, B: 9})
	}
}

func TestPlacesThatAreNotThere(t *testing.T) {
	for _, count := range []int{1, 2, 3, 256} {
		f := running(words(count)...)
		for _, far := range append([]int{-3, -2, -1, count, count + 1, 257, 300, 65536 + 1}, farNumbers...) {
			if 0 <= far && far < count {
				continue
			}
			staysAs(t, f, api.Ins{Op: api.Const, Dst: far, K: 7})
			staysAs(t, f, api.Ins{Op: api.Copy, Dst: far})
			staysAs(t, f, api.Ins{Op: api.Copy, A: far})
			for _, op := range pureOps[1:] {
				staysAs(t, f, api.Ins{Op: op, Dst: far})
				staysAs(t, f, api.Ins{Op: op, A: far})
				staysAs(t, f, api.Ins{Op: op, B: far})
				staysAs(t, f, api.Ins{Op: op, Dst: far, A: far, B: far})
			}
		}
	}
}

func TestNoPlaceAtAll(t *testing.T) {
	for _, op := range append(append([]int{api.Const}, pureOps...), otherOps...) {
		staysAs(t, running(), api.Ins{Op: op})
		staysAs(t, api.Frame{}, api.Ins{Op: op})
		staysAs(t, api.Frame{Regs: []uint16{}}, api.Ins{Op: op})
	}
}

func TestDivisionByNought(t *testing.T) {
	for _, a := range edgeWords {
		f := running(a, 0, 9)
		for dst := range 3 {
			staysAs(t, f, api.Ins{Op: api.Div, Dst: dst, A: 0, B: 1})
			staysAs(t, f, api.Ins{Op: api.Div, Dst: dst, A: 1, B: 1})
		}
	}
}

func TestGo(t *testing.T) {
	for _, f := range []api.Frame{running(3, 4, 9), running(), {}, {F: -1, Block: -1, At: -1, Regs: words(300), Fly: 65535}} {
		for _, block := range append([]int{-1, 0, 1, 2, 3, 63, 64}, farNumbers...) {
			t.Run(fmt.Sprint(block), func(t *testing.T) {
				want := api.Frame{F: f.F, Block: block, At: 0, Regs: slices.Clone(f.Regs), Fly: f.Fly}
				if got := Go(f, block); !runs.AlikeFrames(got, want) {
					t.Errorf("%+v: %+v", f, got)
				}
			})
		}
	}
}
