package frame

import (
	"reflect"
	"slices"
	"testing"

	"davit/api"
	"davit/runs"
	"davit/shape"
	"davit/word"
)

func TestWhatMayBeStaysOne(t *testing.T) {
	m := example()
	reckoned := 0
	allRight(m, func(f api.Frame) {
		b := m.Funcs[f.F].Blocks[f.Block]
		if f.At < len(b.Ins) {
			x := b.Ins[f.At]
			g, ok := Reckon(f, x)
			if ok != (x.Op == api.Const || word.Pure(x.Op)) || !Right(m, g) {
				t.Errorf("%+v reckons %+v: %+v, %v", f, x, g, ok)
			}
			if ok {
				reckoned++
			}
		}
		for n, b := range m.Funcs[f.F].Blocks {
			if g := Go(f, n); !Right(m, g) {
				t.Errorf("%+v goes to %d: %+v may not be", f, n, g)
			}
			if g, err := Land(m, f, n, 5); err == api.OK != b.Landing || !Right(m, g) {
				t.Errorf("%+v lands at %d: %+v, %v", f, n, g, err)
			}
		}
	})
	if reckoned != 7 {
		t.Errorf("%d were reckoned", reckoned)
	}
}

// What goes to a block that isn't there may not be: Go asks nothing.
func TestGoAsksNothing(t *testing.T) {
	m := example()
	for _, block := range []int{-1, 5} {
		if Right(m, Go(api.Frame{Regs: words(4)}, block)) {
			t.Errorf("a frame at block %d may be", block)
		}
	}
}

// A frame's function, run by this layer's calls alone.
func TestStepByStep(t *testing.T) {
	m := example()
	f, err := New(m, 2, []uint16{9, 65535, 2})
	if err != api.OK {
		t.Fatal(err)
	}
	for at, want := range [][]uint16{{9, 65535, 2, 0, 1}, {1, 65535, 2, 0, 1}} {
		var ok bool
		if f, ok = Reckon(f, m.Funcs[2].Blocks[0].Ins[at]); !ok || !runs.AlikeFrames(f, api.Frame{F: 2, At: at + 1, Regs: want}) {
			t.Fatal(at, f, ok)
		}
	}
}

// steps are all calls that are given a frame, with what they answer when all is well, and when not.
func steps(m api.Module) map[string]func(f api.Frame) api.Frame {
	reckon := func(x api.Ins) func(f api.Frame) api.Frame {
		return func(f api.Frame) api.Frame {
			g, _ := Reckon(f, x)
			return g
		}
	}
	land := func(m api.Module, pad int) func(f api.Frame) api.Frame {
		return func(f api.Frame) api.Frame {
			g, _ := Land(m, f, pad, 5)
			return g
		}
	}
	return map[string]func(f api.Frame) api.Frame{
		"Const":                  reckon(api.Ins{Op: api.Const, Dst: 1, K: 7}),
		"Copy":                   reckon(api.Ins{Op: api.Copy, Dst: 1, A: 2}),
		"Add":                    reckon(api.Ins{Op: api.Add, Dst: 1, A: 1, B: 2}),
		"Out":                    reckon(api.Ins{Op: api.Out, A: 1}),
		"Div by 0":               reckon(api.Ins{Op: api.Div, Dst: 1, A: 0, B: 3}),
		"no Dst":                 reckon(api.Ins{Op: api.Const, Dst: 4, K: 7}),
		"Land":                   land(m, 4),
		"no Pad":                 land(m, 1),
		"no block":               land(m, 5),
		"no module":              land(api.Module{}, 4),
		"Go":                     func(f api.Frame) api.Frame { return Go(f, 1) },
		"Go to where it was":     func(f api.Frame) api.Frame { return Go(f, 0) },
		"Go to what isn't there": func(f api.Frame) api.Frame { return Go(f, -1) },
	}
}

// roomy is a frame whose list has spare room, with something in it.
func roomy() api.Frame {
	return api.Frame{F: 0, Block: 0, At: 1, Regs: []uint16{10, 20, 30, 0, 91, 92}[:4], Fly: 6}
}

func TestAFrameThatIsHandedInIsNotChanged(t *testing.T) {
	m := example()
	for name, step := range steps(m) {
		f := roomy()
		step(f)
		Right(m, f)
		if !reflect.DeepEqual(f, roomy()) || !slices.Equal(f.Regs[:6], roomy().Regs[:6]) {
			t.Errorf("%s: %+v, with %v", name, f, f.Regs[:6])
		}
	}
	if !shape.Same(m, example()) {
		t.Error("the module is changed")
	}
}

func TestWhatIsAnsweredSharesNoList(t *testing.T) {
	for name, step := range steps(example()) {
		f := roomy()
		g := step(f)
		want := slices.Clone(g.Regs)
		for i := range f.Regs[:6] {
			f.Regs[:6][i] += 1000
		}
		if !slices.Equal(g.Regs, want) {
			t.Errorf("%s: what is written to the frame stands in the answer", name)
		}
		f = roomy()
		g = step(f)
		for i := range g.Regs[:cap(g.Regs)] {
			g.Regs[:cap(g.Regs)][i] += 1000
		}
		if !slices.Equal(f.Regs[:6], roomy().Regs[:6]) {
			t.Errorf("%s: what is written to the answer stands in the frame", name)
		}
	}
}

// A list of no places has none of the room of the one handed in, either.
func TestAnEmptyListIsNotKept(t *testing.T) {
	m := example()
	for name, step := range steps(m) {
		room := []uint16{7}
		g := step(api.Frame{Regs: room[:0]})
		if len(g.Regs) != 0 {
			t.Fatalf("%s: %+v", name, g)
		}
		_ = append(g.Regs, 9)
		if room[0] != 7 {
			t.Errorf("%s: what is put behind the answer stands in the room of the frame", name)
		}
	}
}

func TestArgumentsAreNotKept(t *testing.T) {
	for _, n := range []int{1, 2, 3} {
		m := example()
		args := append(words(m.Funcs[n].Params), 91, 92)
		given := args[:len(args)-2]
		f, _ := New(m, n, given)
		g, _ := New(m, n, given)
		for i := range f.Regs[:cap(f.Regs)] {
			f.Regs[:cap(f.Regs)][i]++
		}
		if !slices.Equal(given, words(m.Funcs[n].Params)) || !slices.Equal(args[len(given):], []uint16{91, 92}) {
			t.Errorf("function %d: what is written to the frame stands in the arguments: %v", n, args)
		}
		for i := range args {
			args[i] += 1000
		}
		if want := append(words(m.Funcs[n].Params), make([]uint16, m.Funcs[n].Regs-m.Funcs[n].Params)...); !slices.Equal(g.Regs, want) {
			t.Errorf("function %d: what is written to the arguments or to another frame stands in the frame: %v", n, g.Regs)
		}
		if !shape.Same(m, example()) {
			t.Error("the module is changed")
		}
	}
}

func TestAPadThatIsHandedInIsNotChanged(t *testing.T) {
	catch := []uint16{9, 3, 5, 91}
	for _, w := range []uint16{5, 9, 91} {
		Catches(api.Pad{Catch: catch[:3]}, w)
	}
	if !slices.Equal(catch, []uint16{9, 3, 5, 91}) {
		t.Error(catch)
	}
	if Catches(api.Pad{Catch: catch[:3]}, 91) {
		t.Error("what stands in the spare room is caught")
	}
}
