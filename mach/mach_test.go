package mach

import (
	"math"
	"reflect"
	"slices"
	"testing"

	"davit/api"
	"davit/frame"
	"davit/runs"
	"davit/samples"
	"davit/shape"
)

// Numbers far from any that is right, some of which would be right if they were cut to fewer bits.
var farNumbers = []int{-1000, -256, 256, 1000, 1 << 16, 1<<16 + 1, 1 << 32, 1<<32 + 1, math.MaxInt, math.MaxInt - 1, math.MinInt, math.MinInt + 1}

// example is a module that calls and invokes: function 0 invokes 1, which calls 2, and 3, that has two arguments.
const example = "func 0 3 / block / const 0 7 / call 1 3 0 0 / out 1 / invoke 2 1 1 2 0 / block / ret 2 / pad 1 catch 5 65535 / jump 1" +
	" / func 1 2 / block / call 1 2 / ret 1" +
	" / func 0 1 / block / const 0 5 / throw 0" +
	" / func 2 4 / block / add 2 0 1 / in 3 / invoke 3 2 1 2 / block / ret 2 / pad 0 all / resume"

// mayNotBe are modules that may not be, each but a little off the example.
func mayNotBe() map[string]api.Module {
	broken := func(change func(m *api.Module)) api.Module {
		m := samples.Module(example)
		change(&m)
		return m
	}
	return map[string]api.Module{
		"no function":                   {},
		"too many functions":            broken(func(m *api.Module) { m.Funcs = slices.Repeat(m.Funcs, 5) }),
		"a first function with Params":  broken(func(m *api.Module) { m.Funcs[0].Params = 1 }),
		"a function without a block":    broken(func(m *api.Module) { m.Funcs[2].Blocks = nil }),
		"an Op that is none":            broken(func(m *api.Module) { m.Funcs[3].Blocks[0].Ins[1].Op = 14 }),
		"a place that isn't there":      broken(func(m *api.Module) { m.Funcs[3].Blocks[2].Pad.Dst = 4 }),
		"an end that is none":           broken(func(m *api.Module) { m.Funcs[3].Blocks[1].End = api.End{} }),
		"a call with too few arguments": broken(func(m *api.Module) { m.Funcs[0].Blocks[0].Ins[1].Args = []int{0} }),
		"a jump to a pad":               broken(func(m *api.Module) { m.Funcs[0].Blocks[2].End.To = 2 }),
	}
}

func TestNew(t *testing.T) {
	m := samples.Module(example)
	for _, inputs := range [][]uint16{nil, {}, {7}, {0, 65535, 3}} {
		want := api.Mach{Stack: []api.Frame{{Regs: []uint16{0, 0, 0}}}, Inputs: inputs}
		if s, err := New(m, inputs); err != api.OK || !runs.Alike(s, want) || !Right(m, s) {
			t.Errorf("%v: %+v, %v", inputs, s, err)
		}
	}
	least := samples.Module("func 0 0 / block / resume")
	if s, err := New(least, nil); err != api.OK || !runs.Alike(s, api.Mach{Stack: []api.Frame{{}}}) {
		t.Error(s, err)
	}
}

func TestModulesThatMayNotBe(t *testing.T) {
	may, _ := New(samples.Module(example), []uint16{3})
	done := Copy(may)
	done.Done = api.Answered
	for name, m := range mayNotBe() {
		if shape.Right(m) {
			t.Fatalf("%s: the module may be", name)
		}
		if s, err := New(m, []uint16{3}); err != api.ErrArg || !reflect.DeepEqual(s, api.Mach{}) {
			t.Errorf("%s: New: %+v, %v", name, s, err)
		}
		for _, fuel := range []int{-1, 0, 1, 1 << 20, 1<<20 + 1} {
			if s, err := Run(m, []uint16{3}, fuel); err != api.ErrArg || !reflect.DeepEqual(s, api.Mach{}) {
				t.Errorf("%s: Run of %d: %+v, %v", name, fuel, s, err)
			}
		}
		for _, s := range []api.Mach{may, done, {}, {Done: api.Answered}} {
			if Right(m, s) {
				t.Errorf("%s: %+v may be", name, s)
			}
			stays(t, m, s, api.ErrArg)
		}
	}
}

// stays: a step of it answers it as it is, with that error.
func stays(t *testing.T, m api.Module, s api.Mach, err api.Errno) {
	t.Helper()
	want := Copy(s)
	if got, e := Step(m, s); e != err || !runs.Alike(got, want) {
		t.Errorf("a step of %+v: %+v, %v", want, got, e)
	}
}

// at is a frame of a module, of words that are all unlike.
func at(m api.Module, f, block, at int) api.Frame {
	regs := make([]uint16, m.Funcs[f].Regs)
	for i := range regs {
		regs[i] = uint16(40000 + 7*i)
	}
	return api.Frame{F: f, Block: block, At: at, Regs: regs, Fly: 77}
}

func TestHowItEndedByTheEdges(t *testing.T) {
	m := samples.Module(example)
	one := []api.Frame{at(m, 0, 0, 0)}
	for done := -3; done <= 9; done++ {
		if got := Right(m, api.Mach{Stack: one, Done: done}); got != (done >= 0 && done <= 6) {
			t.Errorf("Done %d: %v", done, got)
		}
		// One that ended may have no frame left.
		if got := Right(m, api.Mach{Done: done}); got != (done >= 1 && done <= 6) {
			t.Errorf("Done %d of no frame: %v", done, got)
		}
		if done != 0 {
			err := api.OK
			if done < 0 || done > 6 {
				err = api.ErrArg
			}
			stays(t, m, api.Mach{Stack: one, Done: done, Inputs: []uint16{4}, Events: []int{9}, Value: 3}, err)
		}
	}
	stays(t, m, api.Mach{}, api.ErrArg)
	stays(t, m, api.Mach{Stack: []api.Frame{}, Inputs: []uint16{4}, Events: []int{9}, Value: 3}, api.ErrArg)
	for _, far := range farNumbers {
		if Right(m, api.Mach{Stack: one, Done: far}) || Right(m, api.Mach{Done: far}) {
			t.Errorf("Done %d may be", far)
		}
		stays(t, m, api.Mach{Stack: one, Done: far}, api.ErrArg)
	}
}

// Nothing is asked of what a machine has beside its frames and Done.
func TestAnyCellsInputsEventsAndValue(t *testing.T) {
	m := samples.Module(example)
	for done := range 7 {
		s := api.Mach{Stack: []api.Frame{at(m, 0, 1, 0)}, Inputs: []uint16{0, 65535}, Events: []int{-1, math.MaxInt, math.MinInt}, Done: done, Value: 65535}
		for i := range s.Cells {
			s.Cells[i] = 65535 - uint16(i)
		}
		if !Right(m, s) {
			t.Errorf("%+v may not be", s)
		}
	}
}

func TestHowManyFrames(t *testing.T) {
	m := samples.Module("func 0 1 / block / call 0 0 / ret 0")
	for done := range 7 {
		for count := 1; count <= 40; count++ {
			s := api.Mach{Stack: slices.Repeat([]api.Frame{at(m, 0, 0, 0)}, count), Done: done}
			if got := Right(m, s); got != (count <= 32) {
				t.Errorf("Done %d, %d frames: %v", done, count, got)
			}
			if count > 32 {
				stays(t, m, s, api.ErrArg)
			}
		}
	}
	if Right(m, api.Mach{Stack: slices.Repeat([]api.Frame{at(m, 0, 0, 0)}, 1<<16)}) {
		t.Error("65536 frames may be")
	}
}

// A frame that may not be is refused wherever it stands, whether the machine Runs or not.
func TestFramesThatMayNotBe(t *testing.T) {
	m := samples.Module(example)
	stack := []api.Frame{at(m, 0, 0, 3), at(m, 1, 0, 0), at(m, 2, 0, 1)}
	for done := range 7 {
		if !Right(m, api.Mach{Stack: stack, Done: done}) {
			t.Fatalf("Done %d: the frames may not be", done)
		}
	}
	for i := range stack {
		for name, change := range map[string]func(f *api.Frame){
			"no function":    func(f *api.Frame) { f.F = 4 },
			"below 0":        func(f *api.Frame) { f.F = -1 },
			"no block":       func(f *api.Frame) { f.Block = 3 },
			"block below 0":  func(f *api.Frame) { f.Block = -1 },
			"beyond the end": func(f *api.Frame) { f.At = 4 },
			"At below 0":     func(f *api.Frame) { f.At = -1 },
			"a place more":   func(f *api.Frame) { f.Regs = append(f.Regs, 0) },
			"a place fewer":  func(f *api.Frame) { f.Regs = f.Regs[1:] },
			"no place":       func(f *api.Frame) { f.Regs = nil },
		} {
			for done := range 7 {
				s := Copy(api.Mach{Stack: stack, Done: done, Value: 9})
				change(&s.Stack[i])
				if frame.Right(m, s.Stack[i]) {
					t.Fatalf("%s: %+v may be", name, s.Stack[i])
				}
				if Right(m, s) {
					t.Errorf("frame %d, %s: %+v may be", i, name, s)
				}
				stays(t, m, s, api.ErrArg)
			}
		}
		for _, far := range farNumbers {
			for _, change := range []func(f *api.Frame){
				func(f *api.Frame) { f.F = far }, func(f *api.Frame) { f.Block = far }, func(f *api.Frame) { f.At = far },
			} {
				s := Copy(api.Mach{Stack: stack})
				change(&s.Stack[i])
				if Right(m, s) {
					t.Errorf("frame %d: %+v may be", i, s)
				}
				stays(t, m, s, api.ErrArg)
			}
		}
	}
}

// Where a frame of the example stands, by heart: the function that is called there.
func calledAt(f, block, at int) int {
	switch [3]int{f, block, at} {
	case [3]int{0, 0, 1}:
		return 3
	case [3]int{0, 0, 3}:
		return 1
	case [3]int{1, 0, 0}, [3]int{3, 0, 2}:
		return 2
	}
	return -1
}

func TestWhereALowerFrameStands(t *testing.T) {
	m := samples.Module(example)
	var frames []api.Frame
	for n, f := range m.Funcs {
		for i, b := range f.Blocks {
			for x := range len(b.Ins) + 1 {
				frames = append(frames, at(m, n, i, x))
			}
		}
	}
	count := 0
	for _, low := range frames {
		for _, top := range frames {
			may := calledAt(low.F, low.Block, low.At) == top.F
			for done := range 7 {
				s := api.Mach{Stack: []api.Frame{low, top}, Done: done}
				if got := Right(m, s); got != may {
					t.Errorf("Done %d: %+v below %+v: %v", done, low, top, got)
				}
			}
			if !may {
				stays(t, m, api.Mach{Stack: []api.Frame{low, top}}, api.ErrArg)
			}
			// Who stands wrong may have two above.
			for _, third := range frames {
				s := api.Mach{Stack: []api.Frame{low, top, third}}
				all := may && calledAt(top.F, top.Block, top.At) == third.F
				if got := Right(m, s); got != all {
					t.Errorf("%+v, %+v, %+v: %v", low, top, third, got)
				}
				if all {
					count++
				}
			}
		}
	}
	if count == 0 {
		t.Error("nobody stands right")
	}
}

// An end that isn't an Invoke has F 0, as a call of function 0 has.
func TestOtherEndsAreNoInvokesOfTheFirst(t *testing.T) {
	m := samples.Module("func 0 1 / block / const 0 1 / invoke 0 0 1 2 / block / ret 0 / pad 0 all / jump 3 / block / branch 0 1 4 / block / throw 0 / pad 0 cleanup / resume")
	for block := range m.Funcs[0].Blocks {
		for x := range len(m.Funcs[0].Blocks[block].Ins) + 1 {
			s := api.Mach{Stack: []api.Frame{at(m, 0, block, x), at(m, 0, 0, 0)}}
			if got := Right(m, s); got != (block == 0 && x == 1) {
				t.Errorf("block %d, At %d: %v", block, x, got)
			}
		}
	}
}
