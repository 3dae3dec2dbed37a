package mach

import (
	"slices"
	"testing"

	"davit/api"
	"davit/runs"
	"davit/samples"
)

// steps holds one step of a machine against what the chapter says of it.
func steps(t *testing.T, m api.Module, s, want api.Mach) {
	t.Helper()
	given := Copy(s)
	if !Right(m, s) {
		t.Fatalf("%+v may not be", s)
	}
	got, err := Step(m, s)
	if err != api.OK || !runs.Alike(got, want) {
		t.Errorf("a step of %+v:\n%+v, %v; not\n%+v", given, got, err, want)
	}
	if !Right(m, got) {
		t.Errorf("%+v may not be any more", got)
	}
	if !runs.Alike(s, given) {
		t.Errorf("%+v is now %+v", given, s)
	}
}

// ends holds that a step ends the machine with all else as it was, Value 0.
func ends(t *testing.T, m api.Module, s api.Mach, done int) {
	t.Helper()
	want := Copy(s)
	want.Done, want.Value = done, 0
	steps(t, m, s, want)
}

// before is a machine of one frame of function 0, with these places, all else unlike nought.
func before(m api.Module, at int, regs ...uint16) api.Mach {
	s := api.Mach{Stack: []api.Frame{{At: at, Regs: regs, Fly: 77}}, Inputs: []uint16{11, 65535, 0}, Events: []int{5, 65536 + 6}, Value: 9}
	for i := range s.Cells {
		s.Cells[i] = uint16(300 + i)
	}
	return s
}

// after is a machine with its top frame one on, and the places of that.
func after(s api.Mach, regs ...uint16) api.Mach {
	s = Copy(s)
	top := &s.Stack[len(s.Stack)-1]
	top.At++
	top.Regs = regs
	return s
}

func TestReckons(t *testing.T) {
	for line, want := range map[string]uint16{
		"const 2 65535": 65535, "copy 2 0": 3, "add 2 0 1": 7, "sub 2 0 1": 65535, "mul 2 0 1": 12, "div 2 1 0": 1, "eq 2 0 1": 0, "lt 2 0 1": 1,
	} {
		m := samples.Module("func 0 3 / block / " + line + " / ret 0")
		s := before(m, 0, 3, 4, 9)
		steps(t, m, s, after(s, 3, 4, want))
	}
}

func TestDivisionByNought(t *testing.T) {
	m := samples.Module("func 0 3 / block / const 0 1 / div 2 0 1 / ret 0")
	for _, n := range []uint16{0, 1, 65535} {
		ends(t, m, before(m, 1, n, 0, 9), api.NoQuot)
	}
	s := before(m, 1, 0, 5, 9)
	steps(t, m, s, after(s, 0, 5, 0))
}

func TestCells(t *testing.T) {
	m := samples.Module("func 0 3 / block / load 2 1 / store 1 2 / ret 0")
	for n := range uint16(16) {
		s := before(m, 0, 3, n, 9)
		steps(t, m, s, after(s, 3, n, 300+n))
		s = before(m, 1, 3, n, 65535)
		want := after(s, 3, n, 65535)
		want.Cells[n] = 65535
		steps(t, m, s, want)
	}
	for _, n := range []uint16{16, 17, 31, 32, 255, 256, 257, 32768, 65520, 65535} {
		ends(t, m, before(m, 0, 3, n, 9), api.NoCell)
		ends(t, m, before(m, 1, 3, n, 9), api.NoCell)
	}
	// Into the place that told which cell, and a cell's own number.
	m = samples.Module("func 0 2 / block / load 1 1 / store 1 1 / ret 0")
	s := before(m, 0, 3, 15)
	steps(t, m, s, after(s, 3, 315))
	s = before(m, 1, 3, 15)
	want := after(s, 3, 15)
	want.Cells[15] = 15
	steps(t, m, s, want)
}

func TestOutAndIn(t *testing.T) {
	m := samples.Module("func 0 2 / block / out 1 / in 1 / ret 0")
	for _, n := range []uint16{0, 1, 300, 65535} {
		s := before(m, 0, 3, n)
		want := after(s, 3, n)
		want.Events = []int{5, 65536 + 6, int(n)}
		steps(t, m, s, want)
		s.Events = nil
		want.Events = []int{int(n)}
		steps(t, m, s, want)

		s = before(m, 1, 3, 4)
		for _, rest := range [][]uint16{nil, {8}, {8, 9, n}} {
			s.Inputs = append([]uint16{n}, rest...)
			want = after(s, 3, n)
			want.Events = []int{5, 65536 + 6, 65536 + int(n)}
			want.Inputs = rest
			steps(t, m, s, want)
		}
	}
	for _, none := range [][]uint16{nil, {}} {
		s := before(m, 1, 3, 4)
		s.Inputs = none
		ends(t, m, s, api.NoInput)
	}
}

func TestJumpAndBranch(t *testing.T) {
	m := samples.Module("func 0 2 / block / const 0 1 / jump 2 / block / branch 1 2 0 / block / branch 0 2 2")
	goes := func(s api.Mach, block int) {
		t.Helper()
		want := Copy(s)
		want.Stack[0].Block, want.Stack[0].At = block, 0
		steps(t, m, s, want)
	}
	goes(before(m, 1, 3, 4), 2)
	for _, n := range []uint16{0, 1, 2, 256, 65535} {
		s := before(m, 0, 0, n)
		s.Stack[0].Block = 1
		if n == 0 {
			goes(s, 0)
		} else {
			goes(s, 2)
		}
		// Back to where it stands, either way.
		s.Stack[0].Block, s.Stack[0].Regs = 2, []uint16{n, 0}
		goes(s, 2)
	}
}

// What stands at a block's end counts by At alone: a block without instructions is at its end at once.
func TestAnEndIsAStep(t *testing.T) {
	m := samples.Module("func 0 1 / block / jump 1 / block / ret 0")
	s := before(m, 0, 6)
	s.Stack[0].Block = 1
	want := Copy(s)
	want.Stack, want.Done, want.Value = nil, api.Answered, 6
	steps(t, m, s, want)
}

const calling = "func 0 4 / block / call 1 1 3 2 3 / invoke 2 1 1 2 0 1 2 / block / ret 3 / pad 3 all / resume" +
	" / func 3 5 / block / const 3 8 / ret 2 / block / throw 1 / func 0 0 / block / resume"

func TestCallAndInvoke(t *testing.T) {
	m := samples.Module(calling)
	for at, args := range [][]uint16{{13, 12, 13}, {10, 11, 12}} {
		s := before(m, at, 10, 11, 12, 13)
		want := Copy(s)
		want.Stack = append(want.Stack, api.Frame{F: 1, Regs: append(args, 0, 0)})
		steps(t, m, s, want)
	}
}

func TestACallOfNoArgumentsAndNoPlaces(t *testing.T) {
	m := samples.Module("func 0 1 / block / call 0 1 / ret 0 / func 0 0 / block / resume")
	s := before(m, 0, 10)
	want := Copy(s)
	want.Stack = append(want.Stack, api.Frame{F: 1})
	steps(t, m, s, want)
}

func TestTooDeep(t *testing.T) {
	m := samples.Module("func 0 2 / block / call 0 0 / invoke 1 0 1 2 / block / ret 0 / pad 0 all cleanup / ret 0")
	for at := range 2 {
		for count := 1; count <= 32; count++ {
			s := before(m, at, 3, 4)
			s.Stack = slices.Repeat(s.Stack, count)
			for i := range count - 1 {
				// Those below stand at the one or the other, by turns.
				s.Stack[i].At = i % 2
			}
			if count == 32 {
				ends(t, m, s, api.TooDeep)
				continue
			}
			want := Copy(s)
			want.Stack = append(want.Stack, api.Frame{Regs: []uint16{0, 0}})
			steps(t, m, s, want)
		}
	}
}

func TestRet(t *testing.T) {
	m := samples.Module(calling)
	top := api.Frame{F: 1, At: 1, Regs: []uint16{20, 21, 22, 23, 24}, Fly: 88}

	s := before(m, 0, 10, 11, 12, 13)
	s.Stack = append(s.Stack, top)
	want := before(m, 1, 10, 22, 12, 13)
	steps(t, m, s, want)

	s = before(m, 1, 10, 11, 12, 13)
	s.Stack = append(s.Stack, top)
	want = before(m, 0, 10, 11, 22, 13)
	want.Stack[0].Block = 1
	steps(t, m, s, want)

	// Those further down stay, and the last one answers all.
	s = before(m, 0, 10, 11, 12, 13)
	s.Stack[0].Block = 1
	want = Copy(s)
	want.Stack, want.Done, want.Value = nil, api.Answered, 13
	steps(t, m, s, want)
	s.Stack[0].Regs[3] = 0
	want.Value = 0
	steps(t, m, s, want)
}

// A machine's first frame may be of any function: nothing says it's the first one.
func TestTheLastFrameOfAnotherFunction(t *testing.T) {
	m := samples.Module(calling)
	s := before(m, 0, 0)
	s.Stack = []api.Frame{{F: 1, At: 1, Regs: []uint16{20, 21, 22, 23, 24}}}
	want := Copy(s)
	want.Stack, want.Done, want.Value = nil, api.Answered, 22
	steps(t, m, s, want)
	s.Stack[0].Block, s.Stack[0].At = 1, 0
	want.Done, want.Value = api.Thrown, 21
	steps(t, m, s, want)
}

func TestFramesFurtherDownStay(t *testing.T) {
	m := samples.Module("func 0 2 / block / call 0 0 / invoke 1 0 1 2 / block / ret 1 / pad 0 all cleanup / ret 0")
	low := before(m, 0, 30, 31)
	low.Stack = append(low.Stack, before(m, 1, 40, 41).Stack[0])
	s := Copy(low)
	s.Stack = append(s.Stack, before(m, 0, 50, 51).Stack[0])
	s.Stack[2].Block = 1
	want := Copy(low)
	want.Stack[1].Block, want.Stack[1].At, want.Stack[1].Regs[1] = 1, 0, 51
	steps(t, m, s, want)
	want2 := Copy(low)
	want2.Stack = want2.Stack[:1]
	want2.Stack[0].At, want2.Stack[0].Regs[0] = 1, 51
	steps(t, m, want, want2)
}

// Each way in which a machine may end, when it isn't the first frame that does it: those below stay.
func TestEndsAboveOthers(t *testing.T) {
	m := samples.Module("func 0 2 / block / call 0 1 / ret 0 / func 0 2 / block / div 0 0 1 / load 0 0 / store 0 0 / in 0 / call 1 1 / ret 0")
	for at, done := range []int{api.NoQuot, api.NoCell, api.NoCell, api.NoInput} {
		s := before(m, 0, 3, 4)
		s.Inputs = nil
		s.Stack = append(s.Stack, api.Frame{F: 1, At: at, Regs: []uint16{16, 0}, Fly: 5})
		ends(t, m, s, done)
	}
}

func TestOneThatEndedDoesNothingMore(t *testing.T) {
	m := samples.Module(example)
	for done := api.Answered; done <= api.NoInput; done++ {
		for n, f := range m.Funcs {
			for i, b := range f.Blocks {
				for x := range len(b.Ins) + 1 {
					s := api.Mach{Stack: []api.Frame{at(m, n, i, x)}, Inputs: []uint16{1}, Events: []int{2}, Done: done, Value: 3}
					stays(t, m, s, api.OK)
				}
			}
		}
		stays(t, m, api.Mach{Done: done, Value: 3}, api.OK)
		stays(t, m, api.Mach{Done: done, Events: []int{2}}, api.OK)
	}
}
