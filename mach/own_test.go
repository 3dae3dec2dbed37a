package mach

import (
	"reflect"
	"slices"
	"testing"

	"davit/api"
	"davit/made"
	"davit/runs"
	"davit/samples"
	"davit/shape"
)

// roomy is a machine of three frames each list of which has spare room, with something in it.
func roomy(m api.Module) api.Mach {
	frames := []api.Frame{at(m, 0, 0, 3), at(m, 1, 0, 0), at(m, 2, 0, 1), at(m, 3, 1, 0), at(m, 3, 2, 0)}
	for i := range frames {
		frames[i].Regs = slices.Concat(frames[i].Regs, []uint16{91, 92})[:len(frames[i].Regs)]
	}
	return api.Mach{
		Stack:  frames[:3],
		Cells:  [16]uint16{1, 2, 15: 3},
		Inputs: []uint16{4, 5, 93, 94}[:2],
		Events: []int{6, 7, 95, 96}[:2],
		Value:  8,
	}
}

// whole has all that stands in a machine's lists, their spare room too.
func whole(s api.Mach) api.Mach {
	s.Stack = s.Stack[:cap(s.Stack)]
	for i := range s.Stack {
		s.Stack[i].Regs = s.Stack[i].Regs[:cap(s.Stack[i].Regs)]
	}
	s.Inputs = s.Inputs[:cap(s.Inputs)]
	s.Events = s.Events[:cap(s.Events)]
	return s
}

// scratch writes into all that a machine has.
func scratch(s api.Mach) {
	s = whole(s)
	for i := range s.Stack {
		f := &s.Stack[i]
		for j := range f.Regs {
			f.Regs[j] += 1000
		}
		f.F, f.Block, f.At, f.Fly = f.F+1, f.Block+1, f.At+1, f.Fly+1
	}
	for i := range s.Inputs {
		s.Inputs[i] += 1000
	}
	for i := range s.Events {
		s.Events[i] += 1000
	}
}

// given are the calls that are given a machine, with what they answer when all is well, and when not.
func given(m api.Module) map[string]func(s api.Mach) api.Mach {
	step := func(m api.Module, change func(s *api.Mach)) func(s api.Mach) api.Mach {
		return func(s api.Mach) api.Mach {
			change(&s)
			s, _ = Step(m, s)
			return s
		}
	}
	return map[string]func(s api.Mach) api.Mach{
		"Copy":           Copy,
		"Step":           step(m, func(s *api.Mach) {}),
		"no module":      step(api.Module{}, func(s *api.Mach) {}),
		"one that ended": step(m, func(s *api.Mach) { s.Done = api.Thrown }),
		"may not be":     step(m, func(s *api.Mach) { s.Done = 7 }),
	}
}

// Each instruction and each end of the example, at the top of one frame, and those of function 2 above others, too.
func everyStep(m api.Module) []api.Mach {
	var list []api.Mach
	for n, f := range m.Funcs {
		for i, b := range f.Blocks {
			for x := range len(b.Ins) + 1 {
				s := roomy(m)
				s.Stack = []api.Frame{at(m, n, i, x), at(m, 3, 0, 0)}[:1]
				list = append(list, s)
				if n == 2 {
					s = roomy(m)
					s.Stack[2] = at(m, n, i, x)
					list = append(list, s)
				}
			}
		}
	}
	return list
}

func TestAMachineThatIsHandedInIsNotChanged(t *testing.T) {
	m := samples.Module(example)
	for name, do := range given(m) {
		s := roomy(m)
		do(s)
		Right(m, s)
		if !reflect.DeepEqual(whole(s), whole(roomy(m))) {
			t.Errorf("%s: %+v", name, whole(s))
		}
	}
	for i, s := range everyStep(m) {
		if got, err := Step(m, s); err != api.OK || runs.Alike(got, s) {
			t.Fatalf("%d: no step: %+v, %v", i, got, err)
		}
		if again := everyStep(m)[i]; !reflect.DeepEqual(whole(s), whole(again)) {
			t.Errorf("%d: %+v; not %+v", i, whole(s), whole(again))
		}
	}
	if !shape.Same(m, samples.Module(example)) {
		t.Error("the module is changed")
	}
}

func TestWhatIsAnsweredSharesNoMemory(t *testing.T) {
	m := samples.Module(example)
	for name, do := range given(m) {
		s := roomy(m)
		got := do(s)
		want := do(roomy(m))
		scratch(s)
		if !runs.Alike(got, want) {
			t.Errorf("%s: what is written to the machine stands in the answer: %+v", name, got)
		}
		s = roomy(m)
		scratch(do(s))
		if !reflect.DeepEqual(whole(s), whole(roomy(m))) {
			t.Errorf("%s: what is written to the answer stands in the machine: %+v", name, whole(s))
		}
	}
	for i, s := range everyStep(m) {
		got, _ := Step(m, s)
		want, _ := Step(m, everyStep(m)[i])
		scratch(s)
		if !runs.Alike(got, want) {
			t.Errorf("%d: what is written to the machine stands in the answer: %+v", i, got)
		}
		s = everyStep(m)[i]
		got, _ = Step(m, s)
		scratch(got)
		if again := everyStep(m)[i]; !reflect.DeepEqual(whole(s), whole(again)) {
			t.Errorf("%d: what is written to the answer stands in the machine: %+v", i, whole(s))
		}
	}
}

// Two frames of an answer have their places apart, even where they were handed in as one list.
func TestFramesShareNoPlaces(t *testing.T) {
	m := samples.Module("func 0 1 / block / call 0 0 / const 0 3 / ret 0")
	f := at(m, 0, 0, 0)
	s := Copy(api.Mach{Stack: []api.Frame{f, f, f}})
	s.Stack[0].Regs[0] = 1
	s.Stack[1].Regs[0] = 2
	if s.Stack[0].Regs[0] != 1 || s.Stack[2].Regs[0] != f.Regs[0] {
		t.Error(s)
	}
	top := f
	top.At = 1
	if got, err := Step(m, api.Mach{Stack: []api.Frame{f, f, top}}); err != api.OK || got.Stack[0].Regs[0] != f.Regs[0] || got.Stack[1].Regs[0] != f.Regs[0] || got.Stack[2].Regs[0] != 3 {
		t.Error(got, err)
	}
}

func TestCopyIsTheSame(t *testing.T) {
	m := samples.Module(example)
	for _, s := range []api.Mach{
		roomy(m),
		{},
		{Stack: []api.Frame{}, Inputs: []uint16{}, Events: []int{}},
		{Stack: []api.Frame{{}, {Regs: []uint16{}}, {F: -1, Block: -2, At: -3, Regs: []uint16{1}, Fly: 4}}, Done: 9, Value: 65535},
	} {
		if got := Copy(s); !runs.Alike(got, s) {
			t.Errorf("%+v: %+v", s, got)
		}
	}
}

// A list of nothing has none of the room of the one handed in, either.
func TestAnEmptyListIsNotKept(t *testing.T) {
	m := samples.Module("func 0 0 / block / resume")
	for name, do := range map[string]func(s api.Mach) api.Mach{
		"Copy": Copy,
		"Step": func(s api.Mach) api.Mach { s, _ = Step(m, s); return s },
		"ErrArg": func(s api.Mach) api.Mach {
			s.Done = 7
			s, _ = Step(m, s)
			return s
		},
	} {
		regs, inputs, events := []uint16{1}, []uint16{2}, []int{3}
		stack := []api.Frame{{Regs: regs[:0]}, {Fly: 4}}
		got := do(api.Mach{Stack: stack[:1], Inputs: inputs[:0], Events: events[:0]})
		_ = append(got.Stack, api.Frame{Fly: 5})
		_ = append(got.Inputs, 5)
		_ = append(got.Events, 5)
		for _, f := range got.Stack {
			_ = append(f.Regs, 5)
		}
		if regs[0] != 1 || inputs[0] != 2 || events[0] != 3 || stack[1].Fly != 4 {
			t.Errorf("%s: what is put behind the answer stands in the room of the machine", name)
		}
		none := do(api.Mach{Stack: stack[:0], Inputs: inputs[:0], Events: events[:0]})
		_ = append(none.Stack, api.Frame{Fly: 5})
		if stack[0].Fly != 0 {
			t.Errorf("%s: what is put behind no frame stands in the room of the machine", name)
		}
	}
}

func TestInputsAreNotKept(t *testing.T) {
	m := samples.Module("func 0 1 / block / in 0 / in 0 / ret 0")
	for name, do := range map[string]func(inputs []uint16) api.Mach{
		"New": func(inputs []uint16) api.Mach { s, _ := New(m, inputs); return s },
		"Run": func(inputs []uint16) api.Mach { s, _ := Run(m, inputs, 1); return s },
		"0":   func(inputs []uint16) api.Mach { s, _ := Run(m, inputs, 0); return s },
	} {
		inputs := []uint16{1, 2, 3, 91, 92}
		got, want := do(inputs[:3]), do([]uint16{1, 2, 3})
		if !slices.Equal(inputs, []uint16{1, 2, 3, 91, 92}) {
			t.Errorf("%s: %v", name, inputs)
		}
		for i := range inputs {
			inputs[i] += 1000
		}
		if !runs.Alike(got, want) {
			t.Errorf("%s: what is written to the inputs stands in the machine: %+v", name, got)
		}
		inputs = []uint16{1, 2, 3, 91, 92}
		scratch(do(inputs[:3]))
		if !slices.Equal(inputs, []uint16{1, 2, 3, 91, 92}) {
			t.Errorf("%s: what is written to the machine stands in the inputs: %v", name, inputs)
		}
		got = do(inputs[:0])
		_ = append(got.Inputs, 5)
		if inputs[0] != 1 {
			t.Errorf("%s: what is put behind no inputs stands in their room", name)
		}
	}
}

// What is put behind one list of an answer, or written to it, is seen in no other machine that a call answered.
func TestMachinesOnTheWayShareNothing(t *testing.T) {
	for seed := range uint64(300) {
		m := made.Module(seed)
		var kept, want []api.Mach
		s, _ := New(m, madeInputs)
		for range 25 {
			kept, want = append(kept, s), append(want, Copy(s))
			s, _ = Step(m, s)
		}
		for i := len(kept) - 1; i >= 0; i-- {
			if !runs.Alike(kept[i], want[i]) {
				t.Fatalf("seed %d: behind %d steps: %+v; not %+v", seed, i, kept[i], want[i])
			}
			scratch(kept[i])
		}
		if !slices.Equal(madeInputs, []uint16{3, 0, 1, 65535, 2, 5, 16, 1, 0}) || !shape.Same(m, made.Module(seed)) {
			t.Fatalf("seed %d: what was handed in is changed", seed)
		}
	}
}
