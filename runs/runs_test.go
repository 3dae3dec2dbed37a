package runs

import (
	"testing"

	"davit/api"
)

func TestFrom(t *testing.T) {
	s := From([]api.Frame{{F: 1}, {F: 2, Regs: []uint16{5}}})
	if len(s.Stack) != 2 || s.Stack[1].Regs[0] != 5 || s.Done != api.Runs || s.Cells[0] == 0 || len(s.Inputs) == 0 || len(s.Events) != 0 {
		t.Errorf("%+v", s)
	}
	s.Inputs[0]++
	if s.Inputs[0] == Inputs()[0] {
		t.Error("what is told to one is told to another one")
	}
}

func example() api.Mach {
	return api.Mach{
		Stack:  []api.Frame{{F: 1, Block: 2, At: 3, Regs: []uint16{4, 5}, Fly: 6}, {Regs: []uint16{}}},
		Cells:  [api.MaxCells]uint16{7, 15: 8},
		Inputs: []uint16{9},
		Events: []int{10, 11},
		Done:   api.Thrown,
		Value:  12,
	}
}

func TestAlike(t *testing.T) {
	for name, c := range map[string]struct {
		want   bool
		change func(s *api.Mach)
	}{
		"the same":             {true, func(s *api.Mach) {}},
		"no place, nil":        {true, func(s *api.Mach) { s.Stack[1].Regs = nil }},
		"a frame less":         {false, func(s *api.Mach) { s.Stack = s.Stack[:1] }},
		"another function":     {false, func(s *api.Mach) { s.Stack[0].F++ }},
		"another block":        {false, func(s *api.Mach) { s.Stack[0].Block++ }},
		"further on":           {false, func(s *api.Mach) { s.Stack[0].At++ }},
		"another word":         {false, func(s *api.Mach) { s.Stack[0].Regs[1]++ }},
		"a place less":         {false, func(s *api.Mach) { s.Stack[0].Regs = s.Stack[0].Regs[:1] }},
		"another thrown":       {false, func(s *api.Mach) { s.Stack[1].Fly++ }},
		"another cell":         {false, func(s *api.Mach) { s.Cells[15]++ }},
		"another input":        {false, func(s *api.Mach) { s.Inputs[0]++ }},
		"an input less":        {false, func(s *api.Mach) { s.Inputs = nil }},
		"another event":        {false, func(s *api.Mach) { s.Events[1]++ }},
		"an event more":        {false, func(s *api.Mach) { s.Events = append(s.Events, 0) }},
		"it ended another way": {false, func(s *api.Mach) { s.Done = api.Answered }},
		"with another word":    {false, func(s *api.Mach) { s.Value++ }},
	} {
		s := example()
		c.change(&s)
		if Alike(s, example()) != c.want || Alike(example(), s) != c.want {
			t.Errorf("%s: not %v", name, c.want)
		}
	}
	if !Alike(api.Mach{}, api.Mach{Stack: []api.Frame{}, Inputs: []uint16{}, Events: []int{}}) {
		t.Error("lists nil and empty")
	}
}

func TestLanded(t *testing.T) {
	m := api.Module{Funcs: []api.Func{{}, {Blocks: []api.Block{{}, {Landing: true}}}}}
	for _, c := range []struct {
		stack []api.Frame
		want  bool
	}{
		{nil, false},
		{[]api.Frame{{F: 1, Block: 1}}, true},
		{[]api.Frame{{F: 1, Block: 1, At: 1}}, false},
		{[]api.Frame{{F: 1, Block: 0}}, false},
		{[]api.Frame{{F: 1, Block: 1}, {F: 1, Block: 0}}, false},
		{[]api.Frame{{F: 1, Block: 0}, {F: 1, Block: 1}}, true},
	} {
		if got := Landed(m, api.Mach{Stack: c.stack}); got != c.want {
			t.Errorf("%+v: %v", c.stack, got)
		}
	}
}

func TestBegins(t *testing.T) {
	for _, c := range []struct {
		events, so []int
		want       bool
	}{
		{nil, nil, true},
		{[]int{1, 2}, nil, true},
		{[]int{1, 2}, []int{1}, true},
		{[]int{1, 2}, []int{1, 2}, true},
		{[]int{1, 2}, []int{2}, false},
		{[]int{1, 2}, []int{1, 2, 3}, false},
		{nil, []int{1}, false},
	} {
		if got := Begins(c.events, c.so); got != c.want {
			t.Errorf("%v, %v: %v", c.events, c.so, got)
		}
	}
}
