package mach

import (
	"davit/api"
	"davit/frame"
)

// machine is one that is changed: that which is told, with lists of its own, and the module that it runs.
//
// It is asked once, ahead, whether it may be. frame.New and frame.Land would ask that of the whole module again at each call and each landing.
type machine struct {
	api.Mach
	module api.Module
}

func (s *machine) top() *api.Frame { return &s.Stack[len(s.Stack)-1] }

func (s *machine) pop() { s.Stack = s.Stack[:len(s.Stack)-1] }

func (s *machine) block(f api.Frame) api.Block { return s.module.Funcs[f.F].Blocks[f.Block] }

func (s *machine) finish(done int, value uint16) { s.Done, s.Value = done, value }

// step of a machine that Runs.
func (s *machine) step() {
	f := s.top()
	b := s.block(*f)
	if f.At < len(b.Ins) {
		s.ins(f, b.Ins[f.At])
		return
	}
	s.end(f, b.End)
}

func (s *machine) ins(f *api.Frame, x api.Ins) {
	switch x.Op {
	case api.Load:
		s.load(f, x)
	case api.Store:
		s.store(f, x)
	case api.Call:
		s.call(f, x.F, x.Args)
	case api.Out:
		s.Events = append(s.Events, int(f.Regs[x.A]))
		f.At++
	case api.In:
		s.take(f, x)
	default:
		s.reckon(f, x)
	}
}

func (s *machine) reckon(f *api.Frame, x api.Ins) {
	next, ok := frame.Reckon(*f, x)
	if !ok {
		s.finish(api.NoQuot, 0)
		return
	}
	*f = next
}

func (s *machine) load(f *api.Frame, x api.Ins) {
	if cell := s.cell(f.Regs[x.A]); cell != nil {
		f.Regs[x.Dst] = *cell
		f.At++
	}
}

func (s *machine) store(f *api.Frame, x api.Ins) {
	if cell := s.cell(f.Regs[x.A]); cell != nil {
		*cell = f.Regs[x.B]
		f.At++
	}
}

// cell of that number; there being none ends the machine.
func (s *machine) cell(n uint16) *uint16 {
	if n >= api.MaxCells {
		s.finish(api.NoCell, 0)
		return nil
	}
	return &s.Cells[n]
}

func (s *machine) take(f *api.Frame, x api.Ins) {
	if len(s.Inputs) == 0 {
		s.finish(api.NoInput, 0)
		return
	}
	n := s.Inputs[0]
	s.Inputs = s.Inputs[1:]
	s.Events = append(s.Events, int(n)+api.Taken)
	f.Regs[x.Dst] = n
	f.At++
}

func (s *machine) call(f *api.Frame, n int, args []int) {
	if len(s.Stack) >= api.MaxDepth {
		s.finish(api.TooDeep, 0)
		return
	}
	regs := make([]uint16, s.module.Funcs[n].Regs)
	for i, arg := range args {
		regs[i] = f.Regs[arg]
	}
	s.Stack = append(s.Stack, api.Frame{F: n, Regs: regs})
}

func (s *machine) end(f *api.Frame, x api.End) {
	switch x.Kind {
	case api.Ret:
		s.answer(f.Regs[x.A])
	case api.Jump:
		*f = frame.Go(*f, x.To)
	case api.Branch:
		if f.Regs[x.A] == 0 {
			x.To = x.Else
		}
		*f = frame.Go(*f, x.To)
	case api.Invoke:
		s.call(f, x.F, x.Args)
	case api.Throw:
		s.throw(f.Regs[x.A])
	case api.Resume:
		s.throw(f.Fly)
	}
}

// answer goes to the frame below, at its Call or its Invoke.
func (s *machine) answer(n uint16) {
	s.pop()
	if len(s.Stack) == 0 {
		s.finish(api.Answered, n)
		return
	}
	f := s.top()
	b := s.block(*f)
	if f.At < len(b.Ins) {
		f.Regs[b.Ins[f.At].Dst] = n
		f.At++
		return
	}
	f.Regs[b.End.Dst] = n
	*f = frame.Go(*f, b.End.To)
}
