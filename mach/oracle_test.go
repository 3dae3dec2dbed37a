package mach

import (
	"slices"
	"testing"

	"davit/api"
	"davit/made"
	"davit/runs"
	"davit/shape"
)

// world runs a module by calls within calls, without a list of frames: a frame is a call of Go's, a throw an answer of it.
type world struct {
	m      api.Module
	cells  [16]uint16
	inputs []uint16
	events []int
	fuel   int
	steps  int
	depth  int
	done   int
	value  uint16
	ended  bool
}

// What a call of world's comes to.
const (
	answers = iota
	throws
	stops
)

// call runs a function; pads are those of the Invokes below, at which somebody waits.
func (w *world) call(n int, args []uint16, pads []api.Pad) (uint16, int) {
	w.depth++
	f := w.m.Funcs[n]
	regs := make([]uint16, f.Regs)
	for i, a := range args {
		regs[i] = a
	}
	block, fly := 0, uint16(0)
	for {
		b := f.Blocks[block]
		for _, x := range b.Ins {
			word, how := w.ins(x, regs, pads)
			if how != answers {
				return word, how
			}
		}
		if !w.burn() {
			return 0, stops
		}
		switch b.End.Kind {
		case api.Ret:
			w.depth--
			return regs[b.End.A], answers
		case api.Jump:
			block = b.End.To
		case api.Branch:
			block = b.End.Else
			if regs[b.End.A] != 0 {
				block = b.End.To
			}
		case api.Throw:
			return w.throw(regs[b.End.A], pads)
		case api.Resume:
			return w.throw(fly, pads)
		case api.Invoke:
			pad := f.Blocks[b.End.Pad].Pad
			word, how := w.enter(b.End.F, b.End.Args, regs, append(slices.Clone(pads), pad))
			switch {
			case how == stops:
				return 0, stops
			case how == answers:
				regs[b.End.Dst], block = word, b.End.To
			case takes(pad, word) || pad.Cleanup:
				regs[pad.Dst], fly, block = word, word, b.End.Pad
			default:
				w.depth--
				return word, throws
			}
		}
	}
}

func takes(p api.Pad, n uint16) bool { return p.All || slices.Contains(p.Catch, n) }

// burn is false if there is no step left.
func (w *world) burn() bool {
	if w.steps == w.fuel {
		return false
	}
	w.steps++
	return true
}

func (w *world) stop(done int) (uint16, int) {
	w.done = done
	return 0, stops
}

func (w *world) enter(n int, args []int, regs []uint16, pads []api.Pad) (uint16, int) {
	if w.depth == 32 {
		return w.stop(api.TooDeep)
	}
	var words []uint16
	for _, a := range args {
		words = append(words, regs[a])
	}
	return w.call(n, words, pads)
}

func (w *world) throw(n uint16, pads []api.Pad) (uint16, int) {
	w.depth--
	if !slices.ContainsFunc(pads, func(p api.Pad) bool { return takes(p, n) }) {
		w.value = n
		return w.stop(api.Thrown)
	}
	return n, throws
}

func (w *world) ins(x api.Ins, regs []uint16, pads []api.Pad) (uint16, int) {
	if !w.burn() {
		return 0, stops
	}
	a, b := uint32(regs[x.A]), uint32(regs[x.B])
	switch x.Op {
	case api.Const:
		regs[x.Dst] = x.K
	case api.Copy:
		regs[x.Dst] = uint16(a)
	case api.Add:
		regs[x.Dst] = uint16((a + b) % 65536)
	case api.Sub:
		regs[x.Dst] = uint16((a + 65536 - b) % 65536)
	case api.Mul:
		regs[x.Dst] = uint16(a * b % 65536)
	case api.Div:
		if b == 0 {
			return w.stop(api.NoQuot)
		}
		regs[x.Dst] = uint16(a / b)
	case api.Eq, api.Lt:
		regs[x.Dst] = 0
		if x.Op == api.Eq && a == b || x.Op == api.Lt && a < b {
			regs[x.Dst] = 1
		}
	case api.Load, api.Store:
		if a > 15 {
			return w.stop(api.NoCell)
		}
		if x.Op == api.Load {
			regs[x.Dst] = w.cells[a]
		} else {
			w.cells[a] = uint16(b)
		}
	case api.Out:
		w.events = append(w.events, int(a))
	case api.In:
		if len(w.inputs) == 0 {
			return w.stop(api.NoInput)
		}
		regs[x.Dst] = w.inputs[0]
		w.events = append(w.events, 65536+int(w.inputs[0]))
		w.inputs = w.inputs[1:]
	case api.Call:
		word, how := w.enter(x.F, x.Args, regs, pads)
		if how == throws {
			w.depth--
		}
		if how != answers {
			return word, how
		}
		regs[x.Dst] = word
	}
	return 0, answers
}

func (w *world) run() {
	word, how := w.call(0, nil, nil)
	if how == answers {
		w.done, w.value = api.Answered, word
	}
}

var madeInputs = []uint16{3, 0, 1, 65535, 2, 5, 16, 1, 0}

func TestRunsAreTheOracles(t *testing.T) {
	var ended [7]int
	for seed := range uint64(20000) {
		m := made.Module(seed)
		if !shape.Right(m) {
			t.Fatalf("seed %d: the module may not be", seed)
		}
		const fuel = 300
		w := world{m: m, inputs: madeInputs, fuel: fuel}
		w.run()
		s, err := Run(m, madeInputs, fuel)
		ended[s.Done]++
		if err != api.OK || s.Done != w.done || s.Value != w.value || s.Cells != w.cells || !slices.Equal(s.Events, w.events) || !slices.Equal(s.Inputs, w.inputs) || len(s.Stack) != w.depth {
			t.Fatalf("seed %d: %+v, %v; not %+v", seed, s, err, w)
		}
		// One step fewer isn't the end yet, as many are.
		if s.Done != api.Runs {
			if less, _ := Run(m, madeInputs, w.steps-1); less.Done != api.Runs {
				t.Fatalf("seed %d: %d steps are too many", seed, w.steps)
			}
			if just, _ := Run(m, madeInputs, w.steps); !runs.Alike(just, s) {
				t.Fatalf("seed %d: %d steps are too few", seed, w.steps)
			}
		}
	}
	for done, count := range ended {
		if count < 50 {
			t.Errorf("%d machines ended with %d", count, done)
		}
	}
}

// Step by step it comes to the same as by Run; each machine on the way may be, and what happened only grows.
func TestStepByStep(t *testing.T) {
	for seed := range uint64(1500) {
		m := made.Module(seed)
		s, _ := New(m, madeInputs)
		for fuel := range 60 {
			if !Right(m, s) {
				t.Fatalf("seed %d: behind %d steps it may not be: %+v", seed, fuel, s)
			}
			if run, err := Run(m, madeInputs, fuel); err != api.OK || !runs.Alike(run, s) {
				t.Fatalf("seed %d: behind %d steps %+v, %v; not %+v", seed, fuel, run, err, s)
			}
			next, err := Step(m, s)
			if err != api.OK || len(next.Events) > len(s.Events)+1 || len(next.Events) < len(s.Events) || !slices.Equal(next.Events[:len(s.Events)], s.Events) {
				t.Fatalf("seed %d: a step of %+v: %+v, %v", seed, s, next, err)
			}
			if s.Done != api.Runs && !runs.Alike(next, s) {
				t.Fatalf("seed %d: %+v goes on: %+v", seed, s, next)
			}
			s = next
		}
	}
}
