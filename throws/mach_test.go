package throws

import (
	"slices"
	"testing"

	"davit/api"
	"davit/mach"
	"davit/made"
	"davit/runs"
)

// seen is how often something was thrown, how many frames went below those that threw it, and how often one landed; how often something was told, and written; and how many steps were done above, or by, one that doesn't.
type seen struct{ thrown, past, landed, told, written, still, kept int }

// steps on from a machine, each of which is held against what is said of the module.
func (c *seen) steps(t *testing.T, m api.Module, s api.Mach) {
	t.Helper()
	out, tell, write := Out(m), Tells(m), Writes(m)
	for step := 0; step < runs.Most && s.Done == api.Runs; step++ {
		next, err := mach.Step(m, s)
		if err != api.OK {
			t.Fatalf("%+v may not be: %v", s, err)
		}
		for _, f := range c.left(m, s, next) {
			if !out[f.F] {
				t.Fatalf("%+v: something thrown leaves function %d: %+v", m, f.F, s)
			}
		}
		c.outside(t, m, s, next, tell)
		c.cells(t, m, s, next, write)
		s = next
	}
}

// left are the frames that what is thrown in this step leaves.
func (c *seen) left(m api.Module, s, next api.Mach) []api.Frame {
	top := s.Stack[len(s.Stack)-1]
	b := m.Funcs[top.F].Blocks[top.Block]
	if top.At < len(b.Ins) || b.End.Kind != api.Throw && b.End.Kind != api.Resume {
		return nil
	}
	c.thrown++
	c.past += len(s.Stack) - len(next.Stack) - 1
	if next.Done == api.Runs {
		c.landed++
	}
	return s.Stack[len(next.Stack):]
}

// each: is this said of each of the frames' functions?
func each(s api.Mach, said []bool) bool {
	return !slices.ContainsFunc(s.Stack, func(f api.Frame) bool { return !said[f.F] })
}

// outside: as long as a frame of one that doesn't tell is there, nothing happens outside.
func (c *seen) outside(t *testing.T, m api.Module, s, next api.Mach, tell []bool) {
	t.Helper()
	happens := len(next.Events) != len(s.Events) || len(next.Inputs) != len(s.Inputs) || next.Done == api.NoInput
	switch {
	case happens && !each(s, tell):
		t.Fatalf("%+v: one that doesn't tell tells: %+v", m, s)
	case happens:
		c.told++
	case !each(s, tell):
		c.still++
	}
}

// cells stay as long as a frame of one that doesn't write is there.
func (c *seen) cells(t *testing.T, m api.Module, s, next api.Mach, write []bool) {
	t.Helper()
	changes := next.Cells != s.Cells
	switch {
	case changes && !each(s, write):
		t.Fatalf("%+v: one that doesn't write writes: %+v", m, s)
	case changes:
		c.written++
	case !each(s, write):
		c.kept++
	}
}

// Machines from their beginning on, which are told more or less, and end in each way.
func TestMachinesFromTheirBeginning(t *testing.T) {
	var c seen
	var ends [api.NoInput + 1]int
	for seed := range uint64(10000) {
		m, told := made.Mixed(seed), runs.Inputs()[:seed%10]
		s, _ := mach.New(m, told)
		c.steps(t, m, s)
		end, _ := mach.Run(m, told, runs.Most)
		ends[end.Done]++
	}
	if min(c.thrown, c.landed, c.told, c.written, c.still, c.kept, slices.Min(ends[:])) < 30 {
		t.Errorf("%+v; ends %v", c, ends)
	}
}

// Machines, whatever they run: the top frame at each block, those to which none comes, too, and below it any that may stand there.
func TestTowers(t *testing.T) {
	var c seen
	for seed := range 1000 {
		m := made.Mixed(uint64(seed))
		for n, f := range m.Funcs {
			for block := range f.Blocks {
				stack := made.Tower(m, made.Frame(m, n, block, 0), 1+seed%5, seed/5+block)
				c.steps(t, m, runs.From(stack))
			}
		}
	}
	if min(c.thrown, c.past, c.landed, c.told, c.written, c.still, c.kept) < 200 {
		t.Errorf("%+v", c)
	}
}
