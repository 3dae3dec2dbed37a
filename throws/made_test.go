package throws

import (
	"slices"
	"testing"

	"davit/api"
	"davit/made"
)

// web is who does a thing itself, and from whom to whom it comes by a call, by the chapter's words.
type web struct {
	itself []bool
	comes  [][]bool // from the one called, by number, to the one that calls
}

// webOf a module; passes tells whether the thing comes out of a function that is invoked with this pad.
func webOf(m api.Module, itself func(b api.Block) bool, passes func(p api.Pad) bool) web {
	w := web{make([]bool, len(m.Funcs)), make([][]bool, len(m.Funcs))}
	for n := range m.Funcs {
		w.comes[n] = make([]bool, len(m.Funcs))
	}
	for n, f := range m.Funcs {
		for _, b := range f.Blocks {
			if itself(b) {
				w.itself[n] = true
			}
			for _, x := range b.Ins {
				if x.Op == api.Call {
					w.comes[x.F][n] = true
				}
			}
			if b.End.Kind == api.Invoke && passes(f.Blocks[b.End.Pad].Pad) {
				w.comes[b.End.F][n] = true
			}
		}
	}
	return w
}

// all that do it: it is carried from each one that does it itself, as far as it comes.
func (w web) all() []bool {
	list := make([]bool, len(w.itself))
	for n, itself := range w.itself {
		if itself {
			w.carry(n, list)
		}
	}
	return list
}

func (w web) carry(n int, list []bool) {
	if list[n] {
		return
	}
	list[n] = true
	for caller, comes := range w.comes[n] {
		if comes {
			w.carry(caller, list)
		}
	}
}

func has(b api.Block, op int) bool {
	return slices.ContainsFunc(b.Ins, func(x api.Ins) bool { return x.Op == op })
}

// webs for what is thrown, told and written.
func webs(m api.Module) [3]web {
	always := func(api.Pad) bool { return true }
	return [3]web{
		webOf(m, func(b api.Block) bool { return b.End.Kind == api.Throw || b.End.Kind == api.Resume }, func(p api.Pad) bool { return !p.All }),
		webOf(m, func(b api.Block) bool { return has(b, api.Out) || has(b, api.In) }, always),
		webOf(m, func(b api.Block) bool { return has(b, api.Store) }, always),
	}
}

// tally of a call: functions that do it themselves, others that do it, those that don't.
type tally [3]struct{ itself, by, not int }

func (c *tally) check(t *testing.T, m api.Module) {
	t.Helper()
	got := three(m)
	for i, w := range webs(m) {
		list := w.all()
		if want := digits(list); got[i] != want {
			t.Fatalf("%+v: %s is %s, not %s", m, []string{"Out", "Tells", "Writes"}[i], got[i], want)
		}
		for n, is := range list {
			switch {
			case w.itself[n]:
				c[i].itself++
			case is:
				c[i].by++
			default:
				c[i].not++
			}
		}
	}
}

func (c *tally) atLeast(t *testing.T, least int) {
	t.Helper()
	for _, of := range c {
		if min(of.itself, of.by, of.not) < least {
			t.Errorf("%+v", c)
		}
	}
}

// Every module of up to three functions, by who calls whom how, and who does what itself; of three by Calls, and Invokes whose pads have All, alone.
func TestEveryModuleOfFewFunctions(t *testing.T) {
	var c tally
	all := []int{made.NoCall, made.ByCall, made.ByInvoke, made.ByAll}
	for count, hows := range [][]int{1: all, 2: all, 3: {made.NoCall, made.ByCall, made.ByAll}} {
		for m := range made.Doers(count, hows) {
			c.check(t, m)
		}
	}
	c.atLeast(t, 10000)
}

func TestMadeModules(t *testing.T) {
	var c tally
	for seed := range uint64(10000) {
		c.check(t, made.Module(seed))
	}
	c.atLeast(t, 500)
}
