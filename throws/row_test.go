package throws

import (
	"slices"
	"strings"
	"testing"

	"davit/api"
	"davit/made"
)

// Rows of as many functions as there may be, each of which calls the next one up, or down: all do it from which a way leads to one that does, but where an Invoke lets nothing out.
func TestRows(t *testing.T) {
	const count = api.MaxFuncs
	for doer := range count {
		for _, how := range []int{made.ByCall, made.ByInvoke, made.ByAll} {
			up, down := row(doer, how, 1), row(doer, how, -1)
			below, above := strings.Repeat("1", doer+1)+strings.Repeat("0", count-1-doer), strings.Repeat("0", doer)+strings.Repeat("1", count-doer)
			alone := strings.Repeat("0", doer) + "1" + strings.Repeat("0", count-1-doer)
			outUp, outDown := below, above
			if how == made.ByAll {
				outUp, outDown = alone, alone
			}
			if got := three(up); got != [3]string{outUp, below, below} {
				t.Errorf("up to %d, by %d: %v", doer, how, got)
			}
			if got := three(down); got != [3]string{outDown, above, above} {
				t.Errorf("down to %d, by %d: %v", doer, how, got)
			}
		}
	}
}

// row of functions, each of which calls so the one that is a step on, if it is there; one does all three itself.
func row(doer, how, step int) api.Module {
	m := api.Module{Funcs: make([]api.Func, api.MaxFuncs)}
	for n := range m.Funcs {
		m.Funcs[n] = made.Doing(n == doer, n == doer, n == doer)
		if next := n + step; 0 <= next && next < len(m.Funcs) {
			made.AddCall(&m.Funcs[n], next, how)
		}
	}
	return m
}

// Rings of as many functions as there may be: all do what one of them does, and nothing where none does.
func TestRings(t *testing.T) {
	const none = -1
	for doer := none; doer < api.MaxFuncs; doer++ {
		for _, step := range []int{1, 3, api.MaxFuncs - 1} {
			m := row(doer, made.NoCall, 1)
			for n := range m.Funcs {
				made.AddCall(&m.Funcs[n], (n+step)%api.MaxFuncs, []int{made.ByCall, made.ByInvoke}[n%2])
			}
			want := strings.Repeat("1", api.MaxFuncs)
			if doer == none {
				want = strings.Repeat("0", api.MaxFuncs)
			}
			if got := three(m); got != [3]string{want, want, want} {
				t.Errorf("a ring by steps of %d, of which %d does it: %v", step, doer, got)
			}
		}
	}
}

// full is the module with as many blocks in each function, and as many instructions in each block, as there may be: ahead of all others stand such that do nothing.
func full(m api.Module) api.Module {
	for n := range m.Funcs {
		f := &m.Funcs[n]
		for len(f.Blocks) < api.MaxBlocks {
			f.Blocks = append(f.Blocks, api.Block{End: api.End{Kind: api.Ret}})
		}
		for i := range f.Blocks {
			ins := slices.Repeat([]api.Ins{{Op: api.Load}}, api.MaxIns-len(f.Blocks[i].Ins))
			f.Blocks[i].Ins = append(ins, f.Blocks[i].Ins...)
		}
	}
	return m
}

func TestTheGreatestModules(t *testing.T) {
	want := strings.Repeat("1", api.MaxFuncs)
	for _, how := range []int{made.ByCall, made.ByInvoke} {
		if got := three(full(row(api.MaxFuncs-1, how, 1))); got != [3]string{want, want, want} {
			t.Errorf("%d: %v", how, got)
		}
	}
}

// What does it is found at each place of each block, and at the end of each.
func TestAtEachPlace(t *testing.T) {
	const blocks, ins = 4, 4
	throw, tell, write := [3]string{"1", "0", "0"}, [3]string{"0", "1", "0"}, [3]string{"0", "0", "1"}
	for block := range blocks {
		for at := range ins {
			for _, c := range []struct {
				x    api.Ins
				want [3]string
			}{
				{api.Ins{Op: api.Out}, tell},
				{api.Ins{Op: api.In}, tell},
				{api.Ins{Op: api.Store}, write},
				{api.Ins{Op: api.Call, F: 1}, throw},
				{api.Ins{Op: api.Call, F: 2}, tell},
				{api.Ins{Op: api.Call, F: 3}, write},
			} {
				m := room(blocks, ins)
				m.Funcs[0].Blocks[block].Ins[at] = c.x
				checkFirst(t, m, c.want)
			}
		}
		for _, c := range []struct {
			end  api.End
			want [3]string
		}{
			{api.End{Kind: api.Throw}, throw},
			{api.End{Kind: api.Resume}, throw},
			{api.End{Kind: api.Invoke, F: 1, Pad: blocks}, throw},
			{api.End{Kind: api.Invoke, F: 2, Pad: blocks}, tell},
			{api.End{Kind: api.Invoke, F: 3, Pad: blocks}, write},
		} {
			m := room(blocks, ins)
			m.Funcs[0].Blocks[block].End = c.end
			checkFirst(t, m, c.want)
		}
	}
}

// checkFirst: is this said of function 0, and of the others what each of them does?
func checkFirst(t *testing.T, m api.Module, want [3]string) {
	t.Helper()
	if got := three(m); got != [3]string{want[0] + "100", want[1] + "010", want[2] + "001"} {
		t.Errorf("%+v: %v, not %v", m.Funcs[0], got, want)
	}
}

// room is a module of a function that does nothing, whose last block is Landing, and of three that throw, tell, and write.
func room(blocks, ins int) api.Module {
	f := api.Func{Regs: 1}
	for range blocks {
		f.Blocks = append(f.Blocks, api.Block{Ins: slices.Repeat([]api.Ins{{Op: api.Const}}, ins), End: api.End{Kind: api.Ret}})
	}
	f.Blocks = append(f.Blocks, api.Block{Landing: true, Pad: api.Pad{Cleanup: true}, End: api.End{Kind: api.Ret}})
	return api.Module{Funcs: []api.Func{f, made.Doing(true, false, false), made.Doing(false, true, false), made.Doing(false, false, true)}}
}
