package live

import (
	"slices"
	"testing"

	"davit/api"
	"davit/made"
)

// against is a row of so many blocks and places that goes from block 0 to the last one, and on against the order of the numbers, to block 1; each block has as many instructions as there may be, which ask for none of the places from 250 on.
func against(blocks, regs int) api.Func {
	f := made.Row(blocks, func(n int) api.End { return made.Jump(n - 1) })
	f.Regs = regs
	f.Blocks[0].End = made.Jump(blocks - 1)
	f.Blocks[blocks-1].End = made.Jump(blocks - 2)
	f.Blocks[1].End = api.End{Kind: api.Ret, A: regs - 1}
	for n := 2; n < blocks; n++ {
		for i := range api.MaxIns {
			f.Blocks[n].Ins = append(f.Blocks[n].Ins, api.Ins{Op: api.Add, Dst: (n + i) % 100 % regs, A: (100 + (n+i)%150) % regs, B: n % regs})
		}
	}
	return f
}

// What the last one of the longest row asks for comes all the way.
func TestTheGreatestRow(t *testing.T) {
	f := against(api.MaxBlocks, api.MaxRegs)
	at, behind := At(f), Behind(f)
	for n := range f.Blocks {
		if !at[n][255] || behind[n][255] != (n != 1) || slices.Contains(at[n][250:255], true) {
			t.Errorf("block %d: %v, %v", n, at[n], behind[n])
		}
	}
}

func TestRows(t *testing.T) {
	for blocks := 3; blocks < 10; blocks++ {
		for regs := 1; regs < 10; regs++ {
			checkWays(t, against(blocks, regs))
		}
	}
}

// Every place of the longest row is live there by a way of its own: block n answers the place n.
func TestARowWithManyWaysOut(t *testing.T) {
	f := made.Row(api.MaxBlocks, func(n int) api.End { return made.Branch(n+1, 0) })
	f.Regs = api.MaxBlocks
	for n := range f.Blocks {
		f.Blocks[n].End.A = n
	}
	for n, list := range At(f) {
		for place, is := range list {
			if want := n < api.MaxBlocks-1 || place == n; is != want {
				t.Errorf("place %d at block %d: %v", place, n, is)
			}
		}
	}
}
