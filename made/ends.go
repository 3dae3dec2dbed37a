package made

import (
	"iter"
	"math"

	"davit/api"
)

// Jump to a block.
func Jump(to int) api.End { return api.End{Kind: api.Jump, To: to} }

// Branch to two blocks.
func Branch(to, other int) api.End { return api.End{Kind: api.Branch, To: to, Else: other} }

// Invoke of function 0.
func Invoke(to, pad int) api.End { return api.End{Kind: api.Invoke, To: to, Pad: pad} }

// Of is a function of blocks that end so.
func Of(ends ...api.End) api.Func {
	f := api.Func{Regs: 1, Blocks: make([]api.Block, len(ends))}
	for n, end := range ends {
		f.Blocks[n].End = end
	}
	return f
}

// Landing is the function, changed: these blocks are Landing.
func Landing(f api.Func, pads ...int) api.Func {
	for _, n := range pads {
		f.Blocks[n].Landing, f.Blocks[n].Pad.All = true, true
	}
	return f
}

// Ends of a function of so many blocks: one that leads nowhere, and each that leads to one or two blocks that are there, or to one that isn't, instead.
func Ends(count int) []api.End {
	ends := []api.End{{Kind: api.Ret}, Jump(count), Branch(-1, count)}
	for to := range count {
		ends = append(ends, Jump(to), Branch(to, -1), Invoke(count, to))
		for other := range count {
			ends = append(ends, Branch(to, other), Invoke(to, other))
		}
	}
	return ends
}

// Ways are ends of a function of so many blocks: one that leads nowhere, and one for each block and each two blocks to lead to.
func Ways(count int) []api.End {
	ways := []api.End{{Kind: api.Ret}}
	for to := range count {
		for other := range to + 1 {
			ways = append(ways, Branch(to, other))
		}
	}
	return ways
}

// Every function of so many blocks, each of which ends in one of these ways.
func Every(count int, ends []api.End) iter.Seq[api.Func] {
	return func(yield func(api.Func) bool) {
		for number := range power(len(ends), count) {
			chosen := make([]api.End, count)
			for n := range chosen {
				chosen[n] = ends[number%len(ends)]
				number /= len(ends)
			}
			if !yield(Of(chosen...)) {
				return
			}
		}
	}
}

// Row is of so many blocks, the last of which leads nowhere.
func Row(count int, end func(n int) api.End) api.Func {
	f := Of(make([]api.End, count)...)
	for n := range f.Blocks {
		f.Blocks[n].End = end(n)
	}
	f.Blocks[count-1].End = api.End{Kind: api.Ret}
	return f
}

// NotThere are numbers of no block of a function.
func NotThere(f api.Func) []int { return NoneOf(len(f.Blocks)) }

// NoneOf are numbers of nothing where there are so many.
func NoneOf(count int) []int {
	return []int{-1, -2, -count, -count - 1, -1 << 32, math.MinInt, math.MinInt + 1, count, count + 1, count + 1000, count + 1<<16, count + 1<<32, 1 << 32, 1<<32 + 1, math.MaxInt}
}
