// Package made makes modules and functions for tests, from a number, the same ones each time, or from how their blocks end, or who calls whom.
package made

import "davit/api"

// rule tells numbers one behind the other, that look mixed.
type rule struct{ state uint64 }

// below is a number from 0 to n - 1.
func (r *rule) below(n int) int {
	r.state += 0x9e3779b97f4a7c15
	x := r.state
	x = (x ^ x>>30) * 0xbf58476d1ce4e5b9
	x = (x ^ x>>27) * 0x94d049bb133111eb
	return int((x ^ x>>31) % uint64(n))
}

func (r *rule) one(of []int) int { return of[r.below(len(of))] }

func (r *rule) places(count, regs int) []int {
	list := make([]int, count)
	for i := range list {
		list[i] = r.below(regs)
	}
	return list
}

func (r *rule) word() uint16 { return []uint16{0, 0, 1, 1, 2, 3, 15, 16, 65535}[r.below(9)] }

// Func is one of up to 8 blocks that go anywhere: most of them may not be, by ends that are none, and by goals and pads that aren't there, or aren't what they should be.
func Func(seed uint64) api.Func {
	r := &rule{seed}
	f := api.Func{Blocks: make([]api.Block, r.below(9))}
	goal := func() int { return r.below(len(f.Blocks)+2) - 1 }
	for n := range f.Blocks {
		b := &f.Blocks[n]
		b.End = api.End{Kind: r.below(8), To: goal(), Else: goal(), Pad: goal()}
		b.Landing = r.below(2) == 0
		b.Pad.Cleanup = r.below(3) == 0
	}
	return f
}

// Web is a function of so many blocks, most of which lead to two, that are there, one of them often the one behind it: to many of them lead many ways, and back.
func Web(seed uint64, count int) api.Func {
	r := &rule{seed}
	f := api.Func{Regs: 1, Blocks: make([]api.Block, count)}
	for n := range f.Blocks {
		on, other := (n+1)%count, r.below(count)
		f.Blocks[n].End = []api.End{
			{Kind: api.Ret},
			Jump(other),
			Branch(on, other),
			Branch(other, on),
			Invoke(on, other),
			Invoke(other, on),
			Branch(other, r.below(count)),
		}[r.below(7)]
	}
	return f
}
