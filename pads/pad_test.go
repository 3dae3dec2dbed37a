package pads

import (
	"math"
	"reflect"
	"slices"
	"testing"

	"davit/api"
	"davit/read"
	"davit/show"
)

func TestTrim(t *testing.T) {
	for line, want := range map[string]string{
		"pad 0 catch 5 all cleanup":               "pad 0 all",
		"pad 3 catch 5 all":                       "pad 3 all",
		"pad 3 all cleanup":                       "pad 3 all",
		"pad 255 all":                             "pad 255 all",
		"pad 1 catch 1 2 3 4 5 6 7 8 all":         "pad 1 all",
		"pad 3 catch 5":                           "pad 3 catch 5",
		"pad 3 catch 5 cleanup":                   "pad 3 catch 5 cleanup",
		"pad 3 catch 65535 0 1 2 3 4 5 6 cleanup": "pad 3 catch 65535 0 1 2 3 4 5 6 cleanup",
		"pad 0 cleanup":                           "pad 0 cleanup",
	} {
		p, is := read.Pad(line)
		if !is {
			t.Fatalf("%q is no pad's", line)
		}
		if got := show.Pad(Trim(p)); got != want {
			t.Errorf("%q: %q, not %q", line, got, want)
		}
	}
}

// pads of each sort: such that may be, and such that may not.
func pads() []api.Pad {
	var list []api.Pad
	for _, dst := range []int{0, 1, 255, 256, -1, math.MinInt, math.MaxInt} {
		for _, catch := range [][]uint16{nil, {}, {0}, {65535}, {7, 7}, {1, 2, 3, 4, 5, 6, 7, 8, 9}, make([]uint16, 1000)} {
			for bits := range 4 {
				list = append(list, api.Pad{Dst: dst, Catch: catch, All: bits&1 == 1, Cleanup: bits&2 == 2})
			}
		}
	}
	return list
}

func TestTrimAnyPad(t *testing.T) {
	for _, p := range pads() {
		was := p
		was.Catch = slices.Clone(p.Catch)
		got := Trim(p)
		if got.Dst != p.Dst || got.All != p.All || got.All && (len(got.Catch) > 0 || got.Cleanup) || !got.All && (!slices.Equal(got.Catch, p.Catch) || got.Cleanup != p.Cleanup) {
			t.Errorf("%+v: %+v", p, got)
		}
		if again := Trim(got); !reflect.DeepEqual(again, got) {
			t.Errorf("%+v: trimmed again %+v", got, again)
		}
		for i := range got.Catch {
			got.Catch[i]++
		}
		_ = append(got.Catch, 9)
		if !reflect.DeepEqual(p, was) {
			t.Errorf("%+v: it is changed with what was answered", was)
		}
	}
}

// What lies behind the numbers that are caught isn't the answer's.
func TestTrimLeavesSpareRoom(t *testing.T) {
	for count := range 3 {
		room := []uint16{1, 2, 3}
		got := Trim(api.Pad{Catch: room[:count]})
		_ = append(got.Catch, 9)
		if !slices.Equal(room, []uint16{1, 2, 3}) {
			t.Errorf("%d numbers: %v", count, room)
		}
	}
}

func TestNothing(t *testing.T) {
	for name, c := range map[string]struct {
		block api.Block
		want  bool
	}{
		"a cleanup":                  {api.Block{Landing: true, Pad: api.Pad{Cleanup: true}, End: api.End{Kind: api.Resume}}, true},
		"one with its own place":     {api.Block{Landing: true, Pad: api.Pad{Dst: 7, Cleanup: true}, End: api.End{Kind: api.Resume}}, true},
		"with lists that are empty":  {api.Block{Landing: true, Pad: api.Pad{Catch: []uint16{}, Cleanup: true}, Ins: []api.Ins{}, End: api.End{Kind: api.Resume, Args: []int{}}}, true},
		"no Landing block":           {api.Block{Pad: api.Pad{Cleanup: true}, End: api.End{Kind: api.Resume}}, false},
		"a block that resumes":       {api.Block{End: api.End{Kind: api.Resume}}, false},
		"one that catches all":       {api.Block{Landing: true, Pad: api.Pad{All: true}, End: api.End{Kind: api.Resume}}, false},
		"all, and is a cleanup":      {api.Block{Landing: true, Pad: api.Pad{All: true, Cleanup: true}, End: api.End{Kind: api.Resume}}, false},
		"all, which shadows numbers": {api.Block{Landing: true, Pad: api.Pad{Catch: []uint16{5}, All: true}, End: api.End{Kind: api.Resume}}, false},
		"one that catches a number":  {api.Block{Landing: true, Pad: api.Pad{Catch: []uint16{0}}, End: api.End{Kind: api.Resume}}, false},
		"a number, and a cleanup":    {api.Block{Landing: true, Pad: api.Pad{Catch: []uint16{0}, Cleanup: true}, End: api.End{Kind: api.Resume}}, false},
		"one with an instruction":    {api.Block{Landing: true, Pad: api.Pad{Cleanup: true}, Ins: []api.Ins{{Op: api.Copy}}, End: api.End{Kind: api.Resume}}, false},
		"one that throws":            {api.Block{Landing: true, Pad: api.Pad{Cleanup: true}, End: api.End{Kind: api.Throw}}, false},
		"one that answers":           {api.Block{Landing: true, Pad: api.Pad{Cleanup: true}, End: api.End{Kind: api.Ret}}, false},
		"one that jumps":             {api.Block{Landing: true, Pad: api.Pad{Cleanup: true}, End: api.End{Kind: api.Jump}}, false},
		"nought":                     {api.Block{}, false},
	} {
		if got := Nothing(c.block); got != c.want {
			t.Errorf("%s: %v", name, got)
		}
	}
}

// kinds of ends: those that there are, and others that are not far from Resume, or far.
func kinds() []int {
	list := []int{math.MinInt, math.MaxInt, -api.Resume, api.Resume + 1<<8, api.Resume + 1<<16, api.Resume + 1<<32}
	for kind := -3; kind < 10; kind++ {
		list = append(list, kind)
	}
	return list
}

// Of any block it hangs on five things alone: there is a way to say how many of them speak against it.
func TestNothingOfAnyBlock(t *testing.T) {
	for _, p := range pads() {
		for _, kind := range kinds() {
			for count := range 3 {
				for bits := range 2 {
					b := api.Block{Landing: bits == 1, Pad: p, Ins: make([]api.Ins, count), End: api.End{Kind: kind, A: 3, To: -1, Pad: 9, Args: []int{1}}}
					against := count + len(p.Catch)
					for _, is := range []bool{!b.Landing, p.All, kind != api.Resume} {
						if is {
							against++
						}
					}
					if got := Nothing(b); got != (against == 0) {
						t.Errorf("%+v: %v", b, got)
					}
				}
			}
		}
	}
}
