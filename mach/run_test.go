package mach

import (
	"math"
	"reflect"
	"slices"
	"testing"

	"davit/api"
	"davit/runs"
	"davit/samples"
)

func TestRunExample(t *testing.T) {
	m := samples.Module("func 0 1 / block / const 0 7 / ret 0")
	begins := api.Mach{Stack: []api.Frame{{Regs: []uint16{0}}}}
	one := api.Mach{Stack: []api.Frame{{At: 1, Regs: []uint16{7}}}}
	two := api.Mach{Done: api.Answered, Value: 7}
	for fuel, want := range map[int]api.Mach{
		math.MinInt: begins, -1 << 32: begins, -2: begins, -1: begins, 0: begins, 1: one, 2: two, 3: two, 1000: two, 1<<20 - 1: two, 1 << 20: two,
	} {
		if got, err := Run(m, nil, fuel); err != api.OK || !runs.Alike(got, want) {
			t.Errorf("fuel of %d: %+v, %v", fuel, got, err)
		}
	}
	for _, fuel := range []int{1<<20 + 1, 1<<20 + 2, 1 << 21, 1 << 32, 1<<32 + 1, math.MaxInt - 1, math.MaxInt} {
		if got, err := Run(m, []uint16{3}, fuel); err != api.ErrArg || !reflect.DeepEqual(got, api.Mach{}) {
			t.Errorf("fuel of %d: %+v, %v", fuel, got, err)
		}
	}
}

func TestRunWithInputs(t *testing.T) {
	m := samples.Module("func 0 2 / block / in 0 / in 1 / add 0 0 1 / out 0 / jump 0")
	got, err := Run(m, []uint16{1, 2, 65535, 3, 4}, 1000)
	want := api.Mach{
		Stack:  []api.Frame{{At: 1, Regs: []uint16{4, 3}}},
		Events: []int{65537, 65538, 3, 131071, 65539, 2, 65540},
		Done:   api.NoInput,
	}
	if err != api.OK || !runs.Alike(got, want) {
		t.Errorf("%+v, %v", got, err)
	}
	got, err = Run(m, []uint16{1, 2, 65535, 3, 4}, 6)
	want = api.Mach{Stack: []api.Frame{{At: 1, Regs: []uint16{65535, 2}}}, Inputs: []uint16{3, 4}, Events: []int{65537, 65538, 3, 131071}}
	if err != api.OK || !runs.Alike(got, want) {
		t.Errorf("%+v, %v", got, err)
	}
}

// Machines that never end, with as much fuel as there may be: each goes through as many rounds as there are steps for.
func TestRunsThatNeverEnd(t *testing.T) {
	m := samples.Module("func 0 1 / block / jump 0")
	if got, err := Run(m, nil, 1<<20); err != api.OK || !runs.Alike(got, api.Mach{Stack: []api.Frame{{Regs: []uint16{0}}}}) {
		t.Error(got, err)
	}
	// Ten steps a round, of which the fourth counts it.
	m = samples.Module("func 0 3 / block / const 1 15 / const 2 1 / add 0 0 2 / store 1 0 / invoke 1 1 0 1 0 / pad 2 catch 9 / const 2 9 / jump 0" +
		" / func 1 2 / block / call 1 2 / ret 0 / func 0 1 / block / const 0 9 / throw 0")
	got, err := Run(m, []uint16{3}, 1<<20)
	if err != api.OK || got.Done != api.Runs || got.Cells[15] != uint16((1<<20+6)/10%65536) || !slices.Equal(got.Inputs, []uint16{3}) || !Right(m, got) {
		t.Error(got, err)
	}
}

// The greatest module, whose calls are many: whether it may be isn't asked at each of them.
func TestManyCallsOfAGreatModule(t *testing.T) {
	great := samples.Module("func 0 1 / block / call 0 1 / jump 0 / func 0 255 / block / ret 0")
	pad := api.Block{Ins: slices.Repeat([]api.Ins{{Op: api.In, Dst: 255}}, api.MaxIns), End: api.End{Kind: api.Ret}}
	of := api.Func{Regs: 256, Blocks: slices.Repeat([]api.Block{pad}, api.MaxBlocks)}
	great.Funcs = append(great.Funcs, slices.Repeat([]api.Func{of}, 14)...)
	got, err := Run(great, nil, 1<<20)
	if err != api.OK || got.Done != api.Runs {
		t.Error(got.Done, err)
	}
}

func TestTooDeepByRunning(t *testing.T) {
	for _, line := range []string{"call 0 0 / ret 0", "invoke 0 0 1 2"} {
		m := samples.Module("func 0 1 / block / " + line + " / block / ret 0 / pad 0 all cleanup / ret 0")
		for _, fuel := range []int{31, 32, 33, 1000} {
			got, err := Run(m, nil, fuel)
			want := api.Mach{Stack: slices.Repeat([]api.Frame{{Regs: []uint16{0}}}, 32)}
			if fuel > 31 {
				want.Done = api.TooDeep
			}
			if err != api.OK || !runs.Alike(got, want) {
				t.Errorf("fuel of %d: %+v, %v", fuel, got, err)
			}
		}
	}
}

// From 32 frames down again, all of which answer.
func TestAsDeepAsItMayBe(t *testing.T) {
	m := samples.Module("func 0 1 / block / const 0 31 / call 0 1 0 / ret 0" +
		" / func 1 3 / block / const 1 1 / sub 2 0 1 / out 0 / branch 2 1 2 / block / call 0 1 2 / const 1 2 / add 0 0 1 / ret 0 / block / ret 0")
	got, err := Run(m, nil, 1000)
	if err != api.OK || got.Done != api.Answered || got.Value != 61 || len(got.Events) != 31 || len(got.Stack) != 0 {
		t.Error(got, err)
	}
	m.Funcs[0].Blocks[0].Ins[0].K = 32
	got, err = Run(m, nil, 1000)
	if err != api.OK || got.Done != api.TooDeep || got.Value != 0 || len(got.Events) != 31 || len(got.Stack) != 32 {
		t.Error(got, err)
	}
}
