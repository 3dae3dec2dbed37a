package word

import (
	"math"
	"testing"

	"davit/api"
)

// The words at which something goes round, or just doesn't.
var edges = []uint16{0, 1, 2, 3, 7, 255, 256, 257, 4096, 32767, 32768, 32769, 65521, 65533, 65534, 65535}

var pureOps = []int{api.Copy, api.Add, api.Sub, api.Mul, api.Div, api.Eq, api.Lt}

// Numbers that are no operation of this layer: api's others, those around
// them, and those that would be one if they were cut to fewer bits.
var otherOps = []int{
	api.Const, api.Load, api.Store, api.Call, api.Out, api.In,
	0, 14, 15, 100, -1, -2, -3, -8,
	256 + api.Add, 65536 + api.Copy, 1<<32 + api.Div, 1<<32 + api.Mul,
	math.MaxInt, math.MinInt, math.MinInt + api.Eq,
}

func TestDoExamples(t *testing.T) {
	for _, c := range []struct {
		name    string
		op      int
		a, b, n uint16
	}{
		{"copy is a", api.Copy, 7, 9, 7},
		{"copy asks nothing of b", api.Copy, 65535, 0, 65535},
		{"copy of 0", api.Copy, 0, 65535, 0},
		{"sum", api.Add, 2, 3, 5},
		{"sum goes round", api.Add, 65535, 1, 0},
		{"sum of the greatest", api.Add, 65535, 65535, 65534},
		{"sum just below", api.Add, 65534, 1, 65535},
		{"a less b", api.Sub, 5, 3, 2},
		{"a less itself", api.Sub, 65535, 65535, 0},
		{"below 0 goes round", api.Sub, 0, 1, 65535},
		{"0 less the greatest", api.Sub, 0, 65535, 1},
		{"product", api.Mul, 6, 7, 42},
		{"product goes round to 0", api.Mul, 256, 256, 0},
		{"product goes round", api.Mul, 256, 257, 256},
		{"product of the greatest", api.Mul, 65535, 65535, 1},
		{"product just below", api.Mul, 255, 257, 65535},
		{"product by 0", api.Mul, 65535, 0, 0},
		{"whole part", api.Div, 17, 5, 3},
		{"whole part of less than one", api.Div, 4, 5, 0},
		{"0 by something", api.Div, 0, 65535, 0},
		{"greatest by 1", api.Div, 65535, 1, 65535},
		{"greatest by itself", api.Div, 65535, 65535, 1},
		{"above the sign bit", api.Div, 65535, 2, 32767},
		{"same", api.Eq, 4, 4, 1},
		{"same at 0", api.Eq, 0, 0, 1},
		{"not the same", api.Eq, 4, 5, 0},
		{"ends are not the same", api.Eq, 0, 65535, 0},
		{"below", api.Lt, 4, 5, 1},
		{"not below itself", api.Lt, 5, 5, 0},
		{"not below a smaller one", api.Lt, 5, 4, 0},
		{"no word is below 0", api.Lt, 65535, 0, 0},
		{"0 is below the greatest", api.Lt, 0, 65535, 1},
		{"words have no sign", api.Lt, 32767, 32768, 1},
	} {
		if n, ok := Do(c.op, c.a, c.b); n != c.n || !ok {
			t.Errorf("%s: Do(%d, %d, %d) is %d, %v; not %d, true", c.name, c.op, c.a, c.b, n, ok, c.n)
		}
	}
}

// reckon answers as the chapter does, in wide numbers that are cut at the end.
func reckon(op int, a, b int64) (uint16, bool) {
	var n int64
	switch op {
	case api.Copy:
		n = a
	case api.Add:
		n = a + b
	case api.Sub:
		n = a - b + 65536
	case api.Mul:
		n = a * b
	case api.Div:
		if b == 0 {
			return 0, false
		}
		n = (a - a%b) / b
	case api.Eq:
		if a == b {
			n = 1
		}
	case api.Lt:
		if a < b {
			n = 1
		}
	}
	return uint16(n % 65536), true
}

func checkDo(t *testing.T, op int, a, b uint16) {
	wantN, wantOK := reckon(op, int64(a), int64(b))
	if n, ok := Do(op, a, b); n != wantN || ok != wantOK {
		t.Fatalf("Do(%d, %d, %d) is %d, %v; not %d, %v", op, a, b, n, ok, wantN, wantOK)
	}
}

func TestDoAtEveryWordByEdges(t *testing.T) {
	for _, op := range pureOps {
		for a := range 65536 {
			for _, b := range edges {
				checkDo(t, op, uint16(a), b)
				checkDo(t, op, b, uint16(a))
			}
			checkDo(t, op, uint16(a), uint16(a))
			checkDo(t, op, uint16(a), uint16(a+1))
		}
	}
}

func TestDivByZeroAnswersNothing(t *testing.T) {
	for a := range 65536 {
		if n, ok := Do(api.Div, uint16(a), 0); n != 0 || ok {
			t.Fatalf("Do(Div, %d, 0) is %d, %v", a, n, ok)
		}
	}
}

func TestDoOfNoOperationAnswersNothing(t *testing.T) {
	for _, op := range otherOps {
		for _, a := range edges {
			for _, b := range edges {
				if n, ok := Do(op, a, b); n != 0 || ok {
					t.Fatalf("Do(%d, %d, %d) is %d, %v", op, a, b, n, ok)
				}
			}
		}
	}
}

func TestWhatKindsOperationsAre(t *testing.T) {
	for _, c := range []struct {
		name             string
		op               int
		pure, two, turns bool
	}{
		{"Copy", api.Copy, true, false, false},
		{"Add", api.Add, true, true, true},
		{"Sub", api.Sub, true, true, false},
		{"Mul", api.Mul, true, true, true},
		{"Div", api.Div, true, true, false},
		{"Eq", api.Eq, true, true, true},
		{"Lt", api.Lt, true, true, false},
	} {
		if got := Pure(c.op); got != c.pure {
			t.Errorf("Pure(%s) is %v", c.name, got)
		}
		if got := Two(c.op); got != c.two {
			t.Errorf("Two(%s) is %v", c.name, got)
		}
		if got := Turns(c.op); got != c.turns {
			t.Errorf("Turns(%s) is %v", c.name, got)
		}
	}
}

func TestNoOperationIsOfNoKind(t *testing.T) {
	for _, op := range otherOps {
		if Pure(op) || Two(op) || Turns(op) {
			t.Errorf("%d: Pure %v, Two %v, Turns %v", op, Pure(op), Two(op), Turns(op))
		}
	}
}

// Only Copy to Lt are pure: no other number in a wide stretch around them.
func TestPureStretch(t *testing.T) {
	for op := -70000; op <= 70000; op++ {
		want := op >= api.Copy && op <= api.Lt
		_, does := Do(op, 9, 4)
		if Pure(op) != want || does != want {
			t.Fatalf("%d: Pure %v, Do %v; not %v", op, Pure(op), does, want)
		}
	}
}

// What Turns says holds of Do, and what it denies fails somewhere.
func TestTurnsIsWhatDoDoes(t *testing.T) {
	for _, op := range pureOps {
		alike := true
		for _, a := range edges {
			for _, b := range edges {
				n, nOK := Do(op, a, b)
				m, mOK := Do(op, b, a)
				alike = alike && n == m && nOK == mOK
			}
		}
		if alike != Turns(op) {
			t.Errorf("%d: Turns is %v, Do says %v", op, Turns(op), alike)
		}
	}
}

func must(t *testing.T, op int, a, b uint16) uint16 {
	n, ok := Do(op, a, b)
	if !ok {
		t.Fatalf("Do(%d, %d, %d) answers nothing", op, a, b)
	}
	return n
}

func TestSubUndoesAdd(t *testing.T) {
	for a := range 65536 {
		for _, b := range edges {
			a := uint16(a)
			if n := must(t, api.Sub, must(t, api.Add, a, b), b); n != a {
				t.Fatalf("%d and %d, less %d, is %d", a, b, b, n)
			}
			if n := must(t, api.Sub, must(t, api.Add, b, a), a); n != b {
				t.Fatalf("%d and %d, less %d, is %d", b, a, a, n)
			}
			if n := must(t, api.Add, must(t, api.Sub, a, b), b); n != a {
				t.Fatalf("%d less %d, and %d, is %d", a, b, b, n)
			}
		}
	}
}

func checkRest(t *testing.T, a, b uint16) {
	q := must(t, api.Div, a, b)
	whole := must(t, api.Mul, q, b)
	rest := must(t, api.Sub, a, whole)
	if must(t, api.Lt, rest, b) != 1 {
		t.Fatalf("%d by %d is %d, rest %d", a, b, q, rest)
	}
	if int(q)*int(b)+int(rest) != int(a) || must(t, api.Add, whole, rest) != a {
		t.Fatalf("%d by %d is %d, rest %d: they don't make it up", a, b, q, rest)
	}
}

func TestDivAndRestMakeUp(t *testing.T) {
	for a := range 65536 {
		for _, b := range edges {
			if b != 0 {
				checkRest(t, uint16(a), b)
			}
			if a != 0 {
				checkRest(t, b, uint16(a))
			}
		}
	}
}
