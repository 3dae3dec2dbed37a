package shape

import (
	"reflect"
	"testing"

	"davit/api"
)

// filled is a module, one that may not be, no field of which is nought and no list of which is empty.
func filled() api.Module {
	var m api.Module
	for f := range 2 {
		n := 100 * (f + 1)
		fn := api.Func{Params: n + 1, Regs: n + 2}
		for b := range 2 {
			n += 10 * (b + 1)
			fn.Blocks = append(fn.Blocks, api.Block{
				Landing: true,
				Pad:     api.Pad{Dst: n, Catch: []uint16{uint16(n), 7}, All: true, Cleanup: true},
				Ins: []api.Ins{
					{Op: n, Dst: n + 1, A: n + 2, B: n + 3, K: uint16(n + 4), F: n + 5, Args: []int{n + 6, 9}},
					{Op: n + 7, Dst: n + 8, A: n + 9, B: n, K: uint16(n), F: n, Args: []int{n, 10}},
				},
				End: api.End{Kind: n + 1, A: n + 2, Dst: n + 3, F: n + 4, Args: []int{n + 5, 11}, To: n + 6, Else: n + 7, Pad: n + 8},
			})
		}
		m.Funcs = append(m.Funcs, fn)
	}
	return m
}

// parts calls do at each number, truth and list of a module, with its path.
func parts(m *api.Module, do func(path string, v reflect.Value)) {
	walk("Module", reflect.ValueOf(m).Elem(), do)
}

func walk(path string, v reflect.Value, do func(path string, v reflect.Value)) {
	switch v.Kind() {
	case reflect.Struct:
		for i := range v.NumField() {
			walk(path+"."+v.Type().Field(i).Name, v.Field(i), do)
		}
	case reflect.Slice:
		for i := range v.Len() {
			walk(path+"["+string(rune('0'+i))+"]", v.Index(i), do)
		}
		do(path, v)
	default:
		do(path, v)
	}
}

// others are the values, unlike v, that are tried in its stead.
func others(v reflect.Value) []reflect.Value {
	switch v.Kind() {
	case reflect.Bool:
		return []reflect.Value{reflect.ValueOf(!v.Bool())}
	case reflect.Int:
		n := int(v.Int())
		return []reflect.Value{reflect.ValueOf(0), reflect.ValueOf(n + 1), reflect.ValueOf(-n), reflect.ValueOf(n + 1<<32)}
	case reflect.Uint16:
		return []reflect.Value{reflect.ValueOf(uint16(0)), reflect.ValueOf(uint16(v.Uint() + 1)), reflect.ValueOf(uint16(v.Uint() + 256))}
	}
	return otherLists(v)
}

func otherLists(v reflect.Value) []reflect.Value {
	longer := reflect.MakeSlice(v.Type(), 0, v.Len()+1)
	longer = reflect.Append(reflect.AppendSlice(longer, v), reflect.Zero(v.Type().Elem()))
	turned := reflect.MakeSlice(v.Type(), v.Len(), v.Len())
	for i := range v.Len() {
		turned.Index(i).Set(v.Index(v.Len() - 1 - i))
	}
	return []reflect.Value{reflect.Zero(v.Type()), v.Slice(0, v.Len()-1), v.Slice(1, v.Len()), longer, turned}
}

func TestSameAtEachFieldAlone(t *testing.T) {
	a, b := filled(), filled()
	tried := 0
	parts(&b, func(path string, v reflect.Value) {
		old := reflect.New(v.Type()).Elem()
		old.Set(v)
		for _, other := range others(v) {
			v.Set(other)
			tried++
			if Same(a, b) || Same(b, a) {
				t.Errorf("%s: %v is the same as %v", path, other, old)
			}
		}
		v.Set(old)
		if !Same(a, b) || !Same(b, a) {
			t.Fatalf("%s: not the same when it is as it was", path)
		}
	})
	if tried < 100 {
		t.Fatalf("only %d tried", tried)
	}
}

func TestSameOfModulesThatAre(t *testing.T) {
	for _, build := range []func() api.Module{example, filled, func() api.Module { return api.Module{} }} {
		if a := build(); !Same(a, build()) || !Same(a, a) {
			t.Errorf("%+v is not the same as itself", a)
		}
	}
	if Same(example(), filled()) || Same(api.Module{}, example()) || Same(example(), api.Module{}) {
		t.Error("the same, though they are not")
	}
}

// setLists makes each list of a module that has nothing in it nil, or empty.
func setLists(m *api.Module, empty bool) {
	parts(m, func(_ string, v reflect.Value) {
		if v.Kind() != reflect.Slice || v.Len() > 0 {
			return
		}
		v.SetZero()
		if empty {
			v.Set(reflect.MakeSlice(v.Type(), 0, 3))
		}
	})
}

func TestNilAndEmptyAreAlike(t *testing.T) {
	for _, build := range []func() api.Module{
		example,
		func() api.Module { return api.Module{} },
		func() api.Module { return api.Module{Funcs: []api.Func{{}}} },
		func() api.Module { return api.Module{Funcs: []api.Func{{Blocks: []api.Block{{Ins: []api.Ins{{}}}}}}} },
	} {
		none, empty := build(), build()
		setLists(&none, false)
		setLists(&empty, true)
		if !Same(none, empty) || !Same(empty, none) {
			t.Errorf("nil and empty differ in %+v", none)
		}
		if Right(none) != Right(empty) {
			t.Errorf("Right tells nil from empty in %+v", none)
		}
		if !Same(Copy(none), empty) || !Same(Copy(empty), none) {
			t.Errorf("copies differ of %+v", none)
		}
	}
}

func TestCopyIsTheSameInAll(t *testing.T) {
	for _, m := range []api.Module{{}, {Funcs: []api.Func{}}, {Funcs: []api.Func{{}}}, example(), filled()} {
		if got := Copy(m); !reflect.DeepEqual(got, m) || !Same(got, m) {
			t.Errorf("%+v is copied as %+v", m, got)
		}
	}
}

// spoil changes each number, truth and list of a module, one list within another first.
func spoil(m *api.Module) {
	parts(m, func(_ string, v reflect.Value) {
		if v.Kind() == reflect.Slice {
			reflect.Append(v, reflect.Zero(v.Type().Elem()))
			return
		}
		v.Set(others(v)[0])
	})
}

// roomy gives each list of a module spare room, with something in it.
func roomy(m *api.Module) {
	parts(m, func(_ string, v reflect.Value) {
		if v.Kind() != reflect.Slice || v.Len() == 0 {
			return
		}
		list := reflect.MakeSlice(v.Type(), 0, v.Len()+3)
		list = reflect.AppendSlice(list, v)
		reflect.Append(list, v.Index(0))
		v.Set(list)
	})
}

// spareRoom is what a module's lists hold in their spare room.
func spareRoom(m api.Module) []any {
	var all []any
	parts(&m, func(_ string, v reflect.Value) {
		if v.Kind() == reflect.Slice {
			whole := v.Slice(0, v.Cap())
			all = append(all, reflect.AppendSlice(reflect.Zero(v.Type()), whole.Slice(v.Len(), v.Cap())).Interface())
		}
	})
	return all
}

func TestACopyHasMemoryOfItsOwn(t *testing.T) {
	for _, build := range []func() api.Module{example, filled} {
		m := build()
		roomy(&m)
		spare := spareRoom(m)
		c := Copy(m)
		spoil(&c)
		if !reflect.DeepEqual(m, build()) || !reflect.DeepEqual(spareRoom(m), spare) {
			t.Error("what is done to the copy is done to the module")
		}
		c = Copy(m)
		spoil(&m)
		if !reflect.DeepEqual(c, build()) {
			t.Error("what is done to the module is done to the copy")
		}
	}
}

func TestNoTwoListsOfACopyShareMemory(t *testing.T) {
	for _, build := range []func() api.Module{example, filled} {
		c := Copy(build())
		parts(&c, func(_ string, v reflect.Value) {
			if v.Kind() == reflect.Slice {
				reflect.Append(v, reflect.Zero(v.Type().Elem()))
			}
		})
		if !reflect.DeepEqual(c, build()) {
			t.Error("what is put behind one list stands in another one")
		}
	}
}

func TestNothingHandedInIsChanged(t *testing.T) {
	for _, build := range []func() api.Module{example, filled} {
		m := build()
		roomy(&m)
		spare := spareRoom(m)
		Right(m)
		Same(m, m)
		Copy(m)
		for _, f := range m.Funcs {
			Func(m, f)
			Cleans(f)
			for _, b := range f.Blocks {
				Goals(b)
			}
		}
		if !reflect.DeepEqual(m, build()) || !reflect.DeepEqual(spareRoom(m), spare) {
			t.Error("a call changed what it was given")
		}
	}
}
