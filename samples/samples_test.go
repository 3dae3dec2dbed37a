package samples

import (
	"testing"

	"davit/api"
	"davit/shape"
)

func TestModule(t *testing.T) {
	got := Module("func 0 1 / block / const 0 7 / ret 0")
	want := api.Module{Funcs: []api.Func{{Regs: 1, Blocks: []api.Block{{Ins: []api.Ins{{Op: api.Const, K: 7}}, End: api.End{Kind: api.Ret}}}}}}
	if !shape.Same(got, want) {
		t.Errorf("%+v", got)
	}
	for _, text := range []string{"", "func 0 1", "func 0 1 / block / ret 1", "func 0 1 / block / ret 0 / "} {
		if !panics(func() { Module(text) }) {
			t.Errorf("%q is a module's", text)
		}
	}
}

func TestText(t *testing.T) {
	if got := Text(Module("func 0 1 / block / const 0 7 / ret 0")); got != "func 0 1\nblock\nconst 0 7\nret 0\n" {
		t.Errorf("%q", got)
	}
	for name, m := range Wrong() {
		if !panics(func() { Text(m) }) {
			t.Errorf("%s: it has a text", name)
		}
	}
}

func panics(do func()) (is bool) {
	defer func() { is = recover() != nil }()
	do()
	return false
}

func TestWide(t *testing.T) {
	m := Wide()
	var ops [api.In + 1]int
	var kinds [api.Resume + 1]int
	for _, f := range m.Funcs {
		for _, b := range f.Blocks {
			kinds[b.End.Kind]++
			for _, x := range b.Ins {
				ops[x.Op]++
			}
		}
	}
	for op := api.Const; op <= api.In; op++ {
		if ops[op] == 0 {
			t.Errorf("no instruction of Op %d", op)
		}
	}
	for kind := api.Ret; kind <= api.Resume; kind++ {
		if kinds[kind] == 0 {
			t.Errorf("no end of Kind %d", kind)
		}
	}
	m.Funcs[0].Blocks[0].Ins[0].K = 8
	if !shape.Right(Wide()) || shape.Same(m, Wide()) {
		t.Error("it may not be, or is one module each time")
	}
}

func TestWrong(t *testing.T) {
	list := Wrong()
	for name, m := range list {
		if shape.Right(m) {
			t.Errorf("%s: it may be", name)
		}
	}
	unlike(t, list, len(lengths())+len(numbers())+len(calls())+len(goals())+len(rest()))
	if len(list) < 50 {
		t.Errorf("%d modules", len(list))
	}
}

func TestRight(t *testing.T) {
	list := Right()
	for name, m := range list {
		if !shape.Right(m) {
			t.Errorf("%s: it may not be", name)
		}
	}
	unlike(t, list, 7)
}

// unlike: are there so many, no two of which are the same, but for those without a function?
func unlike(t *testing.T, list map[string]api.Module, count int) {
	t.Helper()
	if len(list) != count {
		t.Errorf("%d modules, not %d", len(list), count)
	}
	for name, m := range list {
		if shape.Same(m, Wide()) {
			t.Errorf("%s is as it was", name)
		}
		for other, k := range list {
			if other != name && len(m.Funcs) > 0 && shape.Same(m, k) {
				t.Errorf("%s is %s", name, other)
			}
		}
	}
}
