package passes

import (
	"slices"
	"strings"
	"testing"

	"davit/api"
	"davit/made"
	"davit/shape"
)

// copied is a pass that does nothing.
func copied(m api.Module) (api.Module, api.Errno) {
	if !shape.Right(m) {
		return shape.Copy(m), api.ErrArg
	}
	return shape.Copy(m), api.OK
}

// changed is the pass that does this with each module copied.
func changed(do func(m *api.Module)) Pass {
	return func(m api.Module) (api.Module, api.Errno) {
		m, err := copied(m)
		do(&m)
		return m, err
	}
}

func TestNoFault(t *testing.T) {
	list := []api.Module{made.Module(1), made.Module(2), made.Callers(3, 4), {Funcs: []api.Func{{}}}}
	for name, pass := range map[string]Pass{
		"a copy": copied,
		"better": changed(func(m *api.Module) {
			if shape.Right(*m) {
				m.Funcs[0].Blocks[0].Ins = nil
			}
		}),
	} {
		if faults := Faults(pass, list); len(faults) > 0 {
			t.Errorf("%s: %q", name, faults)
		}
	}
}

func TestFaults(t *testing.T) {
	count := 0
	for want, pass := range map[string]Pass{
		"error 1":               func(m api.Module) (api.Module, api.Errno) { return shape.Copy(m), api.ErrArg },
		"error 0":               func(m api.Module) (api.Module, api.Errno) { return shape.Copy(m), api.OK },
		"error 2":               func(m api.Module) (api.Module, api.Errno) { m, err := copied(m); return m, 2 * err },
		"the answer may not be": changed(func(m *api.Module) { m.Funcs = nil }),
		"it isn't as it is beside an error": changed(func(m *api.Module) {
			if !shape.Right(*m) {
				m.Funcs = nil
			}
		}),
		"another answer the next time": changed(func(m *api.Module) {
			if count++; shape.Right(*m) {
				m.Funcs[0].Blocks[0].Ins = slices.Repeat([]api.Ins{{Op: api.Const}}, count%2)
			}
		}),
		"it is changed": func(m api.Module) (api.Module, api.Errno) {
			_ = append(m.Funcs, api.Func{})
			return copied(m)
		},
		"the answer shares memory": func(m api.Module) (api.Module, api.Errno) {
			_, err := copied(m)
			return m, err
		},
	} {
		faults := Faults(pass, []api.Module{made.Module(1)})
		if !slices.ContainsFunc(faults, func(fault string) bool { return strings.HasSuffix(fault, want) }) {
			t.Errorf("not %q, but %q", want, faults)
		}
	}
}
