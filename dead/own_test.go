package dead

import (
	"testing"

	"davit/api"
	"davit/kept"
	"davit/made"
	"davit/samples"
	"davit/shape"
)

// clears are the ways to clear a module: by Module, and its functions by Func.
func clears() map[string]func(m api.Module) api.Module {
	return map[string]func(m api.Module) api.Module{
		"Module": func(m api.Module) api.Module { c, _ := Module(m); return c },
		"Func": func(m api.Module) api.Module {
			var c api.Module
			for _, f := range m.Funcs {
				c.Funcs = append(c.Funcs, Func(f))
			}
			return c
		},
	}
}

// several modules: such that may be and such that may not, whose functions are cleared or stay.
func several() []api.Module {
	wrong := samples.Wide()
	wrong.Funcs[1].Blocks[0].End.A = 1
	list := []api.Module{{}, {Funcs: []api.Func{{}}}, samples.Wide(), wrong, {Funcs: []api.Func{ended(made.Jump(9)), ended(made.Jump(2))}}}
	for seed := range uint64(300) {
		list = append(list, made.Module(seed), made.Callers(seed, int(seed%9)), api.Module{Funcs: []api.Func{made.Func(seed), made.Func(seed + 1)}})
	}
	return list
}

func TestWhatIsHandedInIsNotChanged(t *testing.T) {
	for n, m := range several() {
		for name, call := range clears() {
			if !kept.Module(m, func(m api.Module) { call(m) }) {
				t.Fatalf("%s, module %d: it is changed", name, n)
			}
		}
	}
}

func TestAnswersAreNewMemory(t *testing.T) {
	for n, m := range several() {
		for name, call := range clears() {
			if !kept.New(m, call) {
				t.Fatalf("%s, module %d: the answer shares memory", name, n)
			}
		}
	}
}

// The answer is the same each time.
func TestTheSameEachTime(t *testing.T) {
	for n, m := range several() {
		for name, call := range clears() {
			want := call(m)
			for range 3 {
				if got := call(m); !shape.Same(got, want) {
					t.Fatalf("%s, module %d: %+v, which was %+v", name, n, got, want)
				}
			}
		}
	}
}
