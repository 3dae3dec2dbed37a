// Package passes tells for tests what is wrong with a pass, whatever it makes better.
package passes

import (
	"strconv"

	"davit/api"
	"davit/kept"
	"davit/samples"
	"davit/shape"
)

// Pass over modules.
type Pass = func(m api.Module) (api.Module, api.Errno)

// Faults of a pass that is done with these modules, and those of package samples: it changes what it is handed, or shares memory with it, answers otherwise the next time, or makes something else of what may not be than ErrArg.
func Faults(pass Pass, list []api.Module) []string {
	var faults []string
	named := func(name string, m api.Module) {
		if fault := faultOf(pass, m); fault != "" {
			faults = append(faults, name+": "+fault)
		}
	}
	for n, m := range list {
		named("module "+strconv.Itoa(n), m)
	}
	for name, m := range samples.Wrong() {
		named(name, m)
	}
	for name, m := range samples.Right() {
		named(name, m)
	}
	named("wide", samples.Wide())
	named("nought", api.Module{})
	return faults
}

// faultOf a pass with one module; empty: there is none.
func faultOf(pass Pass, m api.Module) string {
	once, err := pass(m)
	again, err2 := pass(m)
	switch {
	case (err == api.OK) != shape.Right(m) || err != api.OK && err != api.ErrArg:
		return "error " + strconv.Itoa(int(err))
	case err == api.OK && !shape.Right(once):
		return "the answer may not be"
	case err != api.OK && !shape.Same(once, m):
		return "it isn't as it is beside an error"
	case err2 != err || !shape.Same(again, once):
		return "another answer the next time"
	case !kept.Module(m, func(m api.Module) { pass(m) }):
		return "it is changed"
	case !kept.New(m, func(m api.Module) api.Module { return first(pass(m)) }):
		return "the answer shares memory"
	}
	return ""
}

func first(m api.Module, _ api.Errno) api.Module { return m }
