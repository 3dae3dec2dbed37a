package live

import (
	"davit/api"
	"davit/shape"
)

// couldBe: could it be a function of some module, whose functions have whatever Params, the first one, too?
//
// shape.Func asks nothing but Params of those that are called, so a module of as many functions as there may be is enough.
func couldBe(f api.Func) bool {
	called := make([]api.Func, api.MaxFuncs)
	for _, b := range f.Blocks {
		for _, x := range b.Ins {
			if x.Op == api.Call {
				suit(called, x.F, x.Args)
			}
		}
		if b.End.Kind == api.Invoke {
			suit(called, b.End.F, b.End.Args)
		}
	}
	return shape.Func(api.Module{Funcs: called}, f)
}

// suit gives the function called the Params of this call. What suits no function stays one that shape.Func refuses: of a number that there isn't, of too many args, or unlike another call of the same.
func suit(called []api.Func, n int, args []int) {
	if 0 <= n && n < len(called) {
		called[n].Params = min(len(args), api.MaxArgs)
	}
}
