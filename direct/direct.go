// Package direct puts Calls where Invokes stood.
package direct

import "davit/api"

// Invokes of a module that may be, changed: each block that ends with a needless one, and has room, calls instead.
func Invokes(m api.Module, needless func(f api.Func, b api.Block) bool) {
	for _, f := range m.Funcs {
		for n, b := range f.Blocks {
			if b.End.Kind == api.Invoke && len(b.Ins) < api.MaxIns && needless(f, b) {
				f.Blocks[n] = calling(b)
			}
		}
	}
}

// calling is the block, which calls what it invoked; the Call has the list of arguments that the end had.
func calling(b api.Block) api.Block {
	e := b.End
	b.Ins = append(b.Ins, api.Ins{Op: api.Call, Dst: e.Dst, F: e.F, Args: e.Args})
	b.End = api.End{Kind: api.Jump, To: e.To}
	return b
}
