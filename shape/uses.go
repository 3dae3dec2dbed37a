package shape

import "davit/api"

// uses is the set of an instruction's or an end's fields that it uses.
type uses int

const (
	// isOne is in the set of each Op and Kind that there is: a Resume is an end, though it uses nothing.
	isOne uses = 1 << iota
	useDst
	useA
	useB
	useK
	useCall
	useTo
	useElse
	usePad
)

func (u uses) has(field uses) bool { return u&field != 0 }

func usesOfIns(op int) uses {
	switch op {
	case api.Const:
		return isOne | useDst | useK
	case api.Copy, api.Load:
		return isOne | useDst | useA
	case api.Add, api.Sub, api.Mul, api.Div, api.Eq, api.Lt:
		return isOne | useDst | useA | useB
	case api.Store:
		return isOne | useA | useB
	case api.Call:
		return isOne | useDst | useCall
	case api.Out:
		return isOne | useA
	case api.In:
		return isOne | useDst
	}
	return 0
}

func usesOfEnd(kind int) uses {
	switch kind {
	case api.Ret, api.Throw:
		return isOne | useA
	case api.Jump:
		return isOne | useTo
	case api.Branch:
		return isOne | useA | useTo | useElse
	case api.Invoke:
		return isOne | useDst | useCall | useTo | usePad
	case api.Resume:
		return isOne
	}
	return 0
}
