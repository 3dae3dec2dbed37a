// Package word is layer 1: numbers that go round. See shared/doc/01-word.md.
package word

import "davit/api"

// Do an operation.
func Do(op int, a, b uint16) (uint16, bool) {
	switch op {
	case api.Copy:
		return a, true
	case api.Add:
		return a + b, true
	case api.Sub:
		return a - b, true
	case api.Mul:
		return a * b, true
	case api.Div:
		return quotient(a, b)
	case api.Eq:
		return truth(a == b), true
	case api.Lt:
		return truth(a < b), true
	}
	return 0, false
}

// Pure operation?
func Pure(op int) bool {
	switch op {
	case api.Copy, api.Add, api.Sub, api.Mul, api.Div, api.Eq, api.Lt:
		return true
	}
	return false
}

// Two words?
func Two(op int) bool { return Pure(op) && op != api.Copy }

// Turns: may both be exchanged?
func Turns(op int) bool {
	switch op {
	case api.Add, api.Mul, api.Eq:
		return true
	}
	return false
}

func quotient(a, b uint16) (uint16, bool) {
	if b == 0 {
		return 0, false
	}
	return a / b, true
}

func truth(is bool) uint16 {
	if is {
		return 1
	}
	return 0
}
