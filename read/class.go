package read

import "davit/api"

// class of a line, by its first word.
type class int

const (
	// nothing is the class of a line whose word is none, and what stands ahead of the first line.
	nothing class = iota
	function
	block
	pad
	instruction
	end
)

func classOf(word string) class {
	switch {
	case word == "func":
		return function
	case word == "block":
		return block
	case word == "pad":
		return pad
	case opOf(word) != 0:
		return instruction
	case kindOf(word) != 0:
		return end
	}
	return nothing
}

func (c class) mayStandBehind(last class) bool {
	switch c {
	case function:
		return last == nothing || last == end
	case block, pad:
		return last == function || last == end
	case instruction, end:
		return last == block || last == pad || last == instruction
	}
	return false
}

func (c class) mayBeLast() bool { return c == end }

// opOf a word, 0 of one that is no instruction's.
func opOf(word string) int {
	switch word {
	case "const":
		return api.Const
	case "copy":
		return api.Copy
	case "add":
		return api.Add
	case "sub":
		return api.Sub
	case "mul":
		return api.Mul
	case "div":
		return api.Div
	case "eq":
		return api.Eq
	case "lt":
		return api.Lt
	case "load":
		return api.Load
	case "store":
		return api.Store
	case "call":
		return api.Call
	case "out":
		return api.Out
	case "in":
		return api.In
	}
	return 0
}

// kindOf a word, 0 of one that is no end's.
func kindOf(word string) int {
	switch word {
	case "ret":
		return api.Ret
	case "jump":
		return api.Jump
	case "branch":
		return api.Branch
	case "invoke":
		return api.Invoke
	case "throw":
		return api.Throw
	case "resume":
		return api.Resume
	}
	return 0
}
