// Package samples has modules for tests: such as texts tell, such as have as much as may be, and such that may not be.
package samples

import (
	"strings"

	"davit/api"
	"davit/read"
	"davit/show"
)

// Module of a text whose lines stand with a stroke between. It panics where the text is none: the test that has it is wrong.
func Module(text string) api.Module {
	m, err, _ := read.Read(strings.ReplaceAll(text, " / ", "\n") + "\n")
	if err != api.OK {
		panic("no module's text: " + text)
	}
	return m
}

// Text of a module that may be. It panics where that may not be.
func Text(m api.Module) string {
	text, err := show.Show(m)
	if err != api.OK {
		panic("no module that may be, or too long a text")
	}
	return text
}

// Wide is a module of each Op and each Kind, and of pads of each sort, in four functions; much of it could be made better.
func Wide() api.Module {
	return Module("func 0 4 / block / const 0 7 / copy 1 0 / add 2 0 1 / div 2 0 1 / load 2 1 / store 1 2 / call 3 2 0 2 / out 3 / in 3 / sub 2 2 0 / mul 2 2 2 / eq 2 2 1 / lt 2 1 2" +
		" / invoke 3 2 2 4 0 2" +
		" / block / branch 3 2 2 / block / ret 3 / pad 3 catch 5 65535 / jump 1 / pad 2 all / throw 2 / pad 1 cleanup / call 1 1 / resume" +
		" / func 0 1 / block / ret 0" +
		" / func 2 2 / block / invoke 0 1 1 2 / block / invoke 0 0 3 2 / pad 0 catch 1 all cleanup / throw 0 / block / ret 0 / block / ret 1" +
		" / func 0 1 / block / ret 0")
}
