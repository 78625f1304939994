// Package nums is layer 2: see shared/doc/02-nums.md.
package nums

import (
	"slices"

	"metronome/api"
)

// words are the spellings of the operators.
var words = [...]string{
	api.Not: "not",
	api.Neg: "-",
	api.Add: "+",
	api.Sub: "-",
	api.Mul: "*",
	api.Div: "/",
	api.Mod: "mod",
	api.And: "and",
	api.Or:  "or",
	api.Xor: "xor",
	api.Eq:  "=",
	api.Ne:  "<>",
	api.Lt:  "<",
	api.Le:  "<=",
	api.Gt:  ">",
	api.Ge:  ">=",
}

// Un: an operator of one number.
func Un(op byte, a int32) int32 {
	switch op {
	case api.Not:
		return bit(a == 0)
	case api.Neg:
		return -a
	}
	return 0
}

// Bin: an operator of two numbers; by 0 all is 0, and the least number by -1 is itself.
func Bin(op byte, a, b int32) int32 {
	switch op {
	case api.Add:
		return a + b
	case api.Sub:
		return a - b
	case api.Mul:
		return a * b
	case api.Div:
		if b == 0 {
			return 0
		}
		return a / b
	case api.Mod:
		if b == 0 {
			return 0
		}
		return a % b
	}
	return bit(holds(op, a, b))
}

// Word: an operator as it is written; "", if it is none.
func Word(op byte) string {
	if int(op) >= len(words) {
		return ""
	}
	return words[op]
}

// Strength: how strongly an operator of two binds: the greater the stronger; 0: it is none.
func Strength(op byte) int {
	switch op {
	case api.Or, api.Xor:
		return 1
	case api.And:
		return 2
	case api.Eq, api.Ne, api.Lt, api.Le, api.Gt, api.Ge:
		return 3
	case api.Add, api.Sub:
		return 4
	case api.Mul, api.Div, api.Mod:
		return 5
	}
	return 0
}

// Types: of what an operator is, and what it answers: the type of both sides (0: any, both alike), that of the answer.
func Types(op byte) (byte, byte) {
	switch op {
	case api.Not, api.And, api.Or, api.Xor:
		return api.TBool, api.TBool
	case api.Neg, api.Add, api.Sub, api.Mul, api.Div, api.Mod:
		return api.TInt, api.TInt
	case api.Lt, api.Le, api.Gt, api.Ge:
		return api.TInt, api.TBool
	case api.Eq, api.Ne:
		return 0, api.TBool
	}
	return 0, 0
}

// Index: the number of a constructor among others; below 0: it isn't there.
func Index(ctors []string, c string) int32 {
	return int32(slices.Index(ctors, c))
}

// Fits: is a number one of a type, whose constructors are so many?
func Fits(t api.Type, ctors int, n int32) bool {
	switch t.Kind {
	case api.TInt:
		return true
	case api.TBool:
		return n == 0 || n == 1
	case api.TEnum:
		return n >= 0 && int(n) < ctors
	}
	return false
}

// holds: does the condition hold that an operator asks of two numbers?
func holds(op byte, a, b int32) bool {
	switch op {
	case api.And:
		return a != 0 && b != 0
	case api.Or:
		return a != 0 || b != 0
	case api.Xor, api.Ne:
		return a != b
	case api.Eq:
		return a == b
	case api.Le:
		if a == b {
			return true
		}
		fallthrough
	case api.Lt:
		return a < b
	case api.Ge:
		if a == b {
			return true
		}
		fallthrough
	case api.Gt:
		return a > b
	}
	return false
}

// bit: a condition as a number.
func bit(b bool) int32 {
	if b {
		return 1
	}
	return 0
}
