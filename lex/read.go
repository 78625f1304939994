package lex

import (
	"strings"

	"metronome/api"
)

// greatest is the greatest Number: beyond it not even its negative is a number of 32 bits.
const greatest = 1 << 31

// signs are the words of the kind Sign. One that another begins with stands behind that other, so that the first that fits is the longest.
var signs = [...]string{
	"<>", "<=", ">=", "->",
	"(", ")", "=", "+", "-", "*", "/", "<", ">", ";", ":", ",", "|",
}

// reader is what is still to be read of a text, and where that begins.
type reader struct {
	rest string
	at   api.Pos
}

// skip goes on by n bytes.
func (r *reader) skip(n int) {
	for i := range n {
		if r.rest[i] == '\n' {
			r.at = api.Pos{Line: r.at.Line + 1, Col: 1}
		} else {
			r.at.Col++
		}
	}
	r.rest = r.rest[n:]
}

// gap counts the bytes ahead of the first word of a text.
func gap(s string) int {
	n := 0
	for n < len(s) {
		switch {
		case s[n] == ' ' || s[n] == '\t' || s[n] == '\n':
			n++
		case strings.HasPrefix(s[n:], "--"):
			n += run(s[n:], withinLine)
		default:
			return n
		}
	}
	return n
}

// first is the word that a text begins with, without its place; or what is wrong with it.
func first(s string) (Token, api.Kind) {
	switch {
	case s == "":
		return Token{Kind: End}, api.OK
	case isDigit(s[0]):
		return number(s)
	case isLetter(s[0]):
		return name(s)
	}
	return sign(s)
}

func number(s string) (Token, api.Kind) {
	n := run(s, isDigit)
	v := value(s[:n])
	switch {
	case v > greatest:
		return Token{}, api.Limit
	case n < len(s) && isLetter(s[n]):
		return Token{}, api.Lexic
	}
	return Token{Kind: Number, Text: s[:n], N: int32(v)}, api.OK
}

func name(s string) (Token, api.Kind) {
	word := s[:run(s, inName)]
	switch {
	case len(word) > api.MaxName:
		return Token{}, api.Limit
	case word[0] == '_':
		return Token{}, api.Lexic
	case IsKey(word):
		return Token{Kind: Key, Text: word}, api.OK
	case isGreat(word[0]):
		return Token{Kind: Great, Text: word}, api.OK
	}
	return Token{Kind: Small, Text: word}, api.OK
}

func sign(s string) (Token, api.Kind) {
	for _, word := range signs {
		if strings.HasPrefix(s, word) {
			return Token{Kind: Sign, Text: word}, api.OK
		}
	}
	return Token{}, api.Lexic
}

// value is the number that digits stand for. It stops growing beyond the greatest, as the digits may be more than any integer holds.
func value(digits string) int64 {
	var v int64
	for i := range len(digits) {
		v = min(10*v+int64(digits[i]-'0'), greatest+1)
	}
	return v
}

// run counts the bytes that a text begins with that are of one sort.
func run(s string, of func(byte) bool) int {
	n := 0
	for n < len(s) && of(s[n]) {
		n++
	}
	return n
}

func withinLine(c byte) bool { return c != '\n' }

func isDigit(c byte) bool { return '0' <= c && c <= '9' }

func isGreat(c byte) bool { return 'A' <= c && c <= 'Z' }

// isLetter: may a name begin with it? With _ it may, if only to be wrong as a whole.
func isLetter(c byte) bool { return 'a' <= c && c <= 'z' || isGreat(c) || c == '_' }

func inName(c byte) bool { return isLetter(c) || isDigit(c) }
