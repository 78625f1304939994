package lex_test

import (
	"math/big"
	"reflect"
	"regexp"
	"slices"
	"strings"
	"testing"

	"metronome/api"
	"metronome/faults"
	"metronome/lex"
)

// The chapter once more, as patterns: what Words finds must be what these find.
var (
	gapForm    = regexp.MustCompile(`^(?:[ \t\n]|--[^\n]*)*`)
	numberForm = regexp.MustCompile(`^([0-9]+)([a-zA-Z_]?)`)
	nameForm   = regexp.MustCompile(`^[a-zA-Z_][a-zA-Z0-9_]*`)
	signForm   = regexp.MustCompile(`^(?:<>|<=|>=|->|[()=+\-*/<>;:,|])`)
)

var mostNumber = big.NewInt(1 << 31)

// placeOf is the place of the byte of a text that has so many ahead of it.
func placeOf(s string, ahead int) api.Pos {
	line := 1 + strings.Count(s[:ahead], "\n")
	return pos(line, ahead-strings.LastIndex(s[:ahead], "\n"))
}

// byForms is the first word of a text as the patterns have it, without its place.
func byForms(s string) (lex.Token, api.Kind) {
	if m := numberForm.FindStringSubmatch(s); m != nil {
		n, _ := new(big.Int).SetString(m[1], 10)
		if n.Cmp(mostNumber) > 0 {
			return lex.Token{}, api.Limit
		}
		if m[2] != "" {
			return lex.Token{}, api.Lexic
		}
		return lex.Token{Kind: lex.Number, Text: m[1], N: int32(n.Int64())}, api.OK
	}
	if m := nameForm.FindString(s); m != "" {
		switch {
		case len(m) > api.MaxName:
			return lex.Token{}, api.Limit
		case strings.HasPrefix(m, "_"):
			return lex.Token{}, api.Lexic
		case slices.Contains(strings.Split(keys, ", "), m):
			return lex.Token{Kind: lex.Key, Text: m}, api.OK
		case strings.ToUpper(m[:1]) == m[:1]:
			return lex.Token{Kind: lex.Great, Text: m}, api.OK
		}
		return lex.Token{Kind: lex.Small, Text: m}, api.OK
	}
	if m := signForm.FindString(s); m != "" {
		return lex.Token{Kind: lex.Sign, Text: m}, api.OK
	}
	return lex.Token{}, api.Lexic
}

// wordsByForms are the words of a text as the patterns have them.
func wordsByForms(s string) ([]lex.Token, error) {
	var l []lex.Token
	ahead := 0
	for {
		ahead += len(gapForm.FindString(s[ahead:]))
		if ahead == len(s) {
			return append(l, lex.Token{Kind: lex.End, At: placeOf(s, ahead)}), nil
		}
		t, k := byForms(s[ahead:])
		if k != api.OK {
			return nil, faults.New(k, placeOf(s, ahead))
		}
		t.At = placeOf(s, ahead)
		l = append(l, t)
		ahead += len(t.Text)
	}
}

// compare holds Words to the patterns, and what it found to what the chapter says of every answer.
func compare(t *testing.T, s string) {
	t.Helper()
	want, wrong := wordsByForms(s)
	got, err := lex.Words(s)
	if !slices.Equal(got, want) || !reflect.DeepEqual(err, wrong) {
		t.Errorf("Words(%q) = %v, %v; want %v, %v", s, got, err, want, wrong)
		return
	}
	if err != nil {
		return
	}
	joined := lex.Join(got)
	again, err := lex.Words(joined)
	if err != nil || !slices.EqualFunc(got, again, lex.Same) {
		t.Errorf("the words of %q, joined to %q, are %v, %v", s, joined, again, err)
	}
}

// P3.1, P3.2: all texts of a few pieces
func TestWordsAsThePatternsHaveThem(t *testing.T) {
	pieces := []string{
		"", " ", "\n", "\t", "-", "--", ">", "<", "=", "->", "(", "|", "/", ";",
		"0", "19", "2147483648", "2147483649", "x", "X", "_", "if", "en", "d", strings.Repeat("b", 16), strings.Repeat("C", 32),
		"?", "\r", "\x00", "\xc3\xa9", "\xff", ".",
	}
	for _, a := range pieces {
		for _, b := range pieces {
			for _, c := range pieces {
				compare(t, a+b+c)
			}
		}
	}
}

// P3.1, P3.2: all texts of five of the bytes on which the words turn
func TestWordsOfTheBytesOnWhichTheyTurn(t *testing.T) {
	const bytes = "-><=\n a_1?"
	all := 1
	for range 5 {
		all *= len(bytes)
	}
	for n := range all {
		var s []byte
		for range 5 {
			s = append(s, bytes[n%len(bytes)])
			n /= len(bytes)
		}
		compare(t, string(s))
	}
}

func FuzzWords(f *testing.F) {
	for _, s := range []string{"", "x=-1", "node f(a: int) returns (x: int) let x = 0 fby (a + 1); tel", "-- é\n1x", "2147483648 2147483649"} {
		f.Add(s)
	}
	f.Fuzz(func(t *testing.T, s string) {
		if len(s) <= api.MaxText {
			compare(t, s)
		}
	})
}

// P3.1: a program as it is written
func TestWordsOfAProgram(t *testing.T) {
	const program = `type way = Up | Down; -- two ways
node count(go: bool; w: way) returns (last n: int = 0)
	var d: int when Up(w);
let
	d = 1 when Up(w);
	switch w | Up do n = last n + d; | Down do n = last n - 1 mod 7; end;
tel
`
	const words = "type way = Up | Down ; node count ( go : bool ; w : way ) returns ( last n : int = 0 ) var d : int when Up ( w ) ; let d = 1 when Up ( w ) ; switch w | Up do n = last n + d ; | Down do n = last n - 1 mod 7 ; end ; tel"
	compare(t, program)
	l, err := lex.Words(program)
	if got := lex.Join(l); err != nil || got != words {
		t.Fatalf("the words are %q, %v; want %q", got, err, words)
	}
	if last := l[len(l)-1]; last != end(8, 1) {
		t.Errorf("the last word is %v", last)
	}
}

// P1, P2: whatever the text, an answer, and the same one again
func TestWordsAnswerAlike(t *testing.T) {
	for _, s := range []string{"", "x = 1", "?", "_", strings.Repeat("\xff", api.MaxText), strings.Repeat("x ", api.MaxText/2), strings.Repeat("9", api.MaxText), strings.Repeat("a", 5<<20)} {
		first, wrong := lex.Words(s)
		_, _ = lex.Words("node " + s[:min(len(s), 9)])
		again, err := lex.Words(s)
		if !slices.Equal(first, again) || !reflect.DeepEqual(err, wrong) {
			t.Errorf("Words(%.20q) has two answers", s)
		}
		if len(first) > 0 && &first[0] == &again[0] {
			t.Errorf("Words(%.20q): two answers share their memory", s)
		}
	}
}

// P1, P2: what is joined or held against another stays as it is
func TestJoinAndSameLeaveTheirArguments(t *testing.T) {
	l, _ := lex.Words("x = 1 + y")
	before := slices.Clone(l)
	lex.Join(l)
	lex.Same(l[0], l[1])
	if !slices.Equal(l, before) {
		t.Errorf("the words are %v, and were %v", l, before)
	}
}
