package lex_test

import (
	"math"
	"reflect"
	"slices"
	"strings"
	"testing"

	"metronome/api"
	"metronome/faults"
	"metronome/lex"
)

// keys are the keywords, as the document lists them.
const keys = "and, automaton, bool, continue, do, else, end, every, false, fby, if, int, last, let, merge, mod, node, not, or, pre, reset, returns, switch, tel, then, true, type, unless, until, var, when, xor"

// signs are the words of the kind Sign.
const signs = "<> <= >= -> ( ) = + - * / < > ; : , |"

func pos(line, col int) api.Pos { return api.Pos{Line: line, Col: col} }

func word(kind byte, text string, line, col int) lex.Token {
	return lex.Token{Kind: kind, Text: text, At: pos(line, col)}
}

func num(text string, n int32, line, col int) lex.Token {
	return lex.Token{Kind: lex.Number, Text: text, N: n, At: pos(line, col)}
}

func end(line, col int) lex.Token { return word(lex.End, "", line, col) }

// valid holds Words to the words that it should find.
func valid(t *testing.T, s string, want ...lex.Token) {
	t.Helper()
	got, err := lex.Words(s)
	if err != nil || !slices.Equal(got, want) {
		t.Errorf("Words(%.80q) = %v, %v; want %v", s, got, err, want)
	}
}

// invalid holds Words to the error that it should find, and to nothing beside it.
func invalid(t *testing.T, s string, k api.Kind, line, col int) {
	t.Helper()
	got, err := lex.Words(s)
	if len(got) != 0 {
		t.Errorf("Words(%.80q) = %v beside an error", s, got)
	}
	if want := faults.New(k, pos(line, col)); !reflect.DeepEqual(err, want) {
		t.Errorf("Words(%.80q): %v, want %v", s, err, want)
	}
}

// P3.1: the kinds

func TestTheKindsAreNumberedInTheirOrder(t *testing.T) {
	got := []byte{lex.End, lex.Number, lex.Small, lex.Great, lex.Key, lex.Sign}
	if want := []byte{0, 1, 2, 3, 4, 5}; !slices.Equal(got, want) {
		t.Errorf("the kinds are %v, want %v", got, want)
	}
}

func TestTheExampleOfTheDocument(t *testing.T) {
	valid(t, "x=-1", word(lex.Small, "x", 1, 1), word(lex.Sign, "=", 1, 2), word(lex.Sign, "-", 1, 3), num("1", 1, 1, 4), end(1, 5))
}

func TestNumbers(t *testing.T) {
	rows := []struct {
		text string
		n    int32
	}{
		{"0", 0}, {"7", 7}, {"0123456789", 123456789}, {"00", 0}, {"007", 7},
		{"2147483647", math.MaxInt32}, {"2147483648", math.MinInt32},
		{"00000000002147483648", math.MinInt32}, {strings.Repeat("0", 1000) + "1", 1},
	}
	for _, r := range rows {
		valid(t, r.text, num(r.text, r.n, 1, 1), end(1, 1+len(r.text)))
	}
}

func TestNames(t *testing.T) {
	rows := []struct {
		kind byte
		text string
	}{
		{lex.Small, "x"}, {lex.Small, "a"}, {lex.Small, "z"}, {lex.Small, "x_1"}, {lex.Small, "xY"}, {lex.Small, "a0123456789"}, {lex.Small, "x_"},
		{lex.Great, "X"}, {lex.Great, "A"}, {lex.Great, "Z"}, {lex.Great, "Up"}, {lex.Great, "If"}, {lex.Great, "NODE"}, {lex.Great, "X_9z"},
		{lex.Small, "iff"}, {lex.Small, "i"}, {lex.Small, "if_"}, {lex.Small, "end1"}, {lex.Small, "nodes"},
		{lex.Small, strings.Repeat("a", api.MaxName)}, {lex.Great, strings.Repeat("A", api.MaxName)},
	}
	for _, r := range rows {
		valid(t, r.text, word(r.kind, r.text, 1, 1), end(1, 1+len(r.text)))
	}
}

func TestKeywords(t *testing.T) {
	for _, k := range strings.Split(keys, ", ") {
		valid(t, k, word(lex.Key, k, 1, 1), end(1, 1+len(k)))
	}
}

func TestSigns(t *testing.T) {
	for _, s := range strings.Fields(signs) {
		valid(t, s, word(lex.Sign, s, 1, 1), end(1, 1+len(s)))
	}
}

// Every byte begins a word, or a gap, or nothing.
func TestEachByteByItself(t *testing.T) {
	const letters = "abcdefghijklmnopqrstuvwxyzABCDEFGHIJKLMNOPQRSTUVWXYZ"
	for c := range 256 {
		s := string([]byte{byte(c)})
		switch {
		case s == "\n":
			valid(t, s, end(2, 1))
		case s == " " || s == "\t":
			valid(t, s, end(1, 2))
		case strings.Contains(letters[:26], s):
			valid(t, s, word(lex.Small, s, 1, 1), end(1, 2))
		case strings.Contains(letters[26:], s):
			valid(t, s, word(lex.Great, s, 1, 1), end(1, 2))
		case '0' <= c && c <= '9':
			valid(t, s, num(s, int32(c-'0'), 1, 1), end(1, 2))
		case slices.Contains(strings.Fields(signs), s):
			valid(t, s, word(lex.Sign, s, 1, 1), end(1, 2))
		default:
			invalid(t, s, api.Lexic, 1, 1)
		}
	}
}

// P3.1: what separates words, and how far each reaches

func TestEveryTokenIsAsLongAsPossible(t *testing.T) {
	rows := []struct{ text, words string }{
		{"<>", "<>"}, {"<=", "<="}, {">=", ">="}, {"->", "->"},
		{"<<>", "< <>"}, {"<>>", "<> >"}, {"<=>", "<= >"}, {"<>=", "<> ="}, {">>=", "> >="}, {">==", ">= ="}, {"=>", "= >"}, {"=<", "= <"}, {"><", "> <"},
		{"->>", "-> >"}, {"->=", "-> ="}, {"->-", "-> -"}, {"<->", "< ->"}, {"-=", "- ="}, {"=-", "= -"},
		{"x1y", "x1y"}, {"x1 y", "x1 y"}, {"iffy", "iffy"}, {"if(x)", "if ( x )"}, {"x=1", "x = 1"}, {"1+2*x", "1 + 2 * x"}, {"-1", "- 1"}, {"12 34", "12 34"},
		{"a:int;", "a : int ;"}, {"A|B", "A | B"}, {"x,y", "x , y"}, {"a/b", "a / b"}, {"1<2", "1 < 2"},
	}
	for _, r := range rows {
		l, err := lex.Words(r.text)
		if got := lex.Join(l); err != nil || got != r.words {
			t.Errorf("the words of %q are %q, %v; want %q", r.text, got, err, r.words)
		}
	}
}

func TestBlanksTabsAndLinesSeparate(t *testing.T) {
	valid(t, "", end(1, 1))
	valid(t, "  \t ", end(1, 5))
	valid(t, "\n\n", end(3, 1))
	valid(t, " \n\t\n ", end(3, 2))
	valid(t, "x\ty", word(lex.Small, "x", 1, 1), word(lex.Small, "y", 1, 3), end(1, 4))
	valid(t, "x\n\n  y\n", word(lex.Small, "x", 1, 1), word(lex.Small, "y", 3, 3), end(4, 1))
	valid(t, "1\n2", num("1", 1, 1, 1), num("2", 2, 2, 1), end(2, 2))
}

func TestComments(t *testing.T) {
	valid(t, "--", end(1, 3))
	valid(t, "--\n", end(2, 1))
	valid(t, "-- ?\x00\xff\r _x 9a --\n--\n", end(3, 1))
	valid(t, "---", end(1, 4))
	valid(t, "-->", end(1, 4))
	valid(t, "x--y\nz", word(lex.Small, "x", 1, 1), word(lex.Small, "z", 2, 1), end(2, 2))
	valid(t, "1--2", num("1", 1, 1, 1), end(1, 5))
	valid(t, "->--x", word(lex.Sign, "->", 1, 1), end(1, 6))
	valid(t, "<--x\n>", word(lex.Sign, "<", 1, 1), word(lex.Sign, ">", 2, 1), end(2, 2))
	valid(t, "- -x", word(lex.Sign, "-", 1, 1), word(lex.Sign, "-", 1, 3), word(lex.Small, "x", 1, 4), end(1, 5))
	valid(t, "-\n-x", word(lex.Sign, "-", 1, 1), word(lex.Sign, "-", 2, 1), word(lex.Small, "x", 2, 2), end(2, 3))
	valid(t, "-- "+strings.Repeat("é", 40)+" x", end(1, 86))
}

// P3.2

func TestTextsAtTheLimitAndBeyond(t *testing.T) {
	valid(t, strings.Repeat(" ", api.MaxText), end(1, api.MaxText+1))
	valid(t, strings.Repeat("\n", api.MaxText), end(api.MaxText+1, 1))
	valid(t, "--"+strings.Repeat("?", api.MaxText-2), end(1, api.MaxText+1))
	invalid(t, strings.Repeat(" ", api.MaxText+1), api.Limit, 1, 1)
	invalid(t, strings.Repeat("\n", api.MaxText+1), api.Limit, 1, 1)
	invalid(t, "?"+strings.Repeat(" ", api.MaxText), api.Limit, 1, 1)
	invalid(t, strings.Repeat(" ", api.MaxText-1)+"?", api.Lexic, 1, api.MaxText)
	l, err := lex.Words(strings.Repeat("(", api.MaxText))
	if err != nil || len(l) != api.MaxText+1 || l[api.MaxText] != end(1, api.MaxText+1) {
		t.Errorf("a text of %d signs has %d words, %v", api.MaxText, len(l), err)
	}
}

func TestNumbersBeyondTheLimit(t *testing.T) {
	for _, s := range []string{
		"2147483649", "2147483650", "4294967295", "4294967296", "4294967297", "6442450944", "9999999999",
		"9223372036854775807", "9223372036854775808", "18446744073709551615", "18446744073709551616", "18446744073709551617",
		"0002147483649", "1" + strings.Repeat("0", 1000), strings.Repeat("9", 60000),
	} {
		invalid(t, s, api.Limit, 1, 1)
		invalid(t, "x\n  "+s, api.Limit, 2, 3)
		invalid(t, s+"x", api.Limit, 1, 1)
		invalid(t, s+"_", api.Limit, 1, 1)
	}
}

func TestNumbersThatRunIntoANameAreNone(t *testing.T) {
	for _, s := range []string{"0x", "1a", "1z", "1A", "1Z", "1_", "12x3", "1if", "007_", "2147483647x", "2147483648x", "1" + strings.Repeat("a", api.MaxName+1)} {
		invalid(t, s, api.Lexic, 1, 1)
		invalid(t, "x = "+s+" ?", api.Lexic, 1, 5)
	}
	invalid(t, "1é", api.Lexic, 1, 2)
	invalid(t, "1.5", api.Lexic, 1, 2)
	valid(t, "1--x", num("1", 1, 1, 1), end(1, 5))
}

func TestNamesBeyondTheLimit(t *testing.T) {
	for _, c := range []string{"a", "Z"} {
		invalid(t, strings.Repeat(c, api.MaxName+1), api.Limit, 1, 1)
		invalid(t, "\t("+strings.Repeat(c, 1000)+"?", api.Limit, 1, 3)
		invalid(t, c+strings.Repeat("_9", api.MaxName/2), api.Limit, 1, 1)
	}
	invalid(t, "_"+strings.Repeat("a", api.MaxName), api.Limit, 1, 1)
	invalid(t, strings.Repeat("_", api.MaxName+1), api.Limit, 1, 1)
}

func TestNamesThatBeginWithAnUnderscore(t *testing.T) {
	for _, s := range []string{"_", "__", "_x", "_X", "_1", "_if", "_" + strings.Repeat("a", api.MaxName-1)} {
		invalid(t, s, api.Lexic, 1, 1)
		invalid(t, "x\n "+s+" ?", api.Lexic, 2, 2)
	}
	valid(t, "x_", word(lex.Small, "x_", 1, 1), end(1, 3))
}

func TestBytesWithWhichNoTokenBegins(t *testing.T) {
	rows := []struct {
		text      string
		line, col int
	}{
		{"?", 1, 1}, {"x ?", 1, 3}, {"x\n\n?", 3, 1}, {"x?y", 1, 2}, {"\r\n", 1, 1}, {"x\r\n", 1, 2}, {"x\x00", 1, 2}, {"\v", 1, 1}, {"\f", 1, 1},
		{"é", 1, 1}, {"xé", 1, 2}, {"x=\xff", 1, 3}, {"-- é\né", 2, 1}, {"\u00a0", 1, 1}, {"\ufeffx", 1, 1}, {"{", 1, 1}, {"a.b", 1, 2}, {"!", 1, 1}, {"\"", 1, 1}, {"'", 1, 1}, {"&", 1, 1}, {"~", 1, 1},
		{"x\n--y\n\t[", 3, 2},
	}
	for _, r := range rows {
		invalid(t, r.text, api.Lexic, r.line, r.col)
	}
}

func TestTheFirstInvalidTokenDecides(t *testing.T) {
	long, great := strings.Repeat("a", api.MaxName+1), "2147483649"
	invalid(t, "? "+long, api.Lexic, 1, 1)
	invalid(t, long+" ?", api.Limit, 1, 1)
	invalid(t, "x _y "+great, api.Lexic, 1, 3)
	invalid(t, "x "+great+" _y", api.Limit, 1, 3)
	invalid(t, "1x "+long, api.Lexic, 1, 1)
	invalid(t, "--?\n"+great+"--?", api.Limit, 2, 1)
}

// P3.3

func TestIsKey(t *testing.T) {
	all := strings.Split(keys, ", ")
	for _, k := range all {
		if !lex.IsKey(k) {
			t.Errorf("%s is a keyword", k)
		}
		for _, s := range []string{strings.ToUpper(k), strings.ToUpper(k[:1]) + k[1:], k + "_", "_" + k, " " + k, k + " ", k + "s", k[1:], k[:len(k)-1]} {
			if lex.IsKey(s) != slices.Contains(all, s) {
				t.Errorf("IsKey(%q) = %v", s, lex.IsKey(s))
			}
		}
	}
	for _, s := range []string{"", "x", "_", "1", "=", "->", "clock", "current", "function", "ctor", "state", "do end", "\x00"} {
		if lex.IsKey(s) {
			t.Errorf("%q is no keyword", s)
		}
	}
}

func TestSame(t *testing.T) {
	a := lex.Token{Kind: lex.Number, Text: "1", N: 1, At: pos(3, 4)}
	rows := []struct {
		b    lex.Token
		same bool
	}{
		{a, true},
		{lex.Token{Kind: lex.Number, Text: "1", N: 1, At: pos(5, 4)}, true},
		{lex.Token{Kind: lex.Number, Text: "1", N: 1, At: pos(3, 6)}, true},
		{lex.Token{Kind: lex.Number, Text: "1", N: 1}, true},
		{lex.Token{Kind: lex.Small, Text: "1", N: 1, At: pos(3, 4)}, false},
		{lex.Token{Kind: lex.Number, Text: "01", N: 1, At: pos(3, 4)}, false},
		{lex.Token{Kind: lex.Number, Text: "1", N: 2, At: pos(3, 4)}, false},
		{lex.Token{Kind: 255, Text: "1", N: 1, At: pos(3, 4)}, false},
		{lex.Token{}, false},
	}
	for _, r := range rows {
		if lex.Same(a, r.b) != r.same || lex.Same(r.b, a) != r.same {
			t.Errorf("Same(%v, %v) = %v, and the other way %v; want %v", a, r.b, lex.Same(a, r.b), lex.Same(r.b, a), r.same)
		}
	}
}

func TestJoin(t *testing.T) {
	x, y, none, last := lex.Token{Kind: lex.Small, Text: "x"}, lex.Token{Kind: lex.Great, Text: "Y"}, lex.Token{Kind: lex.Sign}, lex.Token{Kind: lex.End}
	rows := []struct {
		l    []lex.Token
		want string
	}{
		{nil, ""}, {[]lex.Token{}, ""}, {[]lex.Token{last}, ""}, {[]lex.Token{x}, "x"}, {[]lex.Token{x, last}, "x"}, {[]lex.Token{x, y}, "x Y"}, {[]lex.Token{x, y, x, last}, "x Y x"},
		{[]lex.Token{last, x}, " x"}, {[]lex.Token{x, last, y, last, last}, "x Y"}, {[]lex.Token{none, x}, " x"}, {[]lex.Token{x, none, x}, "x  x"},
		{[]lex.Token{x, {Kind: lex.End, Text: "e"}, y}, "xe Y"}, {[]lex.Token{x, {Kind: 200, Text: "é \n"}}, "x é \n"},
	}
	for _, r := range rows {
		if got := lex.Join(r.l); got != r.want {
			t.Errorf("Join(%v) = %q, want %q", r.l, got, r.want)
		}
	}
}
