package nums_test

import (
	"math"
	"testing"

	"metronome/api"
	"metronome/nums"
)

// edges are the numbers at which operators may go wrong.
var edges = []int32{math.MinInt32, math.MinInt32 + 1, -65536, -8, -7, -3, -2, -1, 0, 1, 2, 3, 7, 8, 65536, math.MaxInt32 - 1, math.MaxInt32}

// binary says what each operator of two is, in numbers that can't run over.
func binary(op byte, a, b int64) (int64, bool) {
	is := map[byte]bool{
		api.And: a*a > 0 && b*b > 0, api.Or: a*a > 0 || b*b > 0, api.Xor: a-b != 0,
		api.Eq: a-b == 0, api.Ne: a-b != 0, api.Lt: a-b < 0, api.Le: a-b <= 0, api.Gt: a-b > 0, api.Ge: a-b >= 0,
	}
	if truth, ok := is[op]; ok {
		if truth {
			return 1, true
		}
		return 0, true
	}
	switch op {
	case api.Add:
		return a + b, true
	case api.Sub:
		return a - b, true
	case api.Mul:
		return a * b, true
	case api.Div, api.Mod:
		if b == 0 {
			return 0, true
		}
		quotient := abs(a) / abs(b)
		if (a < 0) != (b < 0) {
			quotient = -quotient
		}
		if op == api.Div {
			return quotient, true
		}
		return a - quotient*b, true
	}
	return 0, false
}

func abs(n int64) int64 {
	if n < 0 {
		return -n
	}
	return n
}

// wrapped is the number of 32 bits that is n modulo 2^32.
func wrapped(n int64) int32 {
	const all = 1 << 32
	n = (n%all + all) % all
	if n >= all/2 {
		n -= all
	}
	return int32(n)
}

// P2.1

func TestUn(t *testing.T) {
	for op := range 256 {
		for _, a := range edges {
			want := int32(0)
			if op == int(api.Not) && a == 0 {
				want = 1
			}
			if op == int(api.Neg) {
				want = wrapped(-int64(a))
			}
			if got := nums.Un(byte(op), a); got != want {
				t.Errorf("Un(%d, %d) = %d, want %d", op, a, got, want)
			}
		}
	}
}

func TestBin(t *testing.T) {
	for op := range 256 {
		for _, a := range edges {
			for _, b := range edges {
				n, _ := binary(byte(op), int64(a), int64(b))
				if got := nums.Bin(byte(op), a, b); got != wrapped(n) {
					t.Errorf("Bin(%d, %d, %d) = %d, want %d", op, a, b, got, wrapped(n))
				}
			}
		}
	}
}

func TestBinWhereTheDocumentNamesIt(t *testing.T) {
	const least, most = math.MinInt32, math.MaxInt32
	rows := []struct {
		op      byte
		a, b, n int32
	}{
		{api.Add, most, 1, least}, {api.Sub, least, 1, most}, {api.Mul, least, -1, least}, {api.Mul, 65536, 65536, 0},
		{api.Div, 7, 0, 0}, {api.Mod, 7, 0, 0}, {api.Div, least, 0, 0}, {api.Mod, least, 0, 0},
		{api.Div, least, -1, least}, {api.Mod, least, -1, 0},
		{api.Div, 7, 2, 3}, {api.Div, -7, 2, -3}, {api.Div, 7, -2, -3}, {api.Div, -7, -2, 3},
		{api.Mod, 7, 3, 1}, {api.Mod, -7, 3, -1}, {api.Mod, 7, -3, 1}, {api.Mod, -7, -3, -1},
		{api.And, 2, 4, 1}, {api.And, 2, 0, 0}, {api.Or, 0, -2, 1}, {api.Or, 0, 0, 0},
		{api.Xor, 1, 2, 1}, {api.Xor, 2, 2, 0}, {api.Ne, 1, 2, 1}, {api.Eq, 2, 2, 1},
		{api.Lt, least, most, 1}, {api.Lt, 3, 3, 0}, {api.Le, 3, 3, 1}, {api.Le, 4, 3, 0},
		{api.Gt, most, least, 1}, {api.Gt, 3, 3, 0}, {api.Ge, 3, 3, 1}, {api.Ge, 3, 4, 0},
		{api.Not, 1, 1, 0}, {api.Neg, 1, 1, 0}, {0, 1, 1, 0}, {api.Ge + 1, 1, 1, 0}, {255, 1, 1, 0},
	}
	for _, r := range rows {
		if got := nums.Bin(r.op, r.a, r.b); got != r.n {
			t.Errorf("Bin(%d, %d, %d) = %d, want %d", r.op, r.a, r.b, got, r.n)
		}
	}
}

// P2.2

func TestOperators(t *testing.T) {
	type row struct {
		word     string
		strength int
		of, to   byte
	}
	rows := map[int]row{
		int(api.Not): {"not", 0, api.TBool, api.TBool},
		int(api.Neg): {"-", 0, api.TInt, api.TInt},
		int(api.Add): {"+", 4, api.TInt, api.TInt},
		int(api.Sub): {"-", 4, api.TInt, api.TInt},
		int(api.Mul): {"*", 5, api.TInt, api.TInt},
		int(api.Div): {"/", 5, api.TInt, api.TInt},
		int(api.Mod): {"mod", 5, api.TInt, api.TInt},
		int(api.And): {"and", 2, api.TBool, api.TBool},
		int(api.Or):  {"or", 1, api.TBool, api.TBool},
		int(api.Xor): {"xor", 1, api.TBool, api.TBool},
		int(api.Eq):  {"=", 3, 0, api.TBool},
		int(api.Ne):  {"<>", 3, 0, api.TBool},
		int(api.Lt):  {"<", 3, api.TInt, api.TBool},
		int(api.Le):  {"<=", 3, api.TInt, api.TBool},
		int(api.Gt):  {">", 3, api.TInt, api.TBool},
		int(api.Ge):  {">=", 3, api.TInt, api.TBool},
	}
	for op := range 256 {
		of, to := nums.Types(byte(op))
		got := row{nums.Word(byte(op)), nums.Strength(byte(op)), of, to}
		if got != rows[op] {
			t.Errorf("operator %d is %v, want %v", op, got, rows[op])
		}
	}
}

// P2.3

func TestIndex(t *testing.T) {
	rows := []struct {
		ctors []string
		c     string
		want  int32
	}{
		{nil, "A", -1},
		{nil, "", -1},
		{[]string{}, "A", -1},
		{[]string{"A", "B", "C"}, "A", 0},
		{[]string{"A", "B", "C"}, "C", 2},
		{[]string{"A", "B", "C"}, "D", -1},
		{[]string{"A", "B", "C"}, "a", -1},
		{[]string{"AB", "A"}, "A", 1},
		{[]string{"A", "B", "A", "B"}, "B", 1},
		{[]string{"A", ""}, "", 1},
	}
	for _, r := range rows {
		if got := nums.Index(r.ctors, r.c); got != r.want {
			t.Errorf("Index(%q, %q) = %d, want %d", r.ctors, r.c, got, r.want)
		}
	}
}

func TestFits(t *testing.T) {
	rows := []struct {
		kind  byte
		ctors int
		n     int32
		want  bool
	}{
		{api.TInt, 0, 0, true}, {api.TInt, 0, math.MinInt32, true}, {api.TInt, -1, math.MaxInt32, true},
		{api.TBool, 0, 0, true}, {api.TBool, 0, 1, true}, {api.TBool, 9, 2, false}, {api.TBool, 2, -1, false},
		{api.TEnum, 3, 0, true}, {api.TEnum, 3, 2, true}, {api.TEnum, 3, 3, false}, {api.TEnum, 3, -1, false},
		{api.TEnum, 0, 0, false}, {api.TEnum, -1, 0, false}, {api.TEnum, -1, -2, false}, {api.TEnum, 1 << 40, math.MaxInt32, true},
		{0, 3, 0, false}, {api.TEnum + 1, 3, 0, false}, {255, 3, 0, false},
	}
	for _, r := range rows {
		for _, name := range []string{"", "color"} {
			if got := nums.Fits(api.Type{Kind: r.kind, Name: name}, r.ctors, r.n); got != r.want {
				t.Errorf("Fits(%d %q, %d, %d) = %v", r.kind, name, r.ctors, r.n, got)
			}
		}
	}
}

// P2: an answer hangs on the arguments alone, and these stay as they are.
func TestAskedAgain(t *testing.T) {
	ctors := []string{"A", "B"}
	for range 3 {
		if nums.Index(ctors, "B") != 1 || ctors[0] != "A" || ctors[1] != "B" || nums.Word(api.Mod) != "mod" || nums.Bin(api.Mod, -7, 3) != -1 {
			t.Fatal("asked again, another answer")
		}
	}
}
