package parse_test

import (
	"math/rand"
	"slices"
	"strconv"
	"strings"
	"testing"

	"metronome/api"
	"metronome/faults"
	"metronome/lex"
	"metronome/parse"
)

// grammar is that of the chapter once more, without last variables (whose errors stand elsewhere). What the chapter says beside it is written out: f is a Small name with a ( behind it; comparisons do not follow one another; a fby has a constant on its left, and a definition one name.
const grammar = `
program = { type | node }
type = "type" x "=" C { "|" C } ";"
node = "node" x "(" [ params ] ")" "returns" "(" [ params ] ")" locals "let" eqs "tel"
params = var { ";" var }
locals = [ "var" var ";" { var ";" } ]
var = x ":" ( "bool" | "int" | x ) { "when" on }
on = ctor "(" x ")"
ctor = C | "true" | "false"
eqs = { eq ";" }
eq = ( x | "(" x ")" ) "=" expr | lhs "=" f "(" [ expr { "," expr } ] ")" [ "every" expr ] | "switch" expr arms | "automaton" states | "reset" block "every" expr
lhs = x | "(" [ x { "," x } ] ")"
arms = arm { arm } "end"
arm = "|" ctor block
states = state { state } "end"
state = "|" C block { "unless" way } { "until" way }
way = expr ( "then" | "continue" ) C
block = locals "do" eqs
expr = "if" expr "then" expr "else" expr | binary [ "->" expr ] | const "fby" expr
binary = and { ( "or" | "xor" ) and }
and = comparison { "and" comparison }
comparison = sum [ ( "=" | "<>" | "<" | "<=" | ">" | ">=" ) sum ]
sum = product { ( "+" | "-" ) product }
product = unary { ( "*" | "/" | "mod" ) unary }
unary = ( "not" | "-" | "pre" ) unary | "-" N { "when" on } | atom { "when" on }
atom = N | C | x | "true" | "false" | "last" x | "(" expr ")" | "merge" x "(" ctor "->" expr ")" { "(" ctor "->" expr ")" }
const = N | "-" N | C | "true" | "false" | "(" const ")"
`

// rule is one of the ways to write something: terminals are in quotes or one letter.
type rule struct {
	name string
	body []string
}

// rules are a grammar without brackets.
type rules struct {
	list     []rule
	byName   map[string][]int
	nullable map[string]bool
}

func newRules(text string) *rules {
	g := &rules{byName: map[string][]int{}, nullable: map[string]bool{}}
	for _, line := range strings.Split(strings.TrimSpace(text), "\n") {
		name, body, _ := strings.Cut(line, " = ")
		g.either(name, strings.Fields(body))
	}
	for more := true; more; {
		more = false
		for _, r := range g.list {
			null := !slices.ContainsFunc(r.body, func(s string) bool { return !g.nullable[s] })
			more = more || null && !g.nullable[r.name]
			g.nullable[r.name] = g.nullable[r.name] || null
		}
	}
	return g
}

// either adds the rules of a name, which are separated by |, up to the bracket that closes them; it gives back what stands behind that.
func (g *rules) either(name string, words []string) []string {
	body := []string{}
	for len(words) > 0 {
		word := words[0]
		words = words[1:]
		switch word {
		case "(", "[", "{":
			inner := "inner" + strconv.Itoa(len(g.list)) + "." + strconv.Itoa(len(words))
			words = g.either(inner, words)
			if word != "(" {
				g.add(inner, nil)
			}
			if word == "{" { // any number of inner
				g.add(inner+"s", nil)
				g.add(inner+"s", []string{inner, inner + "s"})
				inner += "s"
			}
			body = append(body, inner)
		case ")", "]", "}":
			g.add(name, body)
			return words
		case "|":
			g.add(name, body)
			body = []string{}
		default:
			body = append(body, word)
		}
	}
	g.add(name, body)
	return nil
}

func (g *rules) add(name string, body []string) {
	g.byName[name] = append(g.byName[name], len(g.list))
	g.list = append(g.list, rule{name, body})
}

// item is a rule that has been read up to a dot, from a token on.
type item struct{ rule, dot, from int }

// chart are the items before each token.
type chart struct {
	*rules
	sets [][]item
	met  []map[item]struct{}
}

func (c *chart) put(at int, i item) {
	for at >= len(c.sets) {
		c.sets, c.met = append(c.sets, nil), append(c.met, map[item]struct{}{})
	}
	if _, ok := c.met[at][i]; !ok {
		c.met[at][i] = struct{}{}
		c.sets[at] = append(c.sets[at], i)
	}
}

// next is what an item wants next, or "".
func (c *chart) next(i item) string {
	if body := c.list[i.rule].body; i.dot < len(body) {
		return body[i.dot]
	}
	return ""
}

// close adds to the items before a token all that follow from them.
func (c *chart) close(at int) {
	for k := 0; k < len(c.sets[at]); k++ {
		i := c.sets[at][k]
		next := c.next(i)
		for _, r := range c.byName[next] {
			c.put(at, item{r, 0, at})
		}
		if c.nullable[next] {
			c.put(at, item{i.rule, i.dot + 1, i.from})
		}
		if next != "" {
			continue
		}
		for _, j := range c.sets[i.from] {
			if c.next(j) == c.list[i.rule].name {
				c.put(at, item{j.rule, j.dot + 1, j.from})
			}
		}
	}
}

// firstWrong is the place in l (which has an End) of the first token that can't stand there, or -1.
func (g *rules) firstWrong(start string, l []lex.Token) int {
	c := &chart{rules: g}
	for _, r := range g.byName[start] {
		c.put(0, item{r, 0, 0})
	}
	for at := range l {
		c.close(at)
		if l[at].Kind == lex.End {
			for _, i := range c.sets[at] {
				if i.from == 0 && c.next(i) == "" && g.list[i.rule].name == start {
					return -1
				}
			}
			return at
		}
		for _, i := range c.sets[at] {
			if next := c.next(i); next != "" && fits(next, l[at:]) {
				c.put(at+1, item{i.rule, i.dot + 1, i.from})
			}
		}
		if len(c.sets) == at+1 {
			return at
		}
	}
	return -1
}

// fits: is the first of some tokens the terminal?
func fits(terminal string, l []lex.Token) bool {
	switch terminal {
	case "x":
		return l[0].Kind == lex.Small
	case "f":
		return l[0].Kind == lex.Small && l[1].Text == "("
	case "C":
		return l[0].Kind == lex.Great
	case "N":
		return l[0].Kind == lex.Number
	}
	return terminal == `"`+l[0].Text+`"`
}

// holdGrammar holds what the parser says of a text against what the grammar says.
func holdGrammar[T any](t *testing.T, g *rules, start string, parse func(string) (T, error), text string) bool {
	t.Helper()
	l, err := lex.Words(text)
	if err != nil {
		t.Fatalf("%q: %v", text, err)
	}
	_, err = parse(text)
	kind, at := faults.Tell(err)
	wantKind, want := api.OK, api.Pos{}
	if i := g.firstWrong(start, l); i >= 0 {
		wantKind, want = api.Syntax, l[i].At
	}
	if kind != wantKind || at != want {
		t.Errorf("%q: %v, want %v at %v", text, err, wantKind, want)
	}
	return err == nil
}

// samples are programs with something of each kind (but last variables), that are changed at random.
var samples = []string{
	"type t = A | B ; node f ( a : int ; b : bool when true ( c ) ) returns ( x : t ) var y : int ; z : t when A ( x ) when B ( w ) ; let x = if a = b then A else B ; tel",
	"node f ( ) returns ( ) let x = f ( a , - 1 , b ) every r ; ( ) = g ( ) ; ( x , y ) = h ( a ) ; ( x ) = ( y ) ; x = f ; tel node g ( ) returns ( ) let tel",
	"node f ( ) returns ( ) let switch a < b | true var y : bool ; do x = 1 ; | false do end ; automaton | S do x = 1 ; unless a then T until b continue S | T do end ; tel",
	"node f ( ) returns ( ) let reset var y : int ; do x = merge a ( A -> b when A ( a ) ) ( B -> 1 fby c ) ; every not r ; reset do every x ; tel",
	"node f ( ) returns ( ) let x = - 1 fby - x ; y = a -> pre b * c ; z = a and b = c + d or e > ( 2 ) mod g ; tel type t = A ;",
}

var sampleExprs = []string{
	"if a = b and not c then 1 + 2 * x else - 1 fby y", "merge v ( A -> a + b ) ( true -> 0 fby ( x -> y ) ) when C ( v )", "( 1 ) fby ( - 2 ) fby x - - 3 <> y", "a or b xor c = d mod e / g -> last x >= pre y",
}

// pool are the tokens that are put in: all keywords and signs (but last, which would make a last variable of a variable), names and numbers.
var pool = strings.Fields("and automaton bool continue do else end every false fby if int let merge mod node not or pre reset returns switch tel then true type unless until var when xor <> <= >= -> ( ) = + - * / < > ; : , | a b x f A S 0 1 ( ) ; a 1")

// changed is a text with a few tokens left out, doubled, swapped or put in.
func changed(r *rand.Rand, text string) string {
	l := strings.Fields(text)
	for range 1 + r.Intn(3) {
		i := r.Intn(len(l))
		switch r.Intn(5) {
		case 0:
			l = append(l[:i], l[i+1:]...)
		case 1:
			l[i] = pool[r.Intn(len(pool))]
		case 2:
			j := r.Intn(len(l))
			l[i], l[j] = l[j], l[i]
		case 3:
			l = append(l[:i], append([]string{l[r.Intn(len(l))]}, l[i:]...)...)
		default:
			l = append(l[:i], append([]string{pool[r.Intn(len(pool))]}, l[i:]...)...)
		}
		if len(l) == 0 {
			break
		}
	}
	return strings.Join(l, " ")
}

// P6.1, P6.2, P4: the parser accepts what the grammar has, and of other texts finds the first token that can't stand there.
func TestAsTheGrammarHasIt(t *testing.T) {
	g := newRules(grammar)
	r := rand.New(rand.NewSource(6))
	accepted := 0
	hold := func(ok bool) {
		if ok {
			accepted++
		}
	}
	for range 6000 {
		hold(holdGrammar(t, g, "program", parse.Program, changed(r, samples[r.Intn(len(samples))])))
		hold(holdGrammar(t, g, "expr", parse.Expr, changed(r, sampleExprs[r.Intn(len(sampleExprs))])))
	}
	for _, s := range samples {
		if !holdGrammar(t, g, "program", parse.Program, s) {
			t.Errorf("%q is no program", s)
		}
	}
	if accepted < 100 {
		t.Errorf("but %d texts were accepted", accepted)
	}
}

// P6.1, P6.2: all expressions of up to four tokens.
func TestShortExpressionsAsTheGrammarHasThem(t *testing.T) {
	g := newRules(grammar)
	short := strings.Fields("a A 1 true ( ) - not fby -> = + when last")
	var all func(text string, n int)
	all = func(text string, n int) {
		holdGrammar(t, g, "expr", parse.Expr, text)
		if n == 0 {
			return
		}
		for _, word := range short {
			all(text+" "+word, n-1)
		}
	}
	all("", 4)
}
