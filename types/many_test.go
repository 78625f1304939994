package types_test

import (
	"math/rand"
	"reflect"
	"strings"
	"testing"

	"metronome/api"
	"metronome/names"
	"metronome/show"
	"metronome/types"
)

// inExpr are the rules of the second reading for expressions.
func inExpr() []string {
	return []string{
		"operands of two types", "operands of a wrong type", "condition of an if", "branches of an if", "kids of a fby or an arrow",
		"sampled by no constructor", "sampled and not stateless", "constructors of a merge", "kids of a merge",
	}
}

// overVariable: is a rule for an expression one for what is sampled or merged?
func overVariable(rule string) bool {
	return strings.Contains(rule, "sampled") || strings.Contains(rule, "merge")
}

// rules are those of the second reading that programs at random are to come upon.
func rules() []string {
	l := []string{
		"right", "first: a variable", "input or output: first value of another type", "input or output: sampled by another variable", "input or output: sampled by no constructor",
		"variable: first value of another type", "variable: sampled by no constructor", "defined by another type", "number of arguments", "number of variables",
		"argument of another type", "output of another type", "call: no bool", "reset: no bool", "switch of an int", "arm twice", "arm of another type", "too few arms",
		"unless: no bool", "unless: not stateless", "until: no bool", "until: not stateless",
	}
	for _, where := range []string{"first: ", "definition: ", "argument: ", "call: ", "reset: ", "switch: ", "unless: ", "until: "} {
		for _, what := range inExpr() {
			if where != "first: " || !overVariable(what) {
				l = append(l, where+what)
			}
		}
	}
	return l
}

// holdRules holds the second reading to have come upon rules, and on no others.
func holdRules(t *testing.T, seen map[string]int, rules []string) {
	t.Helper()
	for _, rule := range rules {
		if seen[rule] < 3 {
			t.Errorf("%d against the rule: %s", seen[rule], rule)
		}
		delete(seen, rule)
	}
	for rule := range seen {
		t.Errorf("a rule that the test doesn't know: %s", rule)
	}
}

func holdReading(t *testing.T, p api.Program) string {
	t.Helper()
	want, rule := read(p)
	if got := types.Check(p); !reflect.DeepEqual(got, want) {
		t.Fatalf("%v, want %v: %s\n%s", got, want, rule, show.Program(p))
	}
	return rule
}

// P8.2: programs at random, and what becomes of them when a little is changed, against the second reading. Where a change puts a name where it isn't there, the chapter promises nothing but an answer.
func TestManyPrograms(t *testing.T) {
	m := &maker{Rand: rand.New(rand.NewSource(81))}
	seen := map[string]int{}
	for range 1500 {
		p := m.program()
		place(&p)
		if rule := holdReading(t, p); rule != "right" || names.Check(p) != nil {
			t.Fatalf("the test itself has gone wrong: %s, %v\n%s", rule, names.Check(p), show.Program(p))
		}
		for range 12 {
			q := copied(p)
			m.change(&q)
			place(&q)
			if !wellFormed(q) || names.Check(q) != nil {
				types.Check(q)
				continue
			}
			seen[holdReading(t, q)]++
			if m.Intn(4) == 0 {
				p = q
			}
		}
	}
	holdRules(t, seen, rules())
}

// P8.1: expressions at random, and changed a little, against the second reading.
func TestManyExpressions(t *testing.T) {
	m := &maker{Rand: rand.New(rand.NewSource(82)), p: typed}
	seen := map[string]int{}
	for range 20000 {
		of := m.kind()
		e := m.expr(env, of, 5, m.Intn(4) == 0)
		place(&e)
		if got, err := types.Expr(typed, env, e); got != of || err != nil {
			t.Fatalf("%s: %v, %v, want %v", show.Expr(e), got, err, of)
		}
		m.changeExpr(&e, &e)
		place(&e)
		want, wantErr, rule := readExpr(typed, env, e)
		if got, err := types.Expr(typed, env, e); got != want || !reflect.DeepEqual(err, wantErr) {
			t.Fatalf("%s: %v, %v, want %v, %v: %s", show.Expr(e), got, err, want, wantErr, rule)
		}
		seen[rule]++
	}
	holdRules(t, seen, append(inExpr(), "right"))
}
