package clocks_test

import (
	"math/rand"
	"reflect"
	"testing"

	"metronome/api"
	"metronome/clocks"
	"metronome/names"
	"metronome/show"
	"metronome/types"
)

// rules are those of the second reading that programs at random are to come upon.
func rules() []string {
	l := []string{
		"right", "input with a clock", "output with a clock", "sampling variable can't be read", "sampling variable on another clock",
		"defined variable can't be read", "result can't be read", "results on two clocks",
	}
	for _, where := range []string{"definition: ", "argument: ", "call: ", "reset: ", "switch: ", "unless: ", "until: "} {
		l = append(l, where+"another sampling")
		for _, what := range []string{"variable", "last value", "merge"} {
			l = append(l, where+what+" can't be read", where+what+" on another clock")
		}
	}
	return l
}

// holdRules holds the second reading to have come upon rules, and on no others.
func holdRules(t *testing.T, seen map[string]int, rules []string) {
	t.Helper()
	for _, rule := range rules {
		if seen[rule] < 3 {
			t.Errorf("%d against the rule: %s", seen[rule], rule)
		}
		delete(seen, rule)
	}
	for rule := range seen {
		t.Errorf("a rule that the test doesn't know: %s", rule)
	}
}

// checked: are the names and types of a program right? For others the chapter promises nothing.
func checked(p api.Program) bool { return names.Check(p) == nil && types.Check(p) == nil }

func holdReading(t *testing.T, p api.Program) string {
	t.Helper()
	want, rule := read(p)
	if got := clocks.Check(p); !reflect.DeepEqual(got, want) {
		t.Fatalf("%v, want %v: %s\n%s", got, want, rule, show.Program(p))
	}
	return rule
}

// P9.1 to P9.3: programs at random, and what becomes of them when a little is changed, against the second reading. Where a change makes a name or a type wrong, the chapter promises nothing but an answer.
func TestManyPrograms(t *testing.T) {
	m := &maker{Rand: rand.New(rand.NewSource(91))}
	seen := map[string]int{}
	for range 2000 {
		p := m.program()
		place(&p)
		if rule := holdReading(t, p); rule != "right" || !checked(p) {
			t.Fatalf("the test itself has gone wrong: %s, %v, %v\n%s", rule, names.Check(p), types.Check(p), show.Program(p))
		}
		for range 12 {
			q := copied(p)
			m.change(&q.Nodes[m.Intn(len(q.Nodes))])
			place(&q)
			if !checked(q) {
				clocks.Check(q)
				continue
			}
			seen[holdReading(t, q)]++
		}
	}
	holdRules(t, seen, rules())
}
