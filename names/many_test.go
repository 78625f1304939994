package names_test

import (
	"math/rand"
	"reflect"
	"testing"

	"metronome/api"
	"metronome/names"
	"metronome/show"
)

// rules are those of the second reading that programs at random are to come upon.
func rules() []string {
	l := []string{
		"right", "type twice", "constructor of an earlier type", "constructor of the same type", "node twice", "loop", "output not defined",
		"variable twice", "no such type", "clock of no variable", "clock of no constructor", "defined twice", "may not be defined", "variable not defined",
		"no such node", "state twice", "not defined in an arm", "unless: no such state", "until: no such state",
	}
	for _, where := range []string{"", "first: ", "argument: ", "every: ", "reset: ", "switch: ", "unless: ", "until: "} {
		for _, what := range []string{"no such variable", "no last value", "no such constructor", "sampled by no variable", "sampled by no constructor"} {
			l = append(l, where+what)
		}
	}
	return l
}

func holdReading(t *testing.T, p api.Program) string {
	t.Helper()
	want, rule := read(p)
	if got := names.Check(p); !reflect.DeepEqual(got, want) {
		t.Fatalf("%v, want %v: %s\n%s", got, want, rule, show.Program(p))
	}
	return rule
}

// P7.1: programs at random, and what becomes of them when a little is changed, against the second reading.
func TestManyPrograms(t *testing.T) {
	m := &maker{Rand: rand.New(rand.NewSource(71))}
	seen := map[string]int{}
	for range 4000 {
		p := m.program()
		place(&p)
		if rule := holdReading(t, p); rule != "right" {
			t.Fatalf("the test itself has gone wrong: %s\n%s", rule, show.Program(p))
		}
		for range 6 {
			m.change(&p)
			if !wellFormed(p) {
				break
			}
			place(&p)
			seen[holdReading(t, p)]++
		}
	}
	for _, rule := range rules() {
		if seen[rule] < 3 {
			t.Errorf("%d programs against the rule: %s", seen[rule], rule)
		}
		delete(seen, rule)
	}
	for rule := range seen {
		t.Errorf("a rule that the test doesn't know: %s", rule)
	}
}

// P7.1 and the document's terms: nil and empty lists are one.
func TestNilAndEmpty(t *testing.T) {
	m := &maker{Rand: rand.New(rand.NewSource(72))}
	for range 300 {
		p := m.program()
		m.change(&p)
		if !wellFormed(p) {
			continue
		}
		place(&p)
		want := names.Check(p)
		parts(reflect.ValueOf(&p).Elem(), func(v reflect.Value) {
			if v.Kind() == reflect.Slice && v.IsNil() {
				v.Set(reflect.MakeSlice(v.Type(), 0, 0))
			}
		})
		if got := names.Check(p); !reflect.DeepEqual(got, want) {
			t.Errorf("%v, want %v\n%s", got, want, show.Program(p))
		}
	}
}
