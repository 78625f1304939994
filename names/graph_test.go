package names_test

import (
	"math/rand"
	"reflect"
	"slices"
	"strconv"
	"strings"
	"testing"

	"metronome/api"
	"metronome/names"
	"metronome/tree"
)

// calling is a program of nodes, each told by its name and those that it calls: "f: g h; g: h".
func calling(s string) api.Program {
	var p api.Program
	for _, part := range strings.Split(s, ";") {
		name, calls, _ := strings.Cut(part, ":")
		p.Nodes = append(p.Nodes, node(strings.TrimSpace(name), strings.Fields(calls)...))
	}
	return p
}

func node(name string, calls ...string) api.Node {
	n := api.Node{Name: name}
	for _, s := range calls {
		n.B.Eqs = append(n.B.Eqs, api.Equation{Kind: api.QCall, Name: s})
	}
	return n
}

// told is a list as a text.
func told(l []string) string { return strings.Join(l, " ") }

// P7.2: what a node needs, the nearest first.
func TestNeeds(t *testing.T) {
	for _, x := range [][3]string{
		{"f:", "f", ""},
		{"f:", "g", ""},
		{"f: g", "g", ""},
		{"f: g; g: h; h:", "f", "g h"},
		{"h:; g: h; f: g", "f", "g h"},
		{"f: a b; a: c d; b: e c; c:; d: x; e:; x:", "f", "a b c d e x"},
		{"f: b a; a: c d; b: e c; c:; d: x; e:; x:", "f", "b a e c d x"},
		{"f: a b; a: b; b:", "f", "a b"},
		{"f: f; g:", "f", "f"},
		{"f: g; g: f h; h: g", "f", "g f h"},
		{"f: g; g: f h; h: g", "h", "g f h"},
		{"f: g; g: g", "f", "g"},
		{"f: nothing g; g: none nothing", "f", "nothing g none"},
	} {
		if got := told(names.Needs(calling(x[0]), x[1])); got != x[2] {
			t.Errorf("%s: %s needs %s, want %s", x[0], x[1], got, x[2])
		}
	}
	if got := names.Needs(api.Program{}, ""); len(got) != 0 {
		t.Errorf("no nodes: %v", got)
	}
}

// P7.2: calls in arms count, each where its equation stands.
func TestNeedsOfArms(t *testing.T) {
	p := program(t, `
node a(c: bool) returns () let tel node b(c: bool) returns () let tel node d(c: bool) returns () let tel
node f(c: bool) returns () let
  switch c | true do () = d(c); reset do () = b(c); every c; | false do automaton | S do () = g(c); end; end;
  () = a(c); () = d(c);
tel
node g(c: bool) returns () let () = h(c); tel node h(c: bool) returns () let tel`)
	if got := told(names.Needs(p, "f")); got != "d b g a h" {
		t.Errorf("f needs %s", got)
	}
	if got := told(names.Order(p)); got != "a b d h g f" {
		t.Errorf("order: %s", got)
	}
}

// P7.2: each node behind those that it calls; of several that can come next the first.
func TestOrder(t *testing.T) {
	for _, x := range [][2]string{
		{"f:", "f"},
		{"f:; g:; h:", "f g h"},
		{"f: g; g: h; h:", "h g f"},
		{"f: g h; g:; h:", "g h f"},
		{"a: d; b:; c: b; d:; e:", "b c d a e"},
		{"a: c; b: d; c: e; d:; e:", "d b e c a"},
		{"a: z; b: y; c:; y: c; z: y", "c y b z a"},
		{"a: b b; b:", "b a"},
		{"a: nothing; b: none a", "a b"},
		{"a: b nothing; b: none", "b a"},
		{"f: f", ""},
		{"a:; f: f", ""},
		{"f: g; g: f", ""},
		{"a:; b: a; f: g; g: h; h: f b", ""},
	} {
		if got := told(names.Order(calling(x[0]))); got != x[1] {
			t.Errorf("%s: order %s, want %s", x[0], got, x[1])
		}
	}
	if got := names.Order(api.Program{}); len(got) != 0 {
		t.Errorf("no nodes: %v", got)
	}
}

// nearest finds what a node needs as the chapter says it: what it calls, then what these call, and so on.
func nearest(p api.Program, name string) []string {
	var found []string
	next := []string{name}
	for len(next) > 0 {
		var calls []string
		for _, s := range next {
			for _, n := range p.Nodes {
				if n.Name != s {
					continue
				}
				for _, called := range tree.Calls(n.B) {
					if !slices.Contains(found, called) {
						found = append(found, called)
						calls = append(calls, called)
					}
				}
			}
		}
		next = calls
	}
	return found
}

// firstThatCan puts the nodes in order as the chapter says it: each time the first that can come next.
func firstThatCan(p api.Program) []string {
	var order []string
	can := func(n api.Node) bool {
		return !slices.Contains(order, n.Name) && !slices.ContainsFunc(tree.Calls(n.B), func(s string) bool {
			return tree.FindNode(p, s) >= 0 && !slices.Contains(order, s)
		})
	}
	for range p.Nodes {
		i := slices.IndexFunc(p.Nodes, can)
		if i < 0 {
			return nil
		}
		order = append(order, p.Nodes[i].Name)
	}
	return order
}

// P7.2, and P7.1, 4: many programs, against the chapter taken word by word.
func TestManyGraphs(t *testing.T) {
	r := rand.New(rand.NewSource(7))
	loops, orders := 0, 0
	for range 20000 {
		var p api.Program
		most := 1 + r.Intn(7)
		for i := range most {
			p.Nodes = append(p.Nodes, node(string(rune('a'+i))))
			p.Nodes[i].At.Line = i + 1
		}
		r.Shuffle(most, func(i, j int) { p.Nodes[i].Name, p.Nodes[j].Name = p.Nodes[j].Name, p.Nodes[i].Name })
		for range r.Intn(2 * most) {
			q := api.Equation{Kind: api.QCall, Name: string(rune('a' + r.Intn(most)))}
			i := r.Intn(most)
			p.Nodes[i].B.Eqs = append(p.Nodes[i].B.Eqs, q)
		}
		want := api.Pos{}
		for _, n := range slices.Backward(p.Nodes) {
			if slices.Contains(nearest(p, n.Name), n.Name) {
				want = n.At
			}
		}
		if want != (api.Pos{}) {
			loops++
			holdError(t, "a loop", p, api.Loop, want)
		} else {
			orders++
			holdError(t, "no loop", p, api.OK, want)
		}
		holdGraph(t, p)
		p.Nodes = slices.Delete(p.Nodes, 0, 1)
		holdGraph(t, p)
	}
	if loops < 1000 || orders < 1000 {
		t.Errorf("%d loops, %d orders", loops, orders)
	}
}

func holdGraph(t *testing.T, p api.Program) {
	t.Helper()
	if got, want := names.Order(p), firstThatCan(p); told(got) != told(want) {
		t.Errorf("%v: order %s, want %s", p, got, want)
	}
	for _, n := range append(p.Nodes, api.Node{Name: "nothing"}) {
		if got, want := names.Needs(p, n.Name), nearest(p, n.Name); told(got) != told(want) {
			t.Errorf("%v: %s needs %s, want %s", p, n.Name, got, want)
		}
	}
}

// P1, P7.2: many nodes, each of which calls the next one, and with a loop at their end.
func TestManyNodes(t *testing.T) {
	const most = 3000
	var p api.Program
	var want []string
	for i := range most {
		p.Nodes = append(p.Nodes, node("n"+strconv.Itoa(i), "n"+strconv.Itoa(i+1)))
		want = append(want, "n"+strconv.Itoa(most-1-i))
	}
	if got := names.Order(p); !reflect.DeepEqual(got, want) {
		t.Error("another order")
	}
	if got := names.Needs(p, "n0"); len(got) != most || got[most-1] != "n"+strconv.Itoa(most) {
		t.Errorf("n0 needs %d nodes", len(got))
	}
	end := &p.Nodes[most-1]
	end.At, end.B.Eqs[0].Name = api.Pos{Line: 3, Col: 4}, end.Name
	holdError(t, "a loop at the end", p, api.Loop, end.At)
	if got := names.Order(p); len(got) != 0 {
		t.Errorf("an order of %d nodes", len(got))
	}
}

// P1: P7.2 promises nothing where nodes have one name, but an answer there is.
func TestNodesOfOneName(t *testing.T) {
	for _, s := range []string{"f:; f:", "f: f; f:", "f:; f: f", "f: g; f: h; g: f; h: f", ":; :"} {
		p := calling(s)
		for _, name := range []string{"f", "g", ""} {
			names.Needs(p, name)
		}
		names.Order(p)
		if err := names.Check(p); err == nil {
			t.Errorf("%s: no error", s)
		}
	}
}
