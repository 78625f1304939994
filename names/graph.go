package names

import (
	"container/heap"
	"sort"

	"metronome/api"
	"metronome/tree"
)

// graph is which nodes call which. Names are numbered: those of the nodes by their places, and behind them those that are called although no node has them. calls are, of each node, the numbers of what it calls.
type graph struct {
	names []string
	calls [][]int
}

func graphOf(p api.Program) *graph {
	g := &graph{names: make([]string, len(p.Nodes)), calls: make([][]int, len(p.Nodes))}
	numbers := map[string]int{}
	for i := range p.Nodes {
		name := p.Nodes[i].Name
		g.names[i] = name
		if _, ok := numbers[name]; !ok {
			numbers[name] = i
		}
	}
	for i := range p.Nodes {
		for _, name := range tree.Calls(p.Nodes[i].B) {
			n, ok := numbers[name]
			if !ok {
				n = len(g.names)
				numbers[name] = n
				g.names = append(g.names, name)
			}
			g.calls[i] = append(g.calls[i], n)
		}
	}
	return g
}

// isNode: is it the number of a node, not of a name that is only called?
func (g *graph) isNode(i int) bool { return i < len(g.calls) }

// named are the names that some numbers stand for.
func (g *graph) named(l []int) []string {
	names := make([]string, len(l))
	for i, n := range l {
		names[i] = g.names[n]
	}
	return names
}

// below is all that a node calls, and that this calls, breadth first.
func (g *graph) below(i int) []int {
	var found []int
	seen := make([]bool, len(g.names))
	visit := func(l []int) {
		for _, n := range l {
			if !seen[n] {
				seen[n] = true
				found = append(found, n)
			}
		}
	}
	visit(g.calls[i])
	for done := 0; done < len(found); done++ {
		if n := found[done]; g.isNode(n) {
			visit(g.calls[n])
		}
	}
	return found
}

// order is the nodes that can be put in an order, each as soon as all that it calls are ahead of it; of several that can come next the first. A name that is only called is no reason to wait.
func (g *graph) order() []int {
	waits := make([]int, len(g.calls))
	callers := make([][]int, len(g.calls))
	next := &least{}
	for i, l := range g.calls {
		for _, n := range l {
			if g.isNode(n) {
				waits[i]++
				callers[n] = append(callers[n], i)
			}
		}
		if waits[i] == 0 {
			heap.Push(next, i)
		}
	}
	var order []int
	for next.Len() > 0 {
		i := heap.Pop(next).(int)
		order = append(order, i)
		for _, caller := range callers[i] {
			waits[caller]--
			if waits[caller] == 0 {
				heap.Push(next, caller)
			}
		}
	}
	return order
}

// least is a heap of numbers, of which the least comes out.
type least struct{ sort.IntSlice }

func (l *least) Push(x any) { l.IntSlice = append(l.IntSlice, x.(int)) }

func (l *least) Pop() any {
	end := l.Len() - 1
	x := l.IntSlice[end]
	l.IntSlice = l.IntSlice[:end]
	return x
}
