package lin

import (
	"testing"

	"tendril/api"
	"tendril/sample"
)

// Graphs that differ in one number, or in which the same numbers stand elsewhere.
func graphsThatDiffer() []api.Graph {
	some := graphOf([]api.Node{sample.Node(1, 2, 3), sample.Node(4, 5, 6, 7, 8)}, sample.Edges(1, 2, 3, 4, 5, 6), 7, 8)
	told := []api.Graph{
		{}, {NextNode: 1, NextEdge: 11}, {NextNode: 11, NextEdge: 1}, {NextNode: 1, NextEdge: 1}, {NextNode: 111}, {NextEdge: 111}, some,
		{Nodes: []api.Node{sample.Node(1)}}, {Nodes: []api.Node{sample.Node(1), sample.Node(0)}}, {Nodes: []api.Node{sample.Node(1, 0, 0)}}, {Nodes: []api.Node{sample.Node(1), sample.Node(0, 0, 0)}},
		{Nodes: []api.Node{sample.Node(1, 2, 3), sample.Node(4)}}, {Nodes: []api.Node{sample.Node(1), sample.Node(2, 3, 4)}},
		{Nodes: []api.Node{sample.Node(1, 1, 0), sample.Node(0)}}, {Nodes: []api.Node{sample.Node(1, 0, 0, 0, 0)}}, {Nodes: []api.Node{sample.Node(1, 0, 0)}, Edges: sample.Edges(0, 0, 0)}, {Edges: sample.Edges(1, 0, 0)}, {Edges: sample.Edges(1, 0, 0, 0, 0, 0)},
		{Nodes: []api.Node{sample.Node(1)}, Edges: sample.Edges(2, 2, 2)}, {Nodes: []api.Node{sample.Node(1), sample.Node(2)}}, {Nodes: []api.Node{sample.Node(1), sample.Node(2)}, Edges: sample.Edges(0, 0, 0)},
	}
	for i := range numbersOf(&some) {
		for _, n := range []int{-1, 1, 10, 1 << 32, least} {
			g := sample.CopiedGraph(some)
			*numbersOf(&g)[i] += n
			told = append(told, g)
		}
	}
	return told
}

// The places of all numbers of a graph.
func numbersOf(g *api.Graph) []*int {
	l := []*int{&g.NextNode, &g.NextEdge}
	for i := range g.Nodes {
		l = append(l, &g.Nodes[i].Id)
		for k := range g.Nodes[i].Pairs {
			l = append(l, &g.Nodes[i].Pairs[k].K, &g.Nodes[i].Pairs[k].V)
		}
	}
	for i := range g.Edges {
		l = append(l, &g.Edges[i].Id, &g.Edges[i].From, &g.Edges[i].To)
	}
	return l
}

// P13.2: no two ways that may go on in other ways are held for the same, or an order could be missed.
func TestStates(t *testing.T) {
	seen := map[state]api.Graph{}
	for _, g := range graphsThatDiffer() {
		w := way{graph: g}
		if other, ok := seen[w.state()]; ok {
			t.Errorf("%v and %v are the same state", g, other)
		}
		seen[w.state()] = g
		if w.state() != (way{graph: sample.CopiedGraph(g), order: []int{1, 2}}).state() {
			t.Errorf("%v and a copy are not the same state", g)
		}
		w.done[9] = true
		if _, ok := seen[w.state()]; ok {
			t.Errorf("%v is the same state with another call done", g)
		}
	}
}
