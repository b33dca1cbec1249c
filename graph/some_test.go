package graph

import (
	"math"
	"slices"
	"testing"

	"tendril/api"
	"tendril/sample"
)

const (
	least    = math.MinInt
	greatest = math.MaxInt
)

// Numbers that are nobody's in the graphs below, those included that would be somebody's if only some bits were looked at.
var nobodys = []int{0, -1, -2, -6, 11, 64, 65, 1 << 32, 1<<32 + 1, 1<<32 + 4, -1<<32 + 1, 1<<62 + 1, least, least + 1, least + 4, greatest - 1, greatest}

func mixedCfg() api.Cfg {
	return api.Cfg{Nodes: 5, Edges: 8, Props: 6, Ids: 7, EdgeIds: 12}
}

// Numbers that are gone, edges both ways, two from one node to the same other one, edges from a node to itself, and properties, of which 1 and 4 share a key.
func mixed() api.Graph {
	return api.Graph{
		Nodes:    []api.Node{sample.Node(1, -3, 5, 0, 0, 9, -1), sample.Node(2), sample.Node(4, least, greatest, 9, 7), sample.Node(6)},
		Edges:    sample.Edges(1, 1, 2, 3, 2, 1, 4, 1, 2, 5, 1, 1, 6, 4, 4, 8, 4, 1, 10, 6, 4),
		NextNode: 7,
		NextEdge: 11,
	}
}

func fullCfg() api.Cfg {
	return api.Cfg{Nodes: 64, Edges: 64, Props: 64, Ids: 64, EdgeIds: 64}
}

// As much as there may ever be, and no numbers left.
func full() api.Graph {
	g := api.Graph{NextNode: 65, NextEdge: 65}
	for i := 1; i <= 64; i++ {
		g.Nodes = append(g.Nodes, sample.Node(i, -i, i))
		g.Edges = append(g.Edges, api.Edge{Id: i, From: i, To: 65 - i})
	}
	return g
}

func with(g api.Graph, change func(g *api.Graph)) api.Graph {
	told := sample.CopiedGraph(g)
	change(&told)
	return told
}

// All numbers of a graph, with the lengths of its lists between them: two graphs that are not the same do not come to the same list.
func listed(g api.Graph) []int {
	l := []int{g.NextNode, g.NextEdge, len(g.Nodes)}
	for _, n := range g.Nodes {
		l = append(l, n.Id, len(n.Pairs))
		for _, p := range n.Pairs {
			l = append(l, p.K, p.V)
		}
	}
	for _, e := range g.Edges {
		l = append(l, e.Id, e.From, e.To)
	}
	return l
}

func wantGraph(t *testing.T, what string, got, want api.Graph) {
	t.Helper()
	if !slices.Equal(listed(got), listed(want)) {
		t.Errorf("%s is %v; want %v", what, got, want)
	}
}

func wantErrno(t *testing.T, what string, got, want api.Errno) {
	t.Helper()
	if got != want {
		t.Errorf("%s tells %d; want %d", what, got, want)
	}
}

func wantTold(t *testing.T, what string, got api.Graph, e api.Errno, want api.Graph) {
	t.Helper()
	wantErrno(t, what, e, api.OK)
	wantGraph(t, what, got, want)
}

// With an error all else is zero.
func wantError(t *testing.T, what string, got api.Graph, e, want api.Errno) {
	t.Helper()
	wantErrno(t, what, e, want)
	wantGraph(t, what, got, api.Graph{})
}

func wantNumber(t *testing.T, what string, got, want int) {
	t.Helper()
	if got != want {
		t.Errorf("%s tells the number %d; want %d", what, got, want)
	}
}
