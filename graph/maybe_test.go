package graph

import (
	"fmt"
	"slices"
	"testing"

	"tendril/api"
	"tendril/sample"
)

type changed struct {
	what string
	g    api.Graph
}

// A graph whose node 3 has no edges, so that it can be changed by itself.
func loose() api.Graph {
	return api.Graph{
		Nodes:    []api.Node{sample.Node(1, 2, 2), sample.Node(3, 1, 1, 4, 4), sample.Node(5)},
		Edges:    sample.Edges(2, 1, 5, 4, 5, 1, 7, 1, 1),
		NextNode: 6,
		NextEdge: 8,
	}
}

func looseCfg() api.Cfg {
	return api.Cfg{Nodes: 4, Edges: 4, Props: 4, Ids: 8, EdgeIds: 9}
}

func wantMayBe(t *testing.T, what string, c api.Cfg, g api.Graph, may bool) {
	t.Helper()
	want := api.OK
	if !may {
		want = api.ErrArg
	}
	wantErrno(t, fmt.Sprint("Check of ", what, ", ", c, " ", g), Check(c, g), want)
}

// P10.1
func TestGraphsThatMayBe(t *testing.T) {
	wantMayBe(t, "a mixed graph", mixedCfg(), mixed(), true)
	wantMayBe(t, "a full graph", fullCfg(), full(), true)
	wantMayBe(t, "a loose graph", looseCfg(), loose(), true)
	wantMayBe(t, "a graph that uses up its records", api.Cfg{Nodes: 3, Edges: 3, Props: 3, Ids: 5, EdgeIds: 7}, loose(), true)
	wantMayBe(t, "a graph in which all is gone", looseCfg(), api.Graph{NextNode: 9, NextEdge: 10}, true)
	wantMayBe(t, "keys at both ends", looseCfg(), api.Graph{Nodes: []api.Node{sample.Node(8, least, 0, least+1, 0, greatest-1, 0, greatest, 0)}, NextNode: 9, NextEdge: 1}, true)
	wantMayBe(t, "all properties at the last node", looseCfg(), api.Graph{Nodes: []api.Node{sample.Node(1), sample.Node(2, 1, 1, 2, 1, 3, 1, 4, 1)}, NextNode: 3, NextEdge: 1}, true)
	wantMayBe(t, "the same keys at two nodes", looseCfg(), api.Graph{Nodes: []api.Node{sample.Node(1, 1, 1, 2, 2), sample.Node(2, 1, 1, 2, 2)}, NextNode: 3, NextEdge: 1}, true)
	wantMayBe(t, "lists without elements", looseCfg(), api.Graph{Nodes: []api.Node{}, Edges: []api.Edge{}, NextNode: 1, NextEdge: 1}, true)
}

// P10.1: of next numbers those that were given are below, and there is one more than numbers.
func TestNextNumbers(t *testing.T) {
	for _, n := range append([]int{1, 2, 3, 4, 5, 6, 7, 8, 9, 10, 66}, nobodys...) {
		wantMayBe(t, "a loose graph", looseCfg(), with(loose(), func(g *api.Graph) { g.NextNode = n }), n >= 6 && n <= 9)
		wantMayBe(t, "a loose graph", looseCfg(), with(loose(), func(g *api.Graph) { g.NextEdge = n }), n >= 8 && n <= 10)
		wantMayBe(t, "no nodes", looseCfg(), api.Graph{NextNode: n, NextEdge: 1}, n >= 1 && n <= 9)
		wantMayBe(t, "no edges", looseCfg(), api.Graph{NextNode: 1, NextEdge: n}, n >= 1 && n <= 10)
		wantMayBe(t, "a full graph", fullCfg(), with(full(), func(g *api.Graph) { g.NextNode = n }), n == 65)
		wantMayBe(t, "a full graph", fullCfg(), with(full(), func(g *api.Graph) { g.NextEdge = n }), n == 65)
		wantMayBe(t, "no nodes, and all numbers", fullCfg(), api.Graph{NextNode: n, NextEdge: 1}, n >= 1 && n <= 65)
	}
	wantMayBe(t, "nothing at all", looseCfg(), api.Graph{}, false)
}

// P10.1: each number at each place among the nodes, of which the others may be by themselves.
func TestNumbersOfNodes(t *testing.T) {
	for _, n := range append([]int{1, 2, 3, 4, 5, 6, 7, 8, 9, 10}, nobodys...) {
		wantMayBe(t, "the first node", looseCfg(), api.Graph{Nodes: []api.Node{sample.Node(n), sample.Node(3), sample.Node(5)}, NextNode: 6, NextEdge: 1}, n == 1 || n == 2)
		wantMayBe(t, "the middle node", looseCfg(), with(loose(), func(g *api.Graph) { g.Nodes[1].Id = n }), n >= 2 && n <= 4)
		wantMayBe(t, "the last node", looseCfg(), api.Graph{Nodes: []api.Node{sample.Node(1), sample.Node(3), sample.Node(n)}, NextNode: 6, NextEdge: 1}, n == 4 || n == 5)
		wantMayBe(t, "the only node", looseCfg(), api.Graph{Nodes: []api.Node{sample.Node(n)}, NextNode: 6, NextEdge: 1}, n >= 1 && n <= 5)
	}
}

// P10.1
func TestNumbersOfEdges(t *testing.T) {
	for _, n := range append([]int{1, 2, 3, 4, 5, 6, 7, 8, 9, 10}, nobodys...) {
		wantMayBe(t, "the first edge", looseCfg(), with(loose(), func(g *api.Graph) { g.Edges[0].Id = n }), n >= 1 && n <= 3)
		wantMayBe(t, "the middle edge", looseCfg(), with(loose(), func(g *api.Graph) { g.Edges[1].Id = n }), n >= 3 && n <= 6)
		wantMayBe(t, "the last edge", looseCfg(), with(loose(), func(g *api.Graph) { g.Edges[2].Id = n }), n >= 5 && n <= 7)
		wantMayBe(t, "the only edge", looseCfg(), with(loose(), func(g *api.Graph) { g.Edges = sample.Edges(n, 1, 5) }), n >= 1 && n <= 7)
	}
}

// P10.1: each edge, at both its ends.
func TestEndsOfEdges(t *testing.T) {
	for i := range loose().Edges {
		for _, n := range append([]int{1, 2, 3, 4, 5, 6, 7, 8, 9, 10}, nobodys...) {
			may := n == 1 || n == 3 || n == 5
			wantMayBe(t, "where an edge comes from", looseCfg(), with(loose(), func(g *api.Graph) { g.Edges[i].From = n }), may)
			wantMayBe(t, "where an edge goes to", looseCfg(), with(loose(), func(g *api.Graph) { g.Edges[i].To = n }), may)
		}
	}
	wantMayBe(t, "an edge without nodes", looseCfg(), api.Graph{Edges: sample.Edges(1, 1, 1), NextNode: 2, NextEdge: 2}, false)
	wantMayBe(t, "an edge at 0 without nodes", looseCfg(), api.Graph{Edges: sample.Edges(1, 0, 0), NextNode: 2, NextEdge: 2}, false)
}

// P10.1: keys, at the first, the middle and the last node.
func TestKeysOfNodes(t *testing.T) {
	for i := range loose().Nodes {
		for _, x := range []struct {
			l   []api.Pair
			may bool
		}{
			{sample.Pairs(1, 1), true}, {sample.Pairs(1, 2, 2, 1), true}, {sample.Pairs(-2, 0, -1, 0), true}, {sample.Pairs(least, 0, greatest, 0), true},
			{sample.Pairs(1, 1, 1, 1), false}, {sample.Pairs(1, 1, 1, 2), false}, {sample.Pairs(2, 1, 1, 2), false}, {sample.Pairs(-1, 0, -2, 0), false},
			{sample.Pairs(0, 0, 0, 0), false}, {sample.Pairs(greatest, 0, least, 0), false}, {sample.Pairs(least, 0, least, 0), false}, {sample.Pairs(greatest, 0, greatest, 0), false},
			{sample.Pairs(1, 1, 2, 2, 2, 3), false}, {sample.Pairs(2, 1, 1, 2, 3, 3), false}, {sample.Pairs(1, 1, 3, 2, 2, 3), false}, {sample.Pairs(1, 1, 1, 2, 3, 3), false}, {sample.Pairs(1, 0, 2, 0, 1, 0), false},
		} {
			c := looseCfg()
			c.Props = 9
			wantMayBe(t, "a node's keys", c, with(loose(), func(g *api.Graph) { g.Nodes[i].Pairs = x.l }), x.may)
		}
	}
}

// P10.1: just as many records as there are, and one more.
func TestHowManyThereAre(t *testing.T) {
	for n := 1; n <= 8; n++ {
		c := looseCfg()
		c.Nodes = n
		wantMayBe(t, "three nodes", c, loose(), n >= 3)
		c = looseCfg()
		c.Edges = n
		wantMayBe(t, "three edges", c, loose(), n >= 3)
		c = looseCfg()
		c.Props = n
		wantMayBe(t, "three properties", c, loose(), n >= 3)
		wantMayBe(t, "three properties of the last node", c, with(loose(), func(g *api.Graph) {
			g.Nodes[0].Pairs, g.Nodes[1].Pairs, g.Nodes[2].Pairs = nil, nil, sample.Pairs(1, 1, 2, 2, 3, 3)
		}), n >= 3)
		wantMayBe(t, "a property of each node", c, with(loose(), func(g *api.Graph) {
			g.Nodes[0].Pairs, g.Nodes[1].Pairs, g.Nodes[2].Pairs = sample.Pairs(7, 7), sample.Pairs(7, 7), sample.Pairs(7, 7)
		}), n >= 3)
		c = looseCfg()
		c.Ids = n
		wantMayBe(t, "numbers up to 5", c, loose(), n >= 5)
		c = looseCfg()
		c.EdgeIds = n
		wantMayBe(t, "numbers up to 7", c, loose(), n >= 7)
	}
	wantMayBe(t, "one node more", fullCfg(), with(full(), func(g *api.Graph) { g.Nodes = append(g.Nodes, sample.Node(65)) }), false)
	wantMayBe(t, "one property more", fullCfg(), with(full(), func(g *api.Graph) { g.Nodes[63].Pairs = sample.Pairs(1, 1, 2, 2) }), false)
	wantMayBe(t, "one edge more", fullCfg(), with(full(), func(g *api.Graph) { g.Edges = append(g.Edges, sample.Edges(65, 1, 1)...) }), false)
}

// P10.1: a graph may be for a configuration that may be alone.
func TestConfigurationsThatMayNotBe(t *testing.T) {
	for i := range 5 {
		for _, n := range []int{0, -1, 65, 66, 1 << 32, 1<<32 + 9, least, least + 1, greatest - 1, greatest} {
			c := fullCfg()
			*[]*int{&c.Nodes, &c.Edges, &c.Props, &c.Ids, &c.EdgeIds}[i] = n
			wantMayBe(t, "a new graph", c, New(), false)
			wantMayBe(t, "a loose graph", c, loose(), false)
			wantMayBe(t, "nothing at all", c, api.Graph{}, false)
		}
	}
	wantMayBe(t, "a new graph", api.Cfg{}, New(), false)
}

// The places of all numbers of a graph.
func numbers(g *api.Graph) []*int {
	l := []*int{&g.NextNode, &g.NextEdge}
	for i := range g.Nodes {
		l = append(l, &g.Nodes[i].Id)
		for j := range g.Nodes[i].Pairs {
			l = append(l, &g.Nodes[i].Pairs[j].K, &g.Nodes[i].Pairs[j].V)
		}
	}
	for i := range g.Edges {
		l = append(l, &g.Edges[i].Id, &g.Edges[i].From, &g.Edges[i].To)
	}
	return l
}

func wantSame(t *testing.T, what string, g, h api.Graph, want bool) {
	t.Helper()
	if Same(g, h) != want || Same(h, g) != want {
		t.Errorf("%s: Same of %v and %v is %v, or the other way round; want %v", what, g, h, Same(g, h), want)
	}
}

// P10.1: two graphs that differ in one number alone, whichever that is.
func TestSameOfOneNumber(t *testing.T) {
	for _, g := range []api.Graph{mixed(), loose(), full(), New(), {}} {
		wantSame(t, "a graph and itself", g, g, true)
		wantSame(t, "a graph and a copy", g, sample.CopiedGraph(g), true)
		for i := range numbers(&g) {
			for _, by := range []int{1, -1, 1 << 32, -1 << 40, least} {
				h := sample.CopiedGraph(g)
				*numbers(&h)[i] += by
				wantSame(t, fmt.Sprint("the number ", i), g, h, false)
				wantSame(t, "what may not be, and a copy", h, sample.CopiedGraph(h), true)
			}
		}
	}
}

// P10.1, R3: lists that end sooner, that stand in another order, or that have no elements.
func TestSameOfLists(t *testing.T) {
	g := mixed()
	for _, x := range []changed{
		{"without the last node", with(g, func(g *api.Graph) { g.Nodes = g.Nodes[:3] })},
		{"without the first node", with(g, func(g *api.Graph) { g.Nodes = g.Nodes[1:] })},
		{"without nodes", with(g, func(g *api.Graph) { g.Nodes = nil })},
		{"without the last edge", with(g, func(g *api.Graph) { g.Edges = g.Edges[:6] })},
		{"without the first edge", with(g, func(g *api.Graph) { g.Edges = g.Edges[1:] })},
		{"without edges", with(g, func(g *api.Graph) { g.Edges = nil })},
		{"without the last property", with(g, func(g *api.Graph) { g.Nodes[0].Pairs = g.Nodes[0].Pairs[:2] })},
		{"without a node's properties", with(g, func(g *api.Graph) { g.Nodes[2].Pairs = nil })},
		{"with a property that is zero", with(g, func(g *api.Graph) { g.Nodes[1].Pairs = sample.Pairs(0, 0) })},
		{"with a node that is zero", with(g, func(g *api.Graph) { g.Nodes = append(g.Nodes, api.Node{}) })},
		{"with an edge that is zero", with(g, func(g *api.Graph) { g.Edges = append(g.Edges, api.Edge{}) })},
		{"with a property at another node", with(g, func(g *api.Graph) { g.Nodes[1].Pairs, g.Nodes[3].Pairs = sample.Pairs(1, 1), nil })},
		{"with nodes in another order", with(g, func(g *api.Graph) { slices.Reverse(g.Nodes) })},
		{"with edges in another order", with(g, func(g *api.Graph) { slices.Reverse(g.Edges) })},
		{"with properties in another order", with(g, func(g *api.Graph) { slices.Reverse(g.Nodes[0].Pairs) })},
		{"with all edges the other way", with(g, func(g *api.Graph) {
			for i, e := range g.Edges {
				g.Edges[i].From, g.Edges[i].To = e.To, e.From
			}
		})},
	} {
		wantSame(t, x.what, g, x.g, false)
		wantSame(t, x.what+", and a copy", x.g, sample.CopiedGraph(x.g), true)
	}
	one := with(g, func(g *api.Graph) { g.Nodes[1].Pairs = sample.Pairs(1, 1) })
	wantSame(t, "a property at one node, or another", one, with(g, func(g *api.Graph) { g.Nodes[3].Pairs = sample.Pairs(1, 1) }), false)
	empty := api.Graph{Nodes: []api.Node{}, Edges: []api.Edge{}, NextNode: 1, NextEdge: 1}
	wantSame(t, "nil and empty lists", New(), empty, true)
	bare := api.Graph{Nodes: []api.Node{{Id: 1}}, NextNode: 2, NextEdge: 1}
	wantSame(t, "nil and empty properties", bare, with(bare, func(g *api.Graph) { g.Nodes[0].Pairs = []api.Pair{} }), true)
}
