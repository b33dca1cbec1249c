package graph

import (
	"fmt"
	"slices"
	"testing"

	"tendril/api"
	"tendril/sample"
)

// P10.1
func TestNew(t *testing.T) {
	g := New()
	wantGraph(t, "New", g, api.Graph{NextNode: 1, NextEdge: 1})
	wantErrno(t, "Check of New", Check(mixedCfg(), g), api.OK)
	wantErrno(t, "Check of New", Check(api.Cfg{Nodes: 1, Edges: 1, Props: 1, Ids: 1, EdgeIds: 1}, g), api.OK)
}

// P10.2: numbers are given behind those that are gone, too.
func TestAdd(t *testing.T) {
	g, id, e := Add(mixedCfg(), mixed())
	wantTold(t, "Add", g, e, with(mixed(), func(g *api.Graph) { g.Nodes, g.NextNode = append(g.Nodes, sample.Node(7)), 8 }))
	wantNumber(t, "Add", id, 7)
	h, id, e := Add(mixedCfg(), g)
	wantError(t, "Add, with no number left", h, e, api.ErrIds)
	wantNumber(t, "Add, with no number left", id, 0)
	g, id, e = Add(mixedCfg(), New())
	wantTold(t, "Add to New", g, e, api.Graph{Nodes: []api.Node{sample.Node(1)}, NextNode: 2, NextEdge: 1})
	wantNumber(t, "Add to New", id, 1)
}

// P10.2: that all nodes are gone again gives no number back.
func TestAddWithoutNodesAndNumbers(t *testing.T) {
	c := mixedCfg()
	for _, x := range []struct {
		next, id int
		e        api.Errno
	}{{6, 6, api.OK}, {7, 7, api.OK}, {8, 0, api.ErrIds}} {
		g, id, e := Add(c, api.Graph{NextNode: x.next, NextEdge: 1})
		wantErrno(t, "Add", e, x.e)
		wantNumber(t, "Add", id, x.id)
		if e == api.OK {
			wantGraph(t, "Add", g, api.Graph{Nodes: []api.Node{sample.Node(x.next)}, NextNode: x.next + 1, NextEdge: 1})
		}
	}
}

// P10.2
func TestLink(t *testing.T) {
	for _, x := range []struct{ a, b int }{{1, 2}, {2, 1}, {1, 1}, {6, 6}, {2, 6}, {6, 1}, {4, 2}} {
		what := fmt.Sprint("Link ", x)
		g, id, e := Link(mixedCfg(), mixed(), x.a, x.b)
		wantTold(t, what, g, e, with(mixed(), func(g *api.Graph) {
			g.Edges, g.NextEdge = append(g.Edges, sample.Edges(11, x.a, x.b)...), 12
		}))
		wantNumber(t, what, id, 11)
	}
}

// P10.2: the last number is given, the one more is not.
func TestLinkUsesUpTheNumbers(t *testing.T) {
	c := mixedCfg()
	g, id, e := Link(c, with(mixed(), func(g *api.Graph) { g.NextEdge = 12 }), 2, 2)
	wantErrno(t, "Link", e, api.OK)
	wantNumber(t, "Link", id, 12)
	wantNumber(t, "Link, as what comes next,", g.NextEdge, 13)
	h, id, e := Link(c, g, 2, 2)
	wantError(t, "Link, with no number left", h, e, api.ErrIds)
	wantNumber(t, "Link, with no number left", id, 0)
	h, id, e = Link(c, api.Graph{Nodes: []api.Node{sample.Node(1)}, NextNode: 2, NextEdge: 13}, 1, 1)
	wantError(t, "Link, with no number and no edge left", h, e, api.ErrIds)
	wantNumber(t, "Link, with no number and no edge left", id, 0)
}

// P10.2: that there is no such node is told ahead of that there are no numbers.
func TestLinkOfNoNode(t *testing.T) {
	for _, g := range []api.Graph{mixed(), with(mixed(), func(g *api.Graph) { g.NextEdge = 13 })} {
		for _, n := range append([]int{3, 5, 7, 8, 9, 10}, nobodys...) {
			for _, x := range []struct{ a, b int }{{1, n}, {n, 1}, {n, n}, {6, n}, {n, 6}} {
				h, id, e := Link(mixedCfg(), g, x.a, x.b)
				wantError(t, fmt.Sprint("Link ", x), h, e, api.ErrNone)
				wantNumber(t, fmt.Sprint("Link ", x), id, 0)
			}
		}
	}
	h, _, e := Link(mixedCfg(), New(), 1, 1)
	wantError(t, "Link in New", h, e, api.ErrNone)
}

// P10.2: how many records there are is not asked.
func TestRecordsAreNotAsked(t *testing.T) {
	c := api.Cfg{Nodes: 1, Edges: 1, Props: 1, Ids: 3, EdgeIds: 3}
	g := New()
	for want := 1; want <= 3; want++ {
		next, id, e := Add(c, g)
		wantErrno(t, "Add", e, api.OK)
		wantNumber(t, "Add", id, want)
		g = next
	}
	for want := 1; want <= 3; want++ {
		next, id, e := Link(c, g, want, 1)
		wantErrno(t, "Link", e, api.OK)
		wantNumber(t, "Link", id, want)
		g = next
	}
	wantGraph(t, "what has more than its records", g, api.Graph{Nodes: []api.Node{sample.Node(1), sample.Node(2), sample.Node(3)}, Edges: sample.Edges(1, 1, 1, 2, 2, 1, 3, 3, 1), NextNode: 4, NextEdge: 4})
	wantErrno(t, "Check of it", Check(c, g), api.ErrArg)
	g = full()
	h, e := Set(g, 1, 7, 7)
	wantErrno(t, "Set of one property more", e, api.OK)
	wantNumber(t, "Set, as how many properties there are,", len(h.Nodes[0].Pairs), 2)
}

// P10.2: the first, some in the middle, the last.
func TestCut(t *testing.T) {
	for _, x := range []struct {
		e    int
		left []api.Edge
	}{
		{1, sample.Edges(3, 2, 1, 4, 1, 2, 5, 1, 1, 6, 4, 4, 8, 4, 1, 10, 6, 4)},
		{4, sample.Edges(1, 1, 2, 3, 2, 1, 5, 1, 1, 6, 4, 4, 8, 4, 1, 10, 6, 4)},
		{5, sample.Edges(1, 1, 2, 3, 2, 1, 4, 1, 2, 6, 4, 4, 8, 4, 1, 10, 6, 4)},
		{10, sample.Edges(1, 1, 2, 3, 2, 1, 4, 1, 2, 5, 1, 1, 6, 4, 4, 8, 4, 1)},
	} {
		g, e := Cut(mixed(), x.e)
		wantTold(t, fmt.Sprint("Cut ", x.e), g, e, with(mixed(), func(g *api.Graph) { g.Edges = x.left }))
		g, e = Cut(g, x.e)
		wantError(t, fmt.Sprint("Cut, once more, ", x.e), g, e, api.ErrNone)
	}
}

// P10.2: numbers of nodes are no numbers of edges.
func TestCutOfNoEdge(t *testing.T) {
	for _, n := range append([]int{2, 7, 9}, nobodys...) {
		g, e := Cut(mixed(), n)
		wantError(t, fmt.Sprint("Cut ", n), g, e, api.ErrNone)
	}
	g, e := Cut(New(), 1)
	wantError(t, "Cut in New", g, e, api.ErrNone)
}

// P10.3: a new key in front, between two and at the end, one that is there, and the ends of an int.
func TestSet(t *testing.T) {
	for _, x := range []struct {
		n, k, v, at int
		now         []api.Pair
	}{
		{1, -4, 2, 0, sample.Pairs(-4, 2, -3, 5, 0, 0, 9, -1)},
		{1, -1, 2, 0, sample.Pairs(-3, 5, -1, 2, 0, 0, 9, -1)},
		{1, 8, 0, 0, sample.Pairs(-3, 5, 0, 0, 8, 0, 9, -1)},
		{1, 10, 9, 0, sample.Pairs(-3, 5, 0, 0, 9, -1, 10, 9)},
		{1, -3, 6, 0, sample.Pairs(-3, 6, 0, 0, 9, -1)},
		{1, 0, -7, 0, sample.Pairs(-3, 5, 0, -7, 9, -1)},
		{1, 9, -1, 0, sample.Pairs(-3, 5, 0, 0, 9, -1)},
		{1, 9, 0, 0, sample.Pairs(-3, 5, 0, 0, 9, 0)},
		{1, least, least, 0, sample.Pairs(least, least, -3, 5, 0, 0, 9, -1)},
		{1, greatest, greatest, 0, sample.Pairs(-3, 5, 0, 0, 9, -1, greatest, greatest)},
		{2, 0, 0, 1, sample.Pairs(0, 0)},
		{2, greatest, least, 1, sample.Pairs(greatest, least)},
		{4, least, 3, 2, sample.Pairs(least, 3, 9, 7)},
		{4, least + 1, 3, 2, sample.Pairs(least, greatest, least+1, 3, 9, 7)},
		{6, 9, 9, 3, sample.Pairs(9, 9)},
	} {
		g, e := Set(mixed(), x.n, x.k, x.v)
		wantTold(t, fmt.Sprint("Set ", x.n, x.k, x.v), g, e, with(mixed(), func(g *api.Graph) { g.Nodes[x.at].Pairs = x.now }))
	}
}

// P10.3
func TestDel(t *testing.T) {
	for _, x := range []struct {
		n, k, at int
		now      []api.Pair
	}{
		{1, -3, 0, sample.Pairs(0, 0, 9, -1)},
		{1, 0, 0, sample.Pairs(-3, 5, 9, -1)},
		{1, 9, 0, sample.Pairs(-3, 5, 0, 0)},
		{4, least, 2, sample.Pairs(9, 7)},
		{4, 9, 2, sample.Pairs(least, greatest)},
	} {
		what := fmt.Sprint("Del ", x.n, x.k)
		g, e := Del(mixed(), x.n, x.k)
		wantTold(t, what, g, e, with(mixed(), func(g *api.Graph) { g.Nodes[x.at].Pairs = x.now }))
		g, e = Del(g, x.n, x.k)
		wantError(t, what+", once more", g, e, api.ErrNone)
	}
	g, e := Del(api.Graph{Nodes: []api.Node{sample.Node(1, 7, 7)}, NextNode: 2, NextEdge: 1}, 1, 7)
	wantTold(t, "Del of the only property", g, e, api.Graph{Nodes: []api.Node{sample.Node(1)}, NextNode: 2, NextEdge: 1})
}

// P10.3: another node's property is none, nor is a value a key.
func TestDelOfNoProperty(t *testing.T) {
	for _, x := range []struct{ n, k int }{
		{1, least}, {1, 5}, {1, -1}, {1, 1}, {1, 7}, {1, greatest}, {1, 1<<32 + 9}, {1, -9},
		{2, 0}, {2, 9}, {4, -3}, {4, 0}, {4, 7}, {4, greatest}, {4, least + 1}, {6, 9}, {6, least},
	} {
		g, e := Del(mixed(), x.n, x.k)
		wantError(t, fmt.Sprint("Del ", x), g, e, api.ErrNone)
	}
}

// P10.3
func TestGet(t *testing.T) {
	for _, x := range []struct {
		n    int
		want []api.Pair
	}{
		{1, sample.Pairs(-3, 5, 0, 0, 9, -1)}, {2, nil}, {4, sample.Pairs(least, greatest, 9, 7)}, {6, nil},
	} {
		l, e := Get(mixed(), x.n)
		wantErrno(t, "Get", e, api.OK)
		if !slices.Equal(l, x.want) {
			t.Errorf("Get %d is %v; want %v", x.n, l, x.want)
		}
	}
}

// P10.4: an edge from a node to itself is told both ways.
func TestNear(t *testing.T) {
	for _, x := range []struct {
		n       int
		out, in []api.End
	}{
		{1, sample.Ends(1, 2, 4, 2, 5, 1), sample.Ends(3, 2, 5, 1, 8, 4)},
		{2, sample.Ends(3, 1), sample.Ends(1, 1, 4, 1)},
		{4, sample.Ends(6, 4, 8, 1), sample.Ends(6, 4, 10, 6)},
		{6, sample.Ends(10, 4), nil},
	} {
		out, in, e := Near(mixed(), x.n)
		wantErrno(t, "Near", e, api.OK)
		if !slices.Equal(out, x.out) || !slices.Equal(in, x.in) {
			t.Errorf("Near %d is %v, %v; want %v, %v", x.n, out, in, x.out, x.in)
		}
	}
	out, in, e := Near(api.Graph{Nodes: []api.Node{sample.Node(3)}, NextNode: 4, NextEdge: 9}, 3)
	wantErrno(t, "Near of a node without edges", e, api.OK)
	if len(out) != 0 || len(in) != 0 {
		t.Errorf("Near of a node without edges is %v, %v", out, in)
	}
}

// P10.5: edges from it, to it and to itself go, all others stay.
func TestDrop(t *testing.T) {
	all := mixed().Nodes
	for _, x := range []struct {
		n     int
		nodes []api.Node
		edges []api.Edge
	}{
		{1, []api.Node{all[1], all[2], all[3]}, sample.Edges(6, 4, 4, 10, 6, 4)},
		{2, []api.Node{all[0], all[2], all[3]}, sample.Edges(5, 1, 1, 6, 4, 4, 8, 4, 1, 10, 6, 4)},
		{4, []api.Node{all[0], all[1], all[3]}, sample.Edges(1, 1, 2, 3, 2, 1, 4, 1, 2, 5, 1, 1)},
		{6, []api.Node{all[0], all[1], all[2]}, sample.Edges(1, 1, 2, 3, 2, 1, 4, 1, 2, 5, 1, 1, 6, 4, 4, 8, 4, 1)},
	} {
		what := fmt.Sprint("Drop ", x.n)
		g, e := Drop(mixed(), x.n)
		wantTold(t, what, g, e, api.Graph{Nodes: x.nodes, Edges: x.edges, NextNode: 7, NextEdge: 11})
		g, e = Drop(g, x.n)
		wantError(t, what+", once more", g, e, api.ErrNone)
	}
	g, e := Drop(api.Graph{Nodes: []api.Node{sample.Node(1, 5, 5)}, Edges: sample.Edges(1, 1, 1, 2, 1, 1), NextNode: 2, NextEdge: 3}, 1)
	wantTold(t, "Drop of the only node", g, e, api.Graph{NextNode: 2, NextEdge: 3})
}

// P10.3, P10.4, P10.5: what is no node has no properties and no edges.
func TestOfNoNode(t *testing.T) {
	for _, g := range []api.Graph{mixed(), New()} {
		for _, n := range append([]int{3, 5, 7, 8, 9, 10}, nobodys...) {
			what := fmt.Sprint(" of ", n)
			h, e := Set(g, n, 9, 9)
			wantError(t, "Set"+what, h, e, api.ErrNone)
			h, e = Del(g, n, 9)
			wantError(t, "Del"+what, h, e, api.ErrNone)
			h, e = Drop(g, n)
			wantError(t, "Drop"+what, h, e, api.ErrNone)
			l, e := Get(g, n)
			wantErrno(t, "Get"+what, e, api.ErrNone)
			out, in, e := Near(g, n)
			wantErrno(t, "Near"+what, e, api.ErrNone)
			if len(l) != 0 || len(out) != 0 || len(in) != 0 {
				t.Errorf("Get and Near%s are %v, %v, %v", what, l, out, in)
			}
			for _, m := range []int{1, 4, 6} {
				h, e = Fuse(g, n, m)
				wantError(t, "Fuse"+what, h, e, api.ErrNone)
				h, e = Fuse(g, m, n)
				wantError(t, "Fuse with one"+what, h, e, api.ErrNone)
			}
		}
	}
}

// P10.5: that both are the same is told ahead of that there is none.
func TestFuseWithItself(t *testing.T) {
	for _, g := range []api.Graph{mixed(), New()} {
		for _, n := range append([]int{1, 2, 3, 4, 6, 7}, nobodys...) {
			h, e := Fuse(g, n, n)
			wantError(t, fmt.Sprint("Fuse with itself of ", n), h, e, api.ErrSelf)
		}
	}
	h, e := Fuse(mixed(), 3, 5)
	wantError(t, "Fuse of two that are none", h, e, api.ErrNone)
	h, e = Fuse(mixed(), least, greatest)
	wantError(t, "Fuse of two that are none", h, e, api.ErrNone)
}

// P10.5: the chapter's example.
func TestFusedTwoAreOneWithAnEdgeToItself(t *testing.T) {
	g := api.Graph{Nodes: []api.Node{sample.Node(1), sample.Node(2)}, Edges: sample.Edges(1, 1, 2), NextNode: 3, NextEdge: 2}
	h, e := Fuse(g, 1, 2)
	wantTold(t, "Fuse 1 2", h, e, api.Graph{Nodes: []api.Node{sample.Node(1)}, Edges: sample.Edges(1, 1, 1), NextNode: 3, NextEdge: 2})
	h, e = Fuse(g, 2, 1)
	wantTold(t, "Fuse 2 1", h, e, api.Graph{Nodes: []api.Node{sample.Node(2)}, Edges: sample.Edges(1, 2, 2), NextNode: 3, NextEdge: 2})
}

// P10.5: edges both ways between the two and to themselves, and edges of others; keys that are shared, and that are not.
func TestFuse(t *testing.T) {
	all := mixed().Nodes
	for _, x := range []struct {
		a, b  int
		nodes []api.Node
		edges []api.Edge
	}{
		{1, 2, []api.Node{all[0], all[2], all[3]}, sample.Edges(1, 1, 1, 3, 1, 1, 4, 1, 1, 5, 1, 1, 6, 4, 4, 8, 4, 1, 10, 6, 4)},
		{2, 1, []api.Node{sample.Node(2, -3, 5, 0, 0, 9, -1), all[2], all[3]}, sample.Edges(1, 2, 2, 3, 2, 2, 4, 2, 2, 5, 2, 2, 6, 4, 4, 8, 4, 2, 10, 6, 4)},
		{1, 4, []api.Node{sample.Node(1, least, greatest, -3, 5, 0, 0, 9, -1), all[1], all[3]}, sample.Edges(1, 1, 2, 3, 2, 1, 4, 1, 2, 5, 1, 1, 6, 1, 1, 8, 1, 1, 10, 6, 1)},
		{4, 1, []api.Node{all[1], sample.Node(4, least, greatest, -3, 5, 0, 0, 9, 7), all[3]}, sample.Edges(1, 4, 2, 3, 2, 4, 4, 4, 2, 5, 4, 4, 6, 4, 4, 8, 4, 4, 10, 6, 4)},
		{2, 6, []api.Node{all[0], all[1], all[2]}, sample.Edges(1, 1, 2, 3, 2, 1, 4, 1, 2, 5, 1, 1, 6, 4, 4, 8, 4, 1, 10, 2, 4)},
		{6, 4, []api.Node{all[0], all[1], sample.Node(6, least, greatest, 9, 7)}, sample.Edges(1, 1, 2, 3, 2, 1, 4, 1, 2, 5, 1, 1, 6, 6, 6, 8, 6, 1, 10, 6, 6)},
	} {
		what := fmt.Sprint("Fuse ", x.a, x.b)
		g, e := Fuse(mixed(), x.a, x.b)
		wantTold(t, what, g, e, api.Graph{Nodes: x.nodes, Edges: x.edges, NextNode: 7, NextEdge: 11})
		g, e = Fuse(g, x.a, x.b)
		wantError(t, what+", once more", g, e, api.ErrNone)
	}
}

// P10.5: of keys that both have a's values stay, of all, some or none; keys come among each other.
func TestFuseOfProperties(t *testing.T) {
	for _, x := range []struct{ a, b, want []api.Pair }{
		{nil, nil, nil},
		{sample.Pairs(1, 2), nil, sample.Pairs(1, 2)},
		{nil, sample.Pairs(1, 2), sample.Pairs(1, 2)},
		{sample.Pairs(1, 2), sample.Pairs(1, 3), sample.Pairs(1, 2)},
		{sample.Pairs(1, 0), sample.Pairs(1, 3), sample.Pairs(1, 0)},
		{sample.Pairs(1, 2), sample.Pairs(0, 3), sample.Pairs(0, 3, 1, 2)},
		{sample.Pairs(1, 2), sample.Pairs(2, 3), sample.Pairs(1, 2, 2, 3)},
		{sample.Pairs(1, 1, 3, 3, 5, 5), sample.Pairs(0, 9, 2, 9, 4, 9, 6, 9), sample.Pairs(0, 9, 1, 1, 2, 9, 3, 3, 4, 9, 5, 5, 6, 9)},
		{sample.Pairs(0, 9, 2, 9, 4, 9, 6, 9), sample.Pairs(1, 1, 3, 3, 5, 5), sample.Pairs(0, 9, 1, 1, 2, 9, 3, 3, 4, 9, 5, 5, 6, 9)},
		{sample.Pairs(1, 1, 3, 3, 5, 5), sample.Pairs(1, 7, 2, 7, 5, 7), sample.Pairs(1, 1, 2, 7, 3, 3, 5, 5)},
		{sample.Pairs(1, 1, 2, 2, 3, 3), sample.Pairs(1, 4, 2, 5, 3, 6), sample.Pairs(1, 1, 2, 2, 3, 3)},
		{sample.Pairs(least, 1, greatest, 2), sample.Pairs(least, 3, 0, 4, greatest, 5), sample.Pairs(least, 1, 0, 4, greatest, 2)},
		{sample.Pairs(0, 4), sample.Pairs(least, 3, greatest, 5), sample.Pairs(least, 3, 0, 4, greatest, 5)},
	} {
		g := api.Graph{Nodes: []api.Node{{Id: 1, Pairs: x.a}, {Id: 2, Pairs: x.b}}, NextNode: 3, NextEdge: 1}
		h, e := Fuse(g, 1, 2)
		wantTold(t, "Fuse 1 2", h, e, api.Graph{Nodes: []api.Node{{Id: 1, Pairs: x.want}}, NextNode: 3, NextEdge: 1})
		g = api.Graph{Nodes: []api.Node{{Id: 1, Pairs: x.b}, {Id: 2, Pairs: x.a}}, NextNode: 3, NextEdge: 1}
		h, e = Fuse(g, 2, 1)
		wantTold(t, "Fuse 2 1", h, e, api.Graph{Nodes: []api.Node{{Id: 2, Pairs: x.want}}, NextNode: 3, NextEdge: 1})
	}
}

// What uses up everything can still be changed, but for its numbers.
func TestFullGraph(t *testing.T) {
	g, c := full(), fullCfg()
	h, _, e := Add(c, g)
	wantError(t, "Add", h, e, api.ErrIds)
	h, _, e = Link(c, g, 1, 64)
	wantError(t, "Link", h, e, api.ErrIds)
	h, e = Fuse(g, 64, 1)
	wantTold(t, "Fuse 64 1", h, e, with(g, func(g *api.Graph) {
		g.Nodes = g.Nodes[1:]
		g.Nodes[62].Pairs = sample.Pairs(-64, 64, -1, 1)
		g.Edges[0], g.Edges[63] = sample.Edges(1, 64, 64)[0], sample.Edges(64, 64, 64)[0]
	}))
	h, e = Drop(g, 1)
	wantTold(t, "Drop 1", h, e, with(g, func(g *api.Graph) { g.Nodes, g.Edges = g.Nodes[1:], g.Edges[1:63] }))
	h, _, e = Add(c, h)
	wantError(t, "Add behind a Drop", h, e, api.ErrIds)
	out, in, e := Near(g, 64)
	wantErrno(t, "Near 64", e, api.OK)
	if !slices.Equal(out, sample.Ends(64, 1)) || !slices.Equal(in, sample.Ends(1, 1)) {
		t.Errorf("Near 64 is %v, %v", out, in)
	}
}
