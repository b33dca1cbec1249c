package apply

import (
	"testing"

	"tendril/api"
	"tendril/graph"
	"tendril/sample"
)

// A deed is an operation, what is done with a graph, and what it comes to.
type deed struct {
	o    api.Op
	does func(g *api.Graph)
	r    api.Result
}

func stays(*api.Graph) {}

// P11.1, with no error, on mixed: each kind.
func deeds() []deed {
	return []deed{
		{api.Op{Kind: api.AddO}, func(g *api.Graph) { g.Nodes, g.NextNode = append(g.Nodes, sample.Node(6)), 7 }, api.Result{Id: 6}},
		{api.Op{Kind: api.LinkO, A: 1, B: 4}, func(g *api.Graph) { g.Edges, g.NextEdge = append(g.Edges, sample.Edges(8, 1, 4)...), 9 }, api.Result{Id: 8}},
		{api.Op{Kind: api.LinkO, A: 4, B: 1}, func(g *api.Graph) { g.Edges, g.NextEdge = append(g.Edges, sample.Edges(8, 4, 1)...), 9 }, api.Result{Id: 8}},
		{api.Op{Kind: api.LinkO, A: 2, B: 2}, func(g *api.Graph) { g.Edges, g.NextEdge = append(g.Edges, sample.Edges(8, 2, 2)...), 9 }, api.Result{Id: 8}},
		{api.Op{Kind: api.CutO, A: 1}, func(g *api.Graph) { g.Edges = g.Edges[1:] }, api.Result{}},
		{api.Op{Kind: api.CutO, A: 4}, func(g *api.Graph) { g.Edges = sample.Edges(1, 1, 2, 2, 2, 1, 5, 4, 1, 6, 1, 2, 7, 4, 2) }, api.Result{}},
		{api.Op{Kind: api.CutO, A: 7}, func(g *api.Graph) { g.Edges = g.Edges[:5] }, api.Result{}},
		{api.Op{Kind: api.SetO, A: 1, K: 0, V: 4}, func(g *api.Graph) { g.Nodes[0].Pairs = sample.Pairs(-3, 5, 0, 4, 9, -1) }, api.Result{}},
		{api.Op{Kind: api.SetO, A: 1, K: 9, V: -1}, stays, api.Result{}},
		{api.Op{Kind: api.SetO, A: 2}, func(g *api.Graph) { g.Nodes[1].Pairs = sample.Pairs(0, 0) }, api.Result{}},
		{api.Op{Kind: api.SetO, A: 2, K: 4, V: 1}, func(g *api.Graph) { g.Nodes[1].Pairs = sample.Pairs(4, 1) }, api.Result{}},
		{api.Op{Kind: api.SetO, A: 4, K: greatest, V: least}, func(g *api.Graph) { g.Nodes[2].Pairs = sample.Pairs(least, greatest, 9, 7, greatest, least) }, api.Result{}},
		{api.Op{Kind: api.SetO, A: 4, K: least, V: least}, func(g *api.Graph) { g.Nodes[2].Pairs = sample.Pairs(least, least, 9, 7) }, api.Result{}},
		{api.Op{Kind: api.DelO, A: 1, K: -3}, func(g *api.Graph) { g.Nodes[0].Pairs = sample.Pairs(0, 0, 9, -1) }, api.Result{}},
		{api.Op{Kind: api.DelO, A: 1}, func(g *api.Graph) { g.Nodes[0].Pairs = sample.Pairs(-3, 5, 9, -1) }, api.Result{}},
		{api.Op{Kind: api.DelO, A: 4, K: least}, func(g *api.Graph) { g.Nodes[2].Pairs = sample.Pairs(9, 7) }, api.Result{}},
		{api.Op{Kind: api.GetO, A: 1}, stays, api.Result{Pairs: sample.Pairs(-3, 5, 0, 0, 9, -1)}},
		{api.Op{Kind: api.GetO, A: 2}, stays, api.Result{}},
		{api.Op{Kind: api.GetO, A: 4}, stays, api.Result{Pairs: sample.Pairs(least, greatest, 9, 7)}},
		{api.Op{Kind: api.NearO, A: 1}, stays, api.Result{Out: sample.Ends(1, 2, 4, 1, 6, 2), In: sample.Ends(2, 2, 4, 1, 5, 4)}},
		{api.Op{Kind: api.NearO, A: 2}, stays, api.Result{Out: sample.Ends(2, 1), In: sample.Ends(1, 1, 6, 1, 7, 4)}},
		{api.Op{Kind: api.NearO, A: 4}, stays, api.Result{Out: sample.Ends(5, 1, 7, 2)}},
		{api.Op{Kind: api.DropO, A: 1}, func(g *api.Graph) { g.Nodes, g.Edges = g.Nodes[1:], sample.Edges(7, 4, 2) }, api.Result{}},
		{api.Op{Kind: api.DropO, A: 2}, func(g *api.Graph) {
			g.Nodes, g.Edges = []api.Node{g.Nodes[0], g.Nodes[2]}, sample.Edges(4, 1, 1, 5, 4, 1)
		}, api.Result{}},
		{api.Op{Kind: api.FuseO, A: 1, B: 4}, func(g *api.Graph) {
			g.Nodes, g.Edges = []api.Node{sample.Node(1, least, greatest, -3, 5, 0, 0, 9, -1), sample.Node(2)}, sample.Edges(1, 1, 2, 2, 2, 1, 4, 1, 1, 5, 1, 1, 6, 1, 2, 7, 1, 2)
		}, api.Result{}},
		{api.Op{Kind: api.FuseO, A: 4, B: 1}, func(g *api.Graph) {
			g.Nodes, g.Edges = []api.Node{sample.Node(2), sample.Node(4, least, greatest, -3, 5, 0, 0, 9, 7)}, sample.Edges(1, 4, 2, 2, 2, 4, 4, 4, 4, 5, 4, 4, 6, 4, 2, 7, 4, 2)
		}, api.Result{}},
		{api.Op{Kind: api.FuseO, A: 2, B: 1}, func(g *api.Graph) {
			g.Nodes, g.Edges = []api.Node{sample.Node(2, -3, 5, 0, 0, 9, -1), sample.Node(4, least, greatest, 9, 7)}, sample.Edges(1, 2, 2, 2, 2, 2, 4, 2, 2, 5, 4, 2, 6, 2, 2, 7, 4, 2)
		}, api.Result{}},
	}
}

// A failure is a graph, an operation that has an error on it, and that.
type failure struct {
	g api.Graph
	o api.Op
	e api.Errno
}

// P11.1, with an error: each kind that can have one.
func failures() []failure {
	l := []failure{
		{usedUp(), api.Op{Kind: api.AddO}, api.ErrIds},
		{usedUp(), api.Op{Kind: api.LinkO, A: 1, B: 2}, api.ErrIds},
		{usedUp(), api.Op{Kind: api.LinkO, A: 4, B: 4}, api.ErrIds},
		{usedUp(), api.Op{Kind: api.LinkO, A: 4, B: 3}, api.ErrNone},
		{api.Graph{NextNode: 7, NextEdge: 9}, api.Op{Kind: api.AddO}, api.ErrIds},
		{api.Graph{NextNode: 7, NextEdge: 9}, api.Op{Kind: api.LinkO, A: 1, B: 1}, api.ErrNone},
		{mixed(), api.Op{Kind: api.DelO, A: 1, K: 5}, api.ErrNone},
		{mixed(), api.Op{Kind: api.DelO, A: 1, K: least}, api.ErrNone},
		{mixed(), api.Op{Kind: api.DelO, A: 2, K: 0}, api.ErrNone},
		{mixed(), api.Op{Kind: api.DelO, A: 4, K: greatest}, api.ErrNone},
		{mixed(), api.Op{Kind: api.CutO, A: 8}, api.ErrNone},
		{mixed(), api.Op{Kind: api.FuseO, A: 4, B: 4}, api.ErrSelf},
		{mixed(), api.Op{Kind: api.FuseO, A: 3, B: 3}, api.ErrSelf},
		{graph.New(), api.Op{Kind: api.FuseO}, api.ErrSelf},
	}
	for _, g := range []api.Graph{mixed(), usedUp(), graph.New()} {
		for _, n := range nobodys {
			if n != 5 { // an edge's number, but no node's
				l = append(l, failure{g, api.Op{Kind: api.CutO, A: n}, api.ErrNone})
			}
			for _, o := range []api.Op{
				{Kind: api.LinkO, A: n, B: 1}, {Kind: api.LinkO, A: 1, B: n}, {Kind: api.LinkO, A: n, B: n},
				{Kind: api.SetO, A: n, K: 9, V: 1}, {Kind: api.DelO, A: n, K: 9}, {Kind: api.GetO, A: n}, {Kind: api.NearO, A: n}, {Kind: api.DropO, A: n},
				{Kind: api.FuseO, A: n, B: 1}, {Kind: api.FuseO, A: 1, B: n},
			} {
				l = append(l, failure{g, o, api.ErrNone})
			}
		}
	}
	return l
}

// The promises are asked of graphs that may be.
func TestGraphsHereMayBe(t *testing.T) {
	for _, g := range []api.Graph{mixed(), usedUp(), graph.New(), {NextNode: 7, NextEdge: 9}} {
		if e := graph.Check(mixedCfg(), g); e != api.OK {
			t.Errorf("Check of %v tells %d", g, e)
		}
	}
}

// P11.1
func TestDo(t *testing.T) {
	for _, x := range deeds() {
		g, r := Do(mixedCfg(), mixed(), x.o)
		wantGraph(t, text("Do ", x.o), g, with(mixed(), x.does))
		wantResult(t, text("Do ", x.o), r, x.r)
	}
}

// P11.1: the graph is g, and the result is zero but for Err.
func TestDoWithAnError(t *testing.T) {
	for _, x := range failures() {
		g, r := Do(mixedCfg(), x.g, x.o)
		wantGraph(t, text("Do ", x.o), g, x.g)
		wantResult(t, text("Do ", x.o), r, api.Result{Err: x.e})
	}
}

// P11.1: the numbers that come next are given as long as there are some.
func TestDoUpToTheLastNumber(t *testing.T) {
	c := api.Cfg{Nodes: 2, Edges: 2, Props: 1, Ids: 2, EdgeIds: 2}
	g := graph.New()
	for _, x := range []struct {
		o api.Op
		r api.Result
	}{
		{api.Op{Kind: api.AddO}, api.Result{Id: 1}}, {api.Op{Kind: api.AddO}, api.Result{Id: 2}}, {api.Op{Kind: api.AddO}, api.Result{Err: api.ErrIds}},
		{api.Op{Kind: api.LinkO, A: 2, B: 1}, api.Result{Id: 1}}, {api.Op{Kind: api.LinkO, A: 2, B: 2}, api.Result{Id: 2}}, {api.Op{Kind: api.LinkO, A: 2, B: 1}, api.Result{Err: api.ErrIds}},
		{api.Op{Kind: api.CutO, A: 1}, api.Result{}}, {api.Op{Kind: api.DropO, A: 1}, api.Result{}},
		{api.Op{Kind: api.AddO}, api.Result{Err: api.ErrIds}}, {api.Op{Kind: api.LinkO, A: 2, B: 2}, api.Result{Err: api.ErrIds}},
	} {
		h, r := Do(c, g, x.o)
		wantResult(t, text("Do ", x.o, " of ", g), r, x.r)
		g = h
	}
	wantGraph(t, "behind all", g, api.Graph{Nodes: []api.Node{sample.Node(2)}, Edges: sample.Edges(2, 2, 2), NextNode: 3, NextEdge: 3})
}

// P11.1: another kind is ErrArg, whatever stands beside it.
func TestDoOfNoKind(t *testing.T) {
	for _, g := range []api.Graph{mixed(), usedUp(), graph.New()} {
		for _, kind := range noKinds {
			for _, o := range []api.Op{{Kind: kind}, {Kind: kind, A: 1, B: 2, K: 9, V: 4}, {Kind: kind, A: 3, B: 3, K: least, V: greatest}} {
				h, r := Do(mixedCfg(), g, o)
				wantGraph(t, text("Do ", o), h, g)
				wantResult(t, text("Do ", o), r, api.Result{Err: api.ErrArg})
				if k := Takes(mixedCfg(), g, o); k != 0 {
					t.Errorf("Takes %v is %d", o, k)
				}
			}
		}
	}
}

// P11.1: numbers at which a kind does not look say nothing.
func TestNumbersThatAreNotLookedAt(t *testing.T) {
	looks := map[int][4]bool{api.LinkO: {true, true}, api.CutO: {true}, api.SetO: {true, false, true, true}, api.DelO: {true, false, true}, api.GetO: {true}, api.NearO: {true}, api.DropO: {true}, api.FuseO: {true, true}}
	for _, x := range deeds() {
		for _, n := range []int{1, 2, 4, 9, -1, least, greatest} {
			o := x.o
			for i, at := range []*int{&o.A, &o.B, &o.K, &o.V} {
				if !looks[o.Kind][i] {
					*at = n
				}
			}
			g, r := Do(mixedCfg(), mixed(), o)
			wantGraph(t, text("Do ", o), g, with(mixed(), x.does))
			wantResult(t, text("Do ", o), r, x.r)
			if got, want := Takes(mixedCfg(), mixed(), o), Takes(mixedCfg(), mixed(), x.o); got != want {
				t.Errorf("Takes %v is %d; want %d, as of %v", o, got, want, x.o)
			}
		}
	}
}

func wantSame(t *testing.T, a, b api.Result, want bool) {
	t.Helper()
	if Same(a, b) != want || Same(b, a) != want {
		t.Errorf("Same of %v and %v is %v, or the other way round; want %v", a, b, Same(a, b), want)
	}
}

// P11.1
func TestSame(t *testing.T) {
	for _, r := range []api.Result{{}, {Err: api.ErrFull}, {Id: 1}, {Pairs: sample.Pairs(1, 2)}, {Out: sample.Ends(1, 2)}, {In: sample.Ends(1, 2)}, sample.Result()} {
		wantSame(t, r, r, true)
		wantSame(t, r, sample.Copied(r), true)
		for _, x := range sample.Others(r) {
			wantSame(t, r, x, false)
			wantSame(t, x, sample.Copied(x), true)
		}
	}
	turned := sample.Result()
	turned.Pairs = sample.Pairs(least, greatest, 1, 2)
	wantSame(t, sample.Result(), turned, false)
	turned = sample.Result()
	turned.Out = sample.Ends(5, 6, 3, 4)
	wantSame(t, sample.Result(), turned, false)
	wantSame(t, api.Result{Id: 2}, api.Result{Err: 2}, false)
}

// R3: nil and empty are the same, in each list.
func TestSameOfListsWithoutElements(t *testing.T) {
	for _, r := range []api.Result{{}, {Err: api.ErrFull}, {Id: 3}} {
		for i := range 8 {
			x := r
			if i&1 != 0 {
				x.Pairs = []api.Pair{}
			}
			if i&2 != 0 {
				x.Out = []api.End{}
			}
			if i&4 != 0 {
				x.In = []api.End{}
			}
			wantSame(t, r, x, true)
		}
	}
}
