package apply

import (
	"testing"

	"tendril/api"
	"tendril/graph"
	"tendril/sample"
)

func wantAll(t *testing.T, c api.Cfg, l []api.Op, g api.Graph, r ...api.Result) {
	t.Helper()
	h, told := All(c, l)
	wantGraph(t, text("All ", l), h, g)
	if len(told) != len(l) || text(told) != text(r) {
		t.Errorf("All %v: the results are %v; want %v", l, told, r)
	}
}

// P11.4: the chapter's example.
func TestAllOfTwoNodesAndAnEdge(t *testing.T) {
	wantAll(t, mixedCfg(), []api.Op{{Kind: api.AddO}, {Kind: api.AddO}, {Kind: api.LinkO, A: 1, B: 2}},
		api.Graph{Nodes: []api.Node{sample.Node(1), sample.Node(2)}, Edges: sample.Edges(1, 1, 2), NextNode: 3, NextEdge: 2},
		api.Result{Id: 1}, api.Result{Id: 2}, api.Result{Id: 1})
}

// P11.4
func TestAllOfNone(t *testing.T) {
	wantAll(t, mixedCfg(), nil, api.Graph{NextNode: 1, NextEdge: 1})
	wantAll(t, mixedCfg(), []api.Op{}, api.Graph{NextNode: 1, NextEdge: 1})
	wantAll(t, api.Cfg{}, nil, api.Graph{NextNode: 1, NextEdge: 1})
}

// P11.4: what fails leaves the graph to the next one.
func TestAllOfWhichSomeFail(t *testing.T) {
	c := api.Cfg{Nodes: 2, Edges: 2, Props: 2, Ids: 2, EdgeIds: 1}
	none := api.Result{Err: api.ErrNone}
	wantAll(t, c, []api.Op{{Kind: api.GetO, A: 1}}, graph.New(), none)
	wantAll(t, c, []api.Op{{}, {Kind: 10}, {Kind: least}}, graph.New(), api.Result{Err: api.ErrArg}, api.Result{Err: api.ErrArg}, api.Result{Err: api.ErrArg})
	wantAll(t, c, []api.Op{
		{Kind: api.LinkO, A: 1, B: 1}, {Kind: api.AddO}, {Kind: api.SetO, A: 2, K: 5, V: 6}, {Kind: api.SetO, A: 1, K: 5, V: 6}, {Kind: api.AddO}, {Kind: api.AddO},
		{Kind: api.LinkO, A: 2, B: 1}, {Kind: api.LinkO, A: 2, B: 1}, {Kind: greatest, A: 1}, {Kind: api.SetO, A: 2, K: least, V: greatest}, {Kind: api.FuseO, A: 2, B: 2}, {Kind: api.FuseO, A: 2, B: 1},
		{Kind: api.GetO, A: 1}, {Kind: api.GetO, A: 2}, {Kind: api.NearO, A: 2}, {Kind: api.DelO, A: 2, K: 6}, {Kind: api.DelO, A: 2, K: 5}, {Kind: api.CutO, A: 2}, {Kind: api.AddO},
	}, api.Graph{Nodes: []api.Node{sample.Node(2, least, greatest)}, Edges: sample.Edges(1, 2, 2), NextNode: 3, NextEdge: 2},
		none, api.Result{Id: 1}, none, api.Result{}, api.Result{Id: 2}, api.Result{Err: api.ErrIds},
		api.Result{Id: 1}, api.Result{Err: api.ErrIds}, api.Result{Err: api.ErrArg}, api.Result{}, api.Result{Err: api.ErrSelf}, api.Result{},
		none, api.Result{Pairs: sample.Pairs(least, greatest, 5, 6)}, api.Result{Out: sample.Ends(1, 2), In: sample.Ends(1, 2)}, none, api.Result{}, none, api.Result{Err: api.ErrIds})
}

// Operations of all kinds, and of one that there is not, drawn by a rule: more that add than that take away, and numbers that are about those that were given by then.
func drawn(n int) []api.Op {
	at := uint32(1)
	next := func(below int) int {
		at = at*1664525 + 1013904223
		return int(at>>8) % below
	}
	often := []int{api.AddO, api.AddO, api.AddO, api.LinkO, api.LinkO, api.LinkO, api.LinkO, api.CutO, api.SetO, api.SetO, api.SetO, api.SetO, api.DelO, api.DelO, api.GetO, api.NearO, api.DropO, api.FuseO, 10}
	var l []api.Op
	for i := range n {
		l = append(l, api.Op{Kind: often[next(len(often))], A: next(i/6 + 4), B: next(i/6 + 4), K: next(2), V: next(100)})
	}
	return l
}

// P11.4: of many operations, each on the graph that the ones ahead came to; and the same again, whatever was done between.
func TestAllOfManyOperations(t *testing.T) {
	c := api.Cfg{Nodes: 64, Edges: 64, Props: 64, Ids: 64, EdgeIds: 64}
	for n := 0; n <= 400; n += 25 {
		l := drawn(n)
		g := graph.New()
		var want []api.Result
		for _, o := range l {
			h, r := meant(c, g, o)
			g, want = h, append(want, r)
		}
		wantAll(t, c, l, g, want...)
		All(mixedCfg(), drawn(7))
		wantAll(t, c, l, g, want...)
	}
}

// What is drawn comes to something of each kind.
func TestDrawnOperationsDoAndFail(t *testing.T) {
	c := api.Cfg{Nodes: 64, Edges: 64, Props: 64, Ids: 64, EdgeIds: 64}
	l := drawn(400)
	_, results := All(c, l)
	does, fails := map[int]int{}, map[int]int{}
	for i, r := range results {
		if r.Err == api.OK {
			does[l[i].Kind]++
		} else {
			fails[l[i].Kind]++
		}
	}
	for kind := api.AddO; kind <= api.FuseO; kind++ {
		if does[kind] < 3 || fails[kind] < 3 {
			t.Errorf("of the kind %d %d are done, and %d fail", kind, does[kind], fails[kind])
		}
	}
}
