package lin

import (
	"testing"

	"tendril/api"
	"tendril/graph"
	"tendril/sample"
)

// P13.2: the chapter's example; and the other way round.
func TestSearchOfTheExample(t *testing.T) {
	one := graphOf([]api.Node{sample.Node(1)}, nil, 2, 1)
	l := atOnce(0, deed{add, id(1)}, deed{get, none})
	wantFirst(t, cfg(), l, one, 1, 0)
	wantNoOrder(t, cfg(), l, 0, 1)
	wantFirst(t, cfg(), atOnce(0, deed{get, none}, deed{add, id(1)}), one, 0, 1)
	wantFirst(t, cfg(), atOnce(0, deed{add, id(1)}, deed{get, done}), one, 0, 1)
	wantFirst(t, cfg(), atOnce(0, deed{get, done}, deed{add, id(1)}), one, 1, 0)
}

// P13.2: the empty order is the first one wherever nothing came to a result.
func TestSearchOfNothing(t *testing.T) {
	wantFirst(t, cfg(), nil, graph.New())
	wantFirst(t, cfg(), []api.Event{}, graph.New())
	wantFirst(t, cfg(), pending(0, add), graph.New())
	wantFirst(t, cfg(), pending(0, add, get, add, sample.Drop(1), add, add, add, add, add, add), graph.New())
	one := graphOf([]api.Node{sample.Node(1)}, nil, 2, 1)
	for _, l := range [][]api.Event{nil, pending(0, add), pending(0, get, add)} {
		wantReach(t, cfg(), l, one, nil, api.ErrNone)
		wantReach(t, cfg(), l, api.Graph{}, nil, api.ErrNone)
	}
}

// P13.2: ErrNone, if there is no order.
func TestSearchOfNone(t *testing.T) {
	for _, l := range [][]api.Event{
		inTurn(deed{add, id(2)}),
		inTurn(deed{add, id(1)}, deed{get, none}),
		inTurn(deed{get, done}, deed{add, id(1)}),
		inTurn(deed{api.Op{Kind: 10}, done}),
		atOnce(0, deed{add, id(1)}, deed{add, id(1)}),
		atOnce(0, deed{add, id(1)}, deed{add, id(3)}),
		join(inTurn(deed{add, id(1)}), atOnce(0, deed{sample.Drop(1), done}, deed{sample.Drop(1), done})),
		join(pending(0, get), inTurn(deed{get, done})),
		// it was called behind what would have needed it
		join(inTurn(deed{get, done}), pending(0, add)),
		// two looks that tell two orders of two additions
		join(inTurn(deed{add, id(1)}), []api.Event{
			sample.Called(0, sample.Set(1, 1, 1)), sample.Called(1, sample.Set(1, 1, 2)), sample.Came(0, sample.Set(1, 1, 1), done), sample.Came(1, sample.Set(1, 1, 2), done),
			sample.Called(2, get), sample.Called(3, get), sample.Came(2, get, api.Result{Pairs: sample.Pairs(1, 1)}), sample.Came(3, get, api.Result{Pairs: sample.Pairs(1, 2)}),
		}),
	} {
		wantNone(t, cfg(), l, api.ErrNone)
		for _, g := range []api.Graph{{}, graph.New(), graphOf([]api.Node{sample.Node(1)}, nil, 2, 1)} {
			wantReach(t, cfg(), l, g, nil, api.ErrNone)
		}
	}
}

// P13.2: the first one, by its numbers and not by who was called first or came first.
func TestSearchForTheFirst(t *testing.T) {
	wantFirst(t, cfg(), twoSets(), twoSetsTo(6), 0, 1, 2, 3, 4)
	n := graphOf([]api.Node{sample.Node(1), sample.Node(2), sample.Node(3)}, nil, 4, 1)
	wantFirst(t, cfg(), atOnce(0, deed{add, id(3)}, deed{add, id(1)}, deed{add, id(2)}), n, 1, 2, 0)
	wantFirst(t, cfg(), atOnce(0, deed{add, id(2)}, deed{add, id(3)}, deed{add, id(1)}), n, 2, 0, 1)
	// the look overlaps both additions, and saw what the second one gave
	l := []api.Event{
		sample.Called(5, sample.Get(2)), sample.Called(6, add), sample.Came(6, add, id(1)), sample.Called(6, add), sample.Came(6, add, id(2)), sample.Came(5, sample.Get(2), done),
	}
	wantFirst(t, cfg(), l, graphOf([]api.Node{sample.Node(1), sample.Node(2)}, nil, 3, 1), 1, 2, 0)
	// what is pending stands as far ahead as it can
	changed := join(inTurn(deed{add, id(1)}), pending(0, sample.Set(1, 7, 5)), inTurn(deed{sample.Get(3), none}, deed{sample.Get(4), none}))
	wantFirst(t, cfg(), changed, graphOf([]api.Node{sample.Node(1, 7, 5)}, nil, 2, 1), 0, 1, 2, 3)
	seen := join(inTurn(deed{add, id(1)}), pending(0, sample.Set(1, 7, 5)), inTurn(deed{get, done}, deed{get, api.Result{Pairs: sample.Pairs(7, 5)}}))
	wantFirst(t, cfg(), seen, graphOf([]api.Node{sample.Node(1, 7, 5)}, nil, 2, 1), 0, 2, 1, 3)
	unseen := join(inTurn(deed{add, id(1)}), pending(0, sample.Set(1, 7, 5)), inTurn(deed{get, done}, deed{get, done}))
	wantFirst(t, cfg(), unseen, graphOf([]api.Node{sample.Node(1)}, nil, 2, 1), 0, 2, 3)
}

// P13.2: behind the last one with a result nothing stands, so what is pending is left out where nobody saw it, and no order is the beginning of another one.
func TestSearchEndsWithAResult(t *testing.T) {
	one := graphOf([]api.Node{sample.Node(1)}, nil, 2, 1)
	wantFirst(t, cfg(), join(atOnce(0, deed{add, id(1)}), pending(0, add, add)), one, 0)
	wantNoOrder(t, cfg(), join(atOnce(0, deed{add, id(1)}), pending(0, add, add)), 0, 1)
	l := []api.Event{sample.Called(0, add), sample.Called(1, sample.Drop(1)), sample.Called(2, add), sample.Came(0, add, id(1))}
	wantFirst(t, cfg(), l, one, 0)
	wantOrder(t, cfg(), l, []int{1, 0}, one, api.OK)
	for _, order := range [][]int{{0, 1}, {0, 2}, {0, 1, 2}, {0, 2, 1}, {2, 0}, {2, 1, 0}} {
		wantNoOrder(t, cfg(), l, order...)
	}
	wantReach(t, cfg(), l, graphOf(nil, nil, 2, 1), nil, api.ErrNone)
}

// P13.2: Reach of what the first order comes to, a later one alone, and none.
func TestReach(t *testing.T) {
	wantReach(t, cfg(), twoSets(), twoSetsTo(6), []int{0, 1, 2, 3, 4}, api.OK)
	wantReach(t, cfg(), twoSets(), twoSetsTo(5), []int{0, 1, 3, 2, 4}, api.OK)
	for _, g := range []api.Graph{
		twoSetsTo(7), {}, graph.New(),
		graphOf([]api.Node{sample.Node(1, 7, 6), sample.Node(2)}, sample.Edges(1, 1, 2), 4, 2),
		graphOf([]api.Node{sample.Node(1, 7, 6), sample.Node(2)}, sample.Edges(1, 1, 2), 3, 3),
		graphOf([]api.Node{sample.Node(1, 7, 6), sample.Node(2)}, sample.Edges(1, 2, 1), 3, 2),
		graphOf([]api.Node{sample.Node(1, 7, 6), sample.Node(2)}, nil, 3, 2),
		graphOf([]api.Node{sample.Node(1), sample.Node(2, 7, 6)}, sample.Edges(1, 1, 2), 3, 2),
		graphOf([]api.Node{sample.Node(2), sample.Node(1, 7, 6)}, sample.Edges(1, 1, 2), 3, 2),
		graphOf([]api.Node{sample.Node(1, 7, 6)}, sample.Edges(1, 1, 2), 3, 2),
		graphOf([]api.Node{sample.Node(1, 7, 6, 7, 6), sample.Node(2)}, sample.Edges(1, 1, 2), 3, 2),
		graphOf([]api.Node{sample.Node(1, 7, 6), sample.Node(2)}, sample.Edges(1, 1, 2, 1, 1, 2), 3, 2),
		graphOf([]api.Node{sample.Node(1, least, greatest)}, sample.Edges(greatest, least, 1), least, greatest),
	} {
		wantReach(t, cfg(), twoSets(), g, nil, api.ErrNone)
	}
}

// P13.2: what is pending may have been done, or not.
func TestReachOfWhatIsPending(t *testing.T) {
	l := join(inTurn(deed{add, id(1)}), pending(0, sample.Set(1, 7, 5), sample.Set(1, 7, 6)), inTurn(deed{sample.Get(2), none}))
	for _, x := range []struct {
		g    api.Graph
		want []int
	}{
		{graphOf([]api.Node{sample.Node(1, 7, 6)}, nil, 2, 1), []int{0, 1, 2, 3}},
		{graphOf([]api.Node{sample.Node(1, 7, 5)}, nil, 2, 1), []int{0, 1, 3}},
		{graphOf([]api.Node{sample.Node(1)}, nil, 2, 1), []int{0, 3}},
	} {
		wantReach(t, cfg(), l, x.g, x.want, api.OK)
	}
	wantReach(t, cfg(), l, graph.New(), nil, api.ErrNone)
}

// P13.2: the graph without nodes, whose numbers are all there, and one that all nodes are gone of.
func TestReachOfTheGraphWithoutNodes(t *testing.T) {
	looks := join(pending(0, add), inTurn(deed{get, none}))
	wantReach(t, cfg(), looks, graph.New(), []int{1}, api.OK)
	wantReach(t, cfg(), looks, api.Graph{Nodes: []api.Node{}, Edges: []api.Edge{}, NextNode: 1, NextEdge: 1}, []int{1}, api.OK)
	wantFirst(t, cfg(), looks, graph.New(), 1)
	gone := join(atOnce(0, deed{add, id(1)}, deed{sample.Drop(1), done}), pending(0, add))
	wantReach(t, cfg(), gone, graph.New(), nil, api.ErrNone)
	wantReach(t, cfg(), gone, graphOf(nil, nil, 2, 1), []int{0, 1}, api.OK)
	wantReach(t, cfg(), inTurn(deed{add, full}), graph.New(), []int{0}, api.OK)
}

// P13.2: numbers as great and as small as an int can be, in operations, results and graphs.
func TestSearchOfGreatNumbers(t *testing.T) {
	l := join(inTurn(deed{add, id(1)}), atOnce(0, deed{sample.Set(1, least, greatest), done}, deed{sample.Set(1, greatest, least), done}, deed{get, api.Result{Pairs: sample.Pairs(greatest, least)}}, deed{sample.Drop(least), none}))
	g := graphOf([]api.Node{sample.Node(1, least, greatest, greatest, least)}, nil, 2, 1)
	wantFirst(t, cfg(), l, g, 0, 2, 3, 1, 4)
	wantReach(t, cfg(), l, graphOf([]api.Node{sample.Node(1, greatest, least)}, nil, 2, 1), nil, api.ErrNone)
	wild := join(pending(0, api.Op{Kind: least, A: greatest}, sample.Get(least), sample.Link(greatest, least)), inTurn(deed{api.Op{Kind: greatest, B: least}, api.Result{Err: api.ErrArg}}))
	wantFirst(t, cfg(), wild, graph.New(), 0, 1, 2, 3)
	for _, r := range []api.Result{{Err: least}, {Err: greatest}, {Id: least}, {Id: greatest}, sample.Result()} {
		wantNone(t, cfg(), inTurn(deed{add, r}), api.ErrNone)
		wantNone(t, cfg(), inTurn(deed{get, r}), api.ErrNone)
	}
}

// Ten calls at once, of which nine change the node that the last one looks at: all their orders were many.
func manyAtOnce(r api.Result) []api.Event {
	l := []deed{{add, id(1)}}
	for i := range 8 {
		l = append(l, deed{sample.Set(1, i%2, i), done})
	}
	return atOnce(0, append(l, deed{get, r})...)
}

// P13.2: of ten calls, with an order and without any; the answer is the first one, however much is not told ahead of it.
func TestSearchOfTenAtOnce(t *testing.T) {
	behind := func(a, b int) api.Graph { return graphOf([]api.Node{sample.Node(1, 0, a, 1, b)}, nil, 2, 1) }
	wantFirst(t, cfg(), manyAtOnce(api.Result{Pairs: sample.Pairs(0, 6, 1, 7)}), behind(6, 7), 0, 1, 2, 3, 4, 5, 6, 7, 8, 9)
	wantFirst(t, cfg(), manyAtOnce(api.Result{Pairs: sample.Pairs(0, 6, 1, 1)}), behind(6, 7), 0, 1, 2, 3, 5, 7, 9, 4, 6, 8)
	wantNone(t, cfg(), manyAtOnce(api.Result{Pairs: sample.Pairs(0, 6, 1, 8)}), api.ErrNone)
	wantReach(t, cfg(), manyAtOnce(none), behind(0, 1), []int{9, 0, 3, 4, 5, 6, 7, 1, 8, 2}, api.OK)
	wantReach(t, cfg(), manyAtOnce(none), behind(0, 2), nil, api.ErrNone)
}
