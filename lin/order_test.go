package lin

import (
	"testing"

	"tendril/api"
	"tendril/graph"
	"tendril/sample"
)

// Two nodes, an edge from 1 to 2, and the property 7 of 1, which was set to 5 and to 6 at the same time.
func twoSets() []api.Event {
	return join(
		inTurn(deed{add, id(1)}, deed{add, id(2)}),
		atOnce(0, deed{sample.Set(1, 7, 5), done}, deed{sample.Set(1, 7, 6), done}, deed{sample.Link(1, 2), id(1)}),
	)
}

func twoSetsTo(v int) api.Graph {
	return graphOf([]api.Node{sample.Node(1, 7, v), sample.Node(2)}, sample.Edges(1, 1, 2), 3, 2)
}

// P13.1: the graph behind each of its orders.
func TestOrder(t *testing.T) {
	for _, x := range []struct {
		v     int
		order []int
	}{
		{6, []int{0, 1, 2, 3, 4}}, {6, []int{0, 1, 2, 4, 3}}, {6, []int{0, 1, 4, 2, 3}},
		{5, []int{0, 1, 3, 2, 4}}, {5, []int{0, 1, 3, 4, 2}}, {5, []int{0, 1, 4, 3, 2}},
	} {
		wantOrder(t, cfg(), twoSets(), x.order, twoSetsTo(x.v), api.OK)
	}
}

// P13.1: the history without events, and the order without numbers.
func TestOrderOfNothing(t *testing.T) {
	for _, l := range [][]api.Event{nil, {}} {
		for _, order := range [][]int{nil, {}} {
			wantOrder(t, cfg(), l, order, graph.New(), api.OK)
		}
		wantNoOrder(t, cfg(), l, 0)
		wantNoOrder(t, cfg(), l, -1)
	}
	wantOrder(t, cfg(), pending(0, add, get, add), nil, graph.New(), api.OK)
	wantNoOrder(t, cfg(), inTurn(deed{add, id(1)}))
	wantNoOrder(t, cfg(), inTurn(deed{add, full}))
}

// P13.1: a number that is no call's, wherever it stands.
func TestOrderOfNoCall(t *testing.T) {
	for _, n := range []int{-1, -2, -5, least, least + 1, 5, 6, 10, 11, 64, 1 << 32, 1<<32 + 2, -1 << 32, 1<<62 + 1, greatest - 1, greatest} {
		wantNoOrder(t, cfg(), twoSets(), n)
		wantNoOrder(t, cfg(), twoSets(), n, 0, 1, 2, 3, 4)
		wantNoOrder(t, cfg(), twoSets(), 0, 1, 2, 3, 4, n)
		for i := range 5 {
			order := []int{0, 1, 2, 3, 4}
			order[i] = n
			wantNoOrder(t, cfg(), twoSets(), order...)
		}
	}
	for _, n := range []int{5, 6, 9, 10} {
		wantNoOrder(t, cfg(), join(twoSets(), pending(20, get)), 0, 1, 2, 3, n, 4)
	}
}

// P13.1: each at most once, also one that changes nothing the second time.
func TestOrderWithACallTwice(t *testing.T) {
	for i := range 5 {
		for at := range 6 {
			order := append([]int{0, 1, 2, 3, 4}[:at:at], append([]int{i}, []int{0, 1, 2, 3, 4}[at:]...)...)
			wantNoOrder(t, cfg(), twoSets(), order...)
		}
	}
	looks := atOnce(0, deed{get, none}, deed{get, none})
	wantOrder(t, cfg(), looks, []int{0, 1}, graph.New(), api.OK)
	wantOrder(t, cfg(), looks, []int{1, 0}, graph.New(), api.OK)
	wantNoOrder(t, cfg(), looks, 0, 0)
	wantNoOrder(t, cfg(), looks, 0, 0, 1)
	wantNoOrder(t, cfg(), looks, 0, 1, 1)
	waits := join(atOnce(0, deed{get, none}), pending(1, get), inTurn(deed{get, none}))
	wantOrder(t, cfg(), waits, []int{0, 1, 2}, graph.New(), api.OK)
	wantNoOrder(t, cfg(), waits, 0, 1, 1, 2)
}

// P13.1: all that have a result are in it.
func TestOrderWithoutACall(t *testing.T) {
	for i := range 5 {
		order := append([]int{0, 1, 2, 3, 4}[:i:i], []int{0, 1, 2, 3, 4}[i+1:]...)
		wantNoOrder(t, cfg(), twoSets(), order...)
	}
	wantNoOrder(t, cfg(), twoSets())
	looks := atOnce(0, deed{get, none}, deed{get, none})
	wantNoOrder(t, cfg(), looks, 0)
	wantNoOrder(t, cfg(), looks, 1)
	wantNoOrder(t, cfg(), inTurn(deed{add, id(1)}, deed{get, done}), 0)
}

// P13.1: no call stands behind one that it is before, though its result would fit there.
func TestOrderNotInTime(t *testing.T) {
	looks := inTurn(deed{get, none}, deed{get, none}, deed{get, none})
	wantOrder(t, cfg(), looks, []int{0, 1, 2}, graph.New(), api.OK)
	for _, order := range [][]int{{0, 2, 1}, {1, 0, 2}, {1, 2, 0}, {2, 0, 1}, {2, 1, 0}} {
		wantNoOrder(t, cfg(), looks, order...)
	}
	// 0 and 1 overlap, so do 1 and 2, and 0 is before 2
	chain := []api.Event{sample.Called(0, get), sample.Called(1, get), sample.Came(0, get, none), sample.Called(2, get), sample.Came(1, get, none), sample.Came(2, get, none)}
	for _, order := range [][]int{{0, 1, 2}, {0, 2, 1}, {1, 0, 2}} {
		wantOrder(t, cfg(), chain, order, graph.New(), api.OK)
	}
	for _, order := range [][]int{{1, 2, 0}, {2, 0, 1}, {2, 1, 0}} {
		wantNoOrder(t, cfg(), chain, order...)
	}
	// the place at which one came to its result is the other one's, or the one ahead of it
	meets := []api.Event{sample.Called(0, get), sample.Called(1, get), sample.Came(1, get, none), sample.Came(0, get, none)}
	wantOrder(t, cfg(), meets, []int{1, 0}, graph.New(), api.OK)
	wantOrder(t, cfg(), meets, []int{0, 1}, graph.New(), api.OK)
	// one that is pending, too, stands behind those that are before it
	late := join(inTurn(deed{get, none}), atOnce(0, deed{get, none})[:1], pending(1, get), []api.Event{sample.Came(0, get, none)})
	wantOrder(t, cfg(), late, []int{0, 2, 1}, graph.New(), api.OK)
	wantNoOrder(t, cfg(), late, 2, 0, 1)
}

// P13.1: each that has a result fits it.
func TestOrderThatDoesNotFit(t *testing.T) {
	two := atOnce(0, deed{add, id(2)}, deed{add, id(1)})
	wantOrder(t, cfg(), two, []int{1, 0}, graphOf([]api.Node{sample.Node(1), sample.Node(2)}, nil, 3, 1), api.OK)
	wantNoOrder(t, cfg(), two, 0, 1)
	for _, r := range sample.Others(id(1)) {
		if text(r) != text(full) {
			wantNoOrder(t, cfg(), inTurn(deed{add, r}), 0)
		}
	}
	fits := api.Result{Pairs: sample.Pairs(3, 4, 7, 8)}
	sets := []deed{{add, id(1)}, {sample.Set(1, 7, 8), done}, {sample.Set(1, 3, 4), done}}
	wantOrder(t, cfg(), inTurn(append(sets, deed{get, fits})...), []int{0, 1, 2, 3}, graphOf([]api.Node{sample.Node(1, 3, 4, 7, 8)}, nil, 2, 1), api.OK)
	for _, r := range append(sample.Others(fits), full) {
		wantNoOrder(t, cfg(), inTurn(append(sets, deed{get, r})...), 0, 1, 2, 3)
	}
	// what does not fit stands at the end, or in the middle
	wantNoOrder(t, cfg(), inTurn(deed{add, id(1)}, deed{get, none}), 0, 1)
	wantNoOrder(t, cfg(), inTurn(deed{get, done}, deed{add, id(1)}), 0, 1)
	wantNoOrder(t, cfg(), inTurn(deed{add, id(1)}, deed{get, none}, deed{get, done}), 0, 1, 2)
}

// P13.1: one that is pending changes the graph, wherever it stands, but it is not the last one.
func TestOrderWithWhatIsPending(t *testing.T) {
	l := join(inTurn(deed{add, id(1)}), pending(0, sample.Set(1, 7, 5), add), inTurn(deed{add, id(2)}))
	wantOrder(t, cfg(), l, []int{0, 3}, graphOf([]api.Node{sample.Node(1), sample.Node(2)}, nil, 3, 1), api.OK)
	wantOrder(t, cfg(), l, []int{0, 1, 3}, graphOf([]api.Node{sample.Node(1, 7, 5), sample.Node(2)}, nil, 3, 1), api.OK)
	wantNoOrder(t, cfg(), l, 0, 2, 3)    // 2 was given, so 3 is
	wantNoOrder(t, cfg(), l, 0, 2, 1, 3) // likewise
	wantNoOrder(t, cfg(), l, 0, 3, 1)
	wantNoOrder(t, cfg(), l, 0, 3, 2)
	wantNoOrder(t, cfg(), l, 0, 1, 3, 2)
	wantNoOrder(t, cfg(), l, 1, 3)
	wantNoOrder(t, cfg(), l, 0, 1)
	wantNoOrder(t, cfg(), pending(0, add), 0)
	wantNoOrder(t, cfg(), pending(0, add, get), 0, 1)
}

// P13.1: one that is pending and comes to an error leaves the graph.
func TestOrderWithAPendingError(t *testing.T) {
	one := graphOf([]api.Node{sample.Node(1)}, nil, 2, 1)
	for _, o := range []api.Op{sample.Link(1, 2), sample.Cut(1), sample.Set(2, 1, 1), sample.Del(1, 1), sample.Get(3), sample.Near(0), sample.Drop(greatest), sample.Fuse(1, 1), sample.Fuse(1, 2), {}, {Kind: 10, A: 1}, {Kind: least}} {
		l := join(pending(0, o), inTurn(deed{add, id(1)}, deed{get, done}))
		for _, order := range [][]int{{0, 1, 2}, {1, 0, 2}, {1, 2}} {
			wantOrder(t, cfg(), l, order, one, api.OK)
		}
		wantFirst(t, cfg(), l, one, 0, 1, 2)
	}
	c := cfg()
	c.Ids = 1
	wantOrder(t, c, join(pending(0, add), inTurn(deed{add, id(1)}, deed{get, done})), []int{1, 0, 2}, one, api.OK)
}

// P13.1: that it is full is told by what takes a record, and leaves the graph.
func TestOrderOfWhatIsFull(t *testing.T) {
	one := graphOf([]api.Node{sample.Node(1)}, nil, 2, 1)
	for _, o := range []api.Op{add, sample.Link(1, 1), sample.Set(1, 7, 5)} {
		wantOrder(t, cfg(), inTurn(deed{add, id(1)}, deed{o, full}), []int{0, 1}, one, api.OK)
		wantFirst(t, cfg(), inTurn(deed{add, id(1)}, deed{o, full}), one, 0, 1)
		wantNoOrder(t, cfg(), inTurn(deed{add, id(1)}, deed{o, api.Result{Err: api.ErrFull, Id: 1}}), 0, 1)
	}
	wantOrder(t, cfg(), inTurn(deed{add, full}, deed{add, full}, deed{add, id(1)}), []int{0, 1, 2}, one, api.OK)
	for _, o := range []api.Op{get, sample.Near(1), sample.Drop(1), sample.Del(1, 7), sample.Cut(1), sample.Link(1, 2), sample.Set(2, 7, 5), sample.Fuse(1, 2), {}, {Kind: 10}} {
		wantNoOrder(t, cfg(), inTurn(deed{add, id(1)}, deed{o, full}), 0, 1)
		wantNone(t, cfg(), inTurn(deed{add, id(1)}, deed{o, full}), api.ErrNone)
	}
	// a property that there is already takes none
	again := inTurn(deed{add, id(1)}, deed{sample.Set(1, 7, 5), done}, deed{sample.Set(1, 7, 6), full})
	wantNoOrder(t, cfg(), again, 0, 1, 2)
	c := cfg()
	c.Ids, c.EdgeIds = 1, 1
	wantNoOrder(t, c, inTurn(deed{add, id(1)}, deed{add, full}), 0, 1)
	wantNoOrder(t, c, inTurn(deed{add, id(1)}, deed{sample.Link(1, 1), id(1)}, deed{sample.Link(1, 1), full}), 0, 1, 2)
}

// P13.1: how many records there are is asked of nobody but whom it concerns.
func TestOrderBeyondTheRecords(t *testing.T) {
	c := api.Cfg{Nodes: 1, Edges: 1, Props: 1, Ids: 3, EdgeIds: 3}
	l := inTurn(deed{add, id(1)}, deed{add, id(2)}, deed{sample.Link(2, 1), id(1)}, deed{sample.Link(2, 1), id(2)}, deed{sample.Set(1, 1, 1), done}, deed{sample.Set(1, 2, 2), done})
	wantFirst(t, c, l, graphOf([]api.Node{sample.Node(1, 1, 1, 2, 2), sample.Node(2)}, sample.Edges(1, 2, 1, 2, 2, 1), 3, 3), 0, 1, 2, 3, 4, 5)
}

// P13.1: the numbers that there are of nodes, and of edges.
func TestOrderToTheLastNumber(t *testing.T) {
	c := api.Cfg{Nodes: 9, Edges: 9, Props: 9, Ids: 2, EdgeIds: 1}
	ids := api.Result{Err: api.ErrIds}
	two := graphOf([]api.Node{sample.Node(1), sample.Node(2)}, sample.Edges(1, 1, 2), 3, 2)
	wantFirst(t, c, inTurn(deed{add, id(1)}, deed{add, id(2)}, deed{add, ids}, deed{sample.Link(1, 2), id(1)}, deed{sample.Link(1, 2), ids}), two, 0, 1, 2, 3, 4)
	wantFirst(t, c, atOnce(0, deed{add, ids}, deed{add, id(2)}, deed{add, id(1)}), graphOf([]api.Node{sample.Node(1), sample.Node(2)}, nil, 3, 1), 2, 1, 0)
	wantNone(t, c, inTurn(deed{add, ids}), api.ErrNone)
	wantNone(t, c, inTurn(deed{add, id(1)}, deed{add, id(2)}, deed{add, id(3)}), api.ErrNone)
}

// P13.1, at each kind: done one behind the other, and the graph behind it.
func TestOrderOfEachKind(t *testing.T) {
	l := inTurn(
		deed{add, id(1)}, deed{add, id(2)}, deed{sample.Link(1, 2), id(1)}, deed{sample.Link(2, 2), id(2)}, deed{sample.Set(2, least, greatest), done},
		deed{sample.Near(2), api.Result{Out: sample.Ends(2, 2), In: sample.Ends(1, 1, 2, 2)}}, deed{sample.Cut(1), done}, deed{sample.Fuse(1, 2), done}, deed{sample.Get(1), api.Result{Pairs: sample.Pairs(least, greatest)}}, deed{sample.Get(2), none},
	)
	wantFirst(t, cfg(), l, graphOf([]api.Node{sample.Node(1, least, greatest)}, sample.Edges(2, 1, 1), 3, 3), 0, 1, 2, 3, 4, 5, 6, 7, 8, 9)
	wantFirst(t, cfg(), inTurn(deed{add, id(1)}, deed{sample.Set(1, 3, 4), done}, deed{sample.Del(1, 3), done}, deed{sample.Drop(1), done}, deed{api.Op{Kind: 10}, api.Result{Err: api.ErrArg}}), graphOf(nil, nil, 2, 1), 0, 1, 2, 3, 4)
}
