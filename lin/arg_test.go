package lin

import (
	"testing"

	"tendril/api"
	"tendril/graph"
	"tendril/sample"
)

func wrongCfgs() []api.Cfg {
	told := []api.Cfg{{}, {Nodes: least, Edges: least, Props: least, Ids: least, EdgeIds: least}, {Nodes: greatest, Edges: greatest, Props: greatest, Ids: greatest, EdgeIds: greatest}}
	for i := range 5 {
		for _, n := range []int{0, -1, 65, 66, 1 << 32, 1<<32 + 1, -1<<32 + 1, least, least + 1, greatest - 1, greatest} {
			c := cfg()
			*[]*int{&c.Nodes, &c.Edges, &c.Props, &c.Ids, &c.EdgeIds}[i] = n
			told = append(told, c)
		}
	}
	return told
}

func wrongHistories() [][]api.Event {
	two := inTurn(deed{add, id(1)}, deed{get, none})
	return [][]api.Event{
		{sample.Came(0, add, id(1))},
		{sample.Came(0, add, done)},
		{sample.Called(-1, add)},
		{sample.Called(64, add)},
		{sample.Called(least, add), sample.Came(least, add, id(1))},
		{sample.Called(greatest, add)},
		{sample.Called(0, add), sample.Called(0, add)},
		{sample.Called(0, add), sample.Came(1, add, id(1))},
		{sample.Called(0, add), sample.Came(0, get, id(1))},
		{sample.Called(0, add), sample.Came(0, add, id(1)), sample.Came(0, add, id(1))},
		{{Op: add, Result: id(1)}},
		append(two, sample.Came(9, get, none)),
		append(two, api.Event{Op: get, Result: none}),
		two[1:],
	}
}

// So many calls at once, which come to nothing; each has an order.
func waiting(n int) []api.Event {
	var told []api.Event
	for i := range n {
		told = append(told, sample.Called(i, get))
	}
	return told
}

// So many calls of one thread.
func looking(n int) []api.Event {
	var l []deed
	for range n {
		l = append(l, deed{get, none})
	}
	return inTurn(l...)
}

func upTo(n int) []int {
	var told []int
	for i := range n {
		told = append(told, i)
	}
	return told
}

// ErrArg of a configuration that may not be, whatever the history.
func TestConfigurationsThatMayNotBe(t *testing.T) {
	for _, c := range wrongCfgs() {
		for _, l := range [][]api.Event{nil, {}, inTurn(deed{add, id(1)}), inTurn(deed{get, done}), pending(0, add)} {
			wantArg(t, c, l)
		}
	}
	for _, n := range []int{1, 2, 63, 64} {
		for i := range 5 {
			c := cfg()
			*[]*int{&c.Nodes, &c.Edges, &c.Props, &c.Ids, &c.EdgeIds}[i] = n
			wantFirst(t, c, inTurn(deed{add, id(1)}, deed{sample.Link(1, 1), id(1)}), graphOf([]api.Node{sample.Node(1)}, sample.Edges(1, 1, 1), 2, 2), 0, 1)
		}
	}
}

// ErrArg of a history that may not be, whatever it would be without what is wrong.
func TestHistoriesThatMayNotBe(t *testing.T) {
	for _, l := range wrongHistories() {
		wantArg(t, cfg(), l)
	}
}

// ErrArg of more than ten calls, pending or not; of ten there is an order.
func TestHowManyCalls(t *testing.T) {
	wantFirst(t, cfg(), looking(9), graph.New(), upTo(9)...)
	wantFirst(t, cfg(), looking(10), graph.New(), upTo(10)...)
	wantFirst(t, cfg(), waiting(10), graph.New())
	wantFirst(t, cfg(), append(looking(9), sample.Called(9, add)), graph.New(), upTo(9)...)
	wantFirst(t, cfg(), join(waiting(8), looking(2)), graph.New(), upTo(10)...)
	for _, l := range [][]api.Event{
		looking(11), looking(12), looking(100), looking(1000), waiting(11), waiting(63), waiting(64),
		append(looking(10), sample.Called(9, get)), append(waiting(9), looking(2)...), append(looking(1), waiting(9)[1:]...),
	} {
		calls := 0
		for _, e := range l {
			if !e.Done {
				calls++
			}
		}
		if calls > 10 {
			wantArg(t, cfg(), l)
			wantOrder(t, cfg(), l, upTo(calls), api.Graph{}, api.ErrArg)
		} else {
			wantOrder(t, cfg(), l, upTo(1), graph.New(), api.OK)
		}
	}
	wantNone(t, cfg(), append(looking(9), inTurn(deed{get, done})...), api.ErrNone)
	wantNone(t, cfg(), append(looking(10), inTurn(deed{get, done})...), api.ErrArg)
}

// Several of these at once are ErrArg, too, and none of them is ErrNone.
func TestSeveralErrors(t *testing.T) {
	for _, c := range []api.Cfg{cfg(), {}, {Nodes: 65, Edges: 1, Props: 1, Ids: 1, EdgeIds: 1}} {
		for _, l := range append(wrongHistories(), looking(11), append(looking(11), sample.Came(9, get, none)), append(waiting(20), sample.Called(64, add))) {
			wantArg(t, c, l)
			wantArg(t, c, append(looking(11), l...))
		}
	}
}

// P13.2: of a graph that may not be, or not for this configuration, it is asked alike.
func TestReachOfGraphsThatMayNotBe(t *testing.T) {
	l := inTurn(deed{add, id(1)}, deed{add, id(2)})
	for _, g := range []api.Graph{
		{}, {NextNode: 3}, {NextNode: least, NextEdge: greatest}, {Nodes: []api.Node{{}, {}}, NextNode: 3, NextEdge: 1},
		{Nodes: []api.Node{{Id: 2}, {Id: 1}}, NextNode: 3, NextEdge: 1}, {Nodes: []api.Node{{Id: 1}, {Id: 1}}, NextNode: 3, NextEdge: 1},
		{Nodes: []api.Node{{Id: 1}, {Id: 2}}, Edges: sample.Edges(0, 0, 0), NextNode: 3, NextEdge: 1}, {Nodes: []api.Node{{Id: 1}, {Id: 2, Pairs: sample.Pairs(1, 1, 1, 1)}}, NextNode: 3, NextEdge: 1},
	} {
		wantReach(t, cfg(), l, g, nil, api.ErrNone)
	}
	// one node more than there are records for
	c := cfg()
	c.Nodes = 1
	wantReach(t, c, l, graphOf([]api.Node{sample.Node(1), sample.Node(2)}, nil, 3, 1), []int{0, 1}, api.OK)
}
