package lin

import (
	"fmt"
	"math"
	"testing"

	"tendril/api"
	"tendril/graph"
	"tendril/sample"
)

const (
	least    = math.MinInt
	greatest = math.MaxInt
)

var (
	add  = sample.Add()
	get  = sample.Get(1)
	done = api.Result{}
	full = api.Result{Err: api.ErrFull}
	none = api.Result{Err: api.ErrNone}
)

// Two values that are not the same do not read the same, as all in them are numbers and bools; lists without elements do, nil or empty.
func text(x ...any) string {
	return fmt.Sprint(x...)
}

func cfg() api.Cfg {
	return api.Cfg{Nodes: 4, Edges: 4, Props: 4, Ids: 4, EdgeIds: 4}
}

func id(n int) api.Result {
	return api.Result{Id: n}
}

// deed is an operation, and what it came to.
type deed struct {
	o api.Op
	r api.Result
}

// One thread did all, one behind the other.
func inTurn(l ...deed) []api.Event {
	var told []api.Event
	for _, d := range l {
		told = append(told, sample.Called(9, d.o), sample.Came(9, d.o, d.r))
	}
	return told
}

// A thread each, from so many on: all called in order, and came to their results in that order.
func atOnce(from int, l ...deed) []api.Event {
	var told []api.Event
	for i, d := range l {
		told = append(told, sample.Called(from+i, d.o))
	}
	for i, d := range l {
		told = append(told, sample.Came(from+i, d.o, d.r))
	}
	return told
}

// A thread each, from so many on: these come to nothing.
func pending(from int, l ...api.Op) []api.Event {
	var told []api.Event
	for i, o := range l {
		told = append(told, sample.Called(from+i, o))
	}
	return told
}

func join(l ...[]api.Event) []api.Event {
	var told []api.Event
	for _, x := range l {
		told = append(told, x...)
	}
	return told
}

func graphOf(nodes []api.Node, edges []api.Edge, nextNode, nextEdge int) api.Graph {
	return api.Graph{Nodes: nodes, Edges: edges, NextNode: nextNode, NextEdge: nextEdge}
}

func wantOrder(t *testing.T, c api.Cfg, l []api.Event, order []int, want api.Graph, errno api.Errno) {
	t.Helper()
	if g, e := Order(c, l, order); e != errno || !graph.Same(g, want) {
		t.Errorf("Order of %v by %v is %v, %d; want %v, %d", l, order, g, e, want, errno)
	}
}

func wantNoOrder(t *testing.T, c api.Cfg, l []api.Event, order ...int) {
	t.Helper()
	wantOrder(t, c, l, order, api.Graph{}, api.ErrNone)
}

func wantReach(t *testing.T, c api.Cfg, l []api.Event, g api.Graph, want []int, errno api.Errno) {
	t.Helper()
	if order, e := Reach(c, l, g); e != errno || text(order) != text(want) {
		t.Errorf("Reach of %v to %v is %v, %d; want %v, %d", l, g, order, e, want, errno)
	}
}

// The first order, and the graph behind it, by all calls.
func wantFirst(t *testing.T, c api.Cfg, l []api.Event, g api.Graph, want ...int) {
	t.Helper()
	if order, h, e := Search(c, l); e != api.OK || text(order) != text(want) || text(h) != text(g) {
		t.Errorf("Search of %v is %v, %v, %d; want %v, %v", l, order, h, e, want, g)
	}
	wantOrder(t, c, l, want, g, api.OK)
	wantReach(t, c, l, g, want, api.OK)
}

// Search tells that there is no order; with an error all else is zero.
func wantNone(t *testing.T, c api.Cfg, l []api.Event, errno api.Errno) {
	t.Helper()
	if order, g, e := Search(c, l); e != errno || len(order) != 0 || text(g) != text(api.Graph{}) {
		t.Errorf("Search of %v is %v, %v, %d; want %d", l, order, g, e, errno)
	}
}

// All calls tell ErrArg, whatever the order and the graph.
func wantArg(t *testing.T, c api.Cfg, l []api.Event) {
	t.Helper()
	wantNone(t, c, l, api.ErrArg)
	for _, order := range [][]int{nil, {}, {0}, {0, 1}, {-1}, {0, 0}, {least}, {greatest, least}} {
		wantOrder(t, c, l, order, api.Graph{}, api.ErrArg)
	}
	for _, g := range []api.Graph{{}, {NextNode: 1, NextEdge: 1}, {NextNode: greatest}} {
		wantReach(t, c, l, g, nil, api.ErrArg)
	}
}
