package lin

import (
	"slices"
	"testing"

	"tendril/api"
	"tendril/apply"
	"tendril/graph"
	"tendril/hist"
)

// Whether a list is an order of these calls, in the chapter's words, and the graph behind it.
func meant(c api.Cfg, calls []api.Call, l []int) (api.Graph, bool) {
	if !complete(calls, l) || !inTime(calls, l) {
		return api.Graph{}, false
	}
	g := graph.New()
	for _, i := range l {
		if calls[i].To == -1 {
			g, _ = apply.Do(c, g, calls[i].Op)
			continue
		}
		h, ok := apply.Fits(c, g, calls[i].Op, calls[i].Result)
		if !ok {
			return api.Graph{}, false
		}
		g = h
	}
	return g, true
}

// Numbers of calls, each at most once, in which all that have a result are, and the last one has one.
func complete(calls []api.Call, l []int) bool {
	times := make([]int, len(calls))
	for _, i := range l {
		if i < 0 || i >= len(calls) {
			return false
		}
		times[i]++
	}
	for i, n := range times {
		if n > 1 || n == 0 && calls[i].To >= 0 {
			return false
		}
	}
	return len(l) == 0 || calls[l[len(l)-1]].To >= 0
}

// No call stands behind one that it is before.
func inTime(calls []api.Call, l []int) bool {
	for at, i := range l {
		for _, k := range l[:at] {
			if hist.Before(calls[i], calls[k]) {
				return false
			}
		}
	}
	return true
}

// Is one list ahead of another one? At the first place at which they are not the same it has the lesser number, or it is the other one's beginning.
func ahead(a, b []int) int {
	for i := range a {
		if i == len(b) {
			return 1
		}
		if a[i] != b[i] {
			return a[i] - b[i]
		}
	}
	return len(a) - len(b)
}

// All lists of numbers below n, each at most once; the ones that are ahead come first.
func lists(n int) [][]int {
	told := [][]int{{}}
	for at := 0; at < len(told); at++ {
		for i := range n {
			if !slices.Contains(told[at], i) {
				told = append(told, append(slices.Clone(told[at]), i))
			}
		}
	}
	slices.SortFunc(told, ahead)
	return told
}

// Of some numbers of calls all lists: they are made once.
var listsOf [7][][]int

func init() {
	for n := range listsOf {
		listsOf[n] = lists(n)
	}
}

// wantAsMeant holds all calls against the chapter's words, and tells how many orders there are.
func wantAsMeant(t *testing.T, c api.Cfg, l []api.Event) int {
	t.Helper()
	calls, e := hist.Calls(l)
	if e != api.OK {
		t.Fatalf("%v may not be", l)
	}
	var orders [][]int
	var graphs []api.Graph
	first := map[string][]int{} // by graph
	for _, order := range listsOf[len(calls)] {
		g, ok := meant(c, calls, order)
		if !ok {
			wantNoOrder(t, c, l, order...)
			continue
		}
		wantOrder(t, c, l, order, g, api.OK)
		orders, graphs = append(orders, order), append(graphs, g)
		if _, ok := first[text(g)]; !ok {
			first[text(g)] = order
			wantReach(t, c, l, g, order, api.OK)
		}
	}
	if len(orders) == 0 {
		wantNone(t, c, l, api.ErrNone)
	} else {
		wantFirst(t, c, l, graphs[0], orders[0]...)
	}
	for _, g := range append(others(graphs), graph.New(), api.Graph{}) {
		if _, ok := first[text(g)]; !ok {
			wantReach(t, c, l, g, nil, api.ErrNone)
		}
	}
	return len(orders)
}

// Graphs that are not quite one of these, or not at all, if there are none.
func others(l []api.Graph) []api.Graph {
	if len(l) == 0 {
		return nil
	}
	g, h := l[0], l[len(l)-1]
	g.NextNode++
	h.Nodes, h.NextEdge = append([]api.Node{{Id: least}}, h.Nodes...), greatest
	return []api.Graph{g, h}
}
