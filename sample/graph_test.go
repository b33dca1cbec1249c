package sample

import (
	"fmt"
	"testing"

	"tendril/api"
)

func someGraph() api.Graph {
	return api.Graph{Nodes: []api.Node{Node(1, 5, 6), Node(3), Node(4, 1, 2, 3, 4)}, Edges: Edges(1, 1, 3, 7, 4, 4), NextNode: 5, NextEdge: 9}
}

func someHistory() []api.Event {
	return []api.Event{Called(1, Add()), Called(2, Get(1)), Came(2, Get(1), Result()), Came(1, Add(), api.Result{Id: 1})}
}

// A graph with room reads as the graph does, and the room is seen where it should be, also when it is written into.
func TestGraphs(t *testing.T) {
	was := fmt.Sprint(someGraph())
	g := RoomyGraph(someGraph())
	whole, copied := WholeGraph(g), CopiedGraph(g)
	if fmt.Sprint(g) != was || len(whole.Nodes) < 6 || len(whole.Edges) < 5 || len(whole.Nodes[1].Pairs) < 3 || whole.Nodes[0].Pairs[1].K != 77 || whole.Nodes[3].Id != 77 {
		t.Errorf("with room it is %v, %v", g, whole)
	}
	all := fmt.Sprint(whole)
	SpoilGraph(g)
	if fmt.Sprint(whole) != all || fmt.Sprint(copied) != was {
		t.Errorf("behind a write into the graph: %v, %v", whole, copied)
	}
	if x := WholeGraph(g); g.Nodes[0].Id != -88 || x.Nodes[5].Id != -88 || x.Edges[0].From != -88 || x.Edges[4].Id != -88 {
		t.Errorf("spoilt it is %v", x)
	}
	g = RoomyGraph(someGraph())
	own := g.Nodes[2].Pairs
	SpoilGraph(g)
	if own[:5][0].K != -88 || own[:5][4].V != -88 {
		t.Errorf("spoilt the properties are %v", own[:5])
	}
}

// So is a history.
func TestHistories(t *testing.T) {
	was := fmt.Sprint(someHistory())
	l := RoomyHistory(someHistory())
	whole := WholeHistory(l)
	if fmt.Sprint(l) != was || len(whole) < 7 || whole[4].Thread != 77 || len(whole[2].Result.Pairs) < 5 || len(whole[0].Result.In) < 3 {
		t.Errorf("with room it is %v, %v", l, whole)
	}
	all, own := fmt.Sprint(whole), l[2].Result
	SpoilHistory(l)
	if fmt.Sprint(whole) != all {
		t.Errorf("behind a write into the history: %v; want %s", whole, all)
	}
	if x := WholeHistory(l); x[0].Thread != -88 || x[6].Thread != -88 || own.Pairs[:5][4].K != -88 || own.Out[0].Edge != -88 {
		t.Errorf("spoilt it is %v, %v", x, own)
	}
}

// The operations are of nine kinds.
func TestOperations(t *testing.T) {
	for i, o := range []api.Op{Add(), Link(7, 8), Cut(7), Set(7, 8, 9), Del(7, 8), Get(7), Near(7), Drop(7), Fuse(7, 8)} {
		if o.Kind != i+1 || o.Kind != api.AddO && o.A != 7 {
			t.Errorf("the operation %d is %v", i, o)
		}
	}
	if Link(1, 2).B != 2 || Fuse(1, 2).B != 2 || Set(1, 2, 3) != (api.Op{Kind: api.SetO, A: 1, K: 2, V: 3}) || Del(1, 2).K != 2 {
		t.Errorf("%v, %v, %v, %v", Link(1, 2), Fuse(1, 2), Set(1, 2, 3), Del(1, 2))
	}
}
