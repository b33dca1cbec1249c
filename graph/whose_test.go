package graph

import (
	"fmt"
	"testing"

	"tendril/api"
	"tendril/sample"
)

// told is all that a call answers, whatever it is.
type told struct {
	g       api.Graph
	id      int
	pairs   []api.Pair
	out, in []api.End
	e       api.Errno
}

// Calls of each kind that change a graph, that leave it as it is, and that have an error.
func someCalls(c api.Cfg) map[string]func(g api.Graph) told {
	calls := map[string]func(g api.Graph) told{
		"Check": func(g api.Graph) (x told) { x.e = Check(c, g); return },
		"Same":  func(g api.Graph) (x told) { Same(g, mixed()); Same(mixed(), g); Same(g, g); return },
		"Add":   func(g api.Graph) (x told) { x.g, x.id, x.e = Add(c, g); return },
	}
	for _, n := range []int{0, 1, 2, 4, 6, 7, 10, least, greatest} {
		calls[fmt.Sprint("Cut ", n)] = func(g api.Graph) (x told) { x.g, x.e = Cut(g, n); return }
		calls[fmt.Sprint("Get ", n)] = func(g api.Graph) (x told) { x.pairs, x.e = Get(g, n); return }
		calls[fmt.Sprint("Near ", n)] = func(g api.Graph) (x told) { x.out, x.in, x.e = Near(g, n); return }
		calls[fmt.Sprint("Drop ", n)] = func(g api.Graph) (x told) { x.g, x.e = Drop(g, n); return }
		for _, m := range []int{0, 1, 2, 4, 9, least, greatest} {
			calls[fmt.Sprint("Link ", n, m)] = func(g api.Graph) (x told) { x.g, x.id, x.e = Link(c, g, n, m); return }
			calls[fmt.Sprint("Set ", n, m)] = func(g api.Graph) (x told) { x.g, x.e = Set(g, n, m, 5); return }
			calls[fmt.Sprint("Del ", n, m)] = func(g api.Graph) (x told) { x.g, x.e = Del(g, n, m); return }
			calls[fmt.Sprint("Fuse ", n, m)] = func(g api.Graph) (x told) { x.g, x.e = Fuse(g, n, m); return }
		}
	}
	return calls
}

func copiedTold(x told) told {
	x.g = sample.CopiedGraph(x.g)
	x.pairs = append([]api.Pair{}, x.pairs...)
	x.out, x.in = append([]api.End{}, x.out...), append([]api.End{}, x.in...)
	return x
}

func wantSameTold(t *testing.T, what string, got, want told) {
	t.Helper()
	wantGraph(t, what, got.g, want.g)
	if fmt.Sprint(got.id, got.pairs, got.out, got.in, got.e) != fmt.Sprint(want.id, want.pairs, want.out, want.in, want.e) {
		t.Errorf("%s is %v; want %v", what, got, want)
	}
}

// R2: what is handed in reads as it did before, and so does what stands behind its lists.
func TestWhatIsHandedInStays(t *testing.T) {
	for what, call := range someCalls(mixedCfg()) {
		g := sample.RoomyGraph(mixed())
		was := sample.WholeGraph(g)
		call(g)
		wantGraph(t, "what was handed in to "+what, sample.WholeGraph(g), was)
	}
}

// R2: what was told does not change when the argument is written into later, nor the other way round.
func TestWhatIsToldIsNew(t *testing.T) {
	for what, call := range someCalls(mixedCfg()) {
		g := sample.RoomyGraph(mixed())
		got := call(g)
		was := copiedTold(got)
		sample.SpoilGraph(g)
		wantSameTold(t, what+", behind a write into the graph", got, was)
		g = sample.RoomyGraph(mixed())
		wasG := sample.WholeGraph(g)
		got = call(g)
		sample.SpoilGraph(got.g)
		sample.Spoil(got.pairs, api.Pair{K: -88, V: -88})
		sample.Spoil(got.out, api.End{Edge: -88, Node: -88})
		sample.Spoil(got.in, api.End{Edge: -88, Node: -88})
		wantGraph(t, "the graph, behind a write into what was told of "+what, sample.WholeGraph(g), wasG)
	}
}

// R2: of what is told each list has memory of its own, also if nodes that are handed in share theirs.
func TestListsOfAnAnswerShareNone(t *testing.T) {
	shared := sample.Pairs(1, 1, 2, 2, 3, 3)
	g := mixed()
	for i := range g.Nodes {
		g.Nodes[i].Pairs = shared[:2]
	}
	for what, call := range someCalls(mixedCfg()) {
		count := len(call(g).g.Nodes)
		for i := range count {
			got := call(g)
			was := sample.CopiedGraph(got.g)
			sample.Spoil(got.g.Nodes[i].Pairs, api.Pair{K: -88, V: -88})
			got.g.Nodes[i], was.Nodes[i] = api.Node{}, api.Node{}
			wantGraph(t, what+", behind a write into one of its lists", got.g, was)
		}
	}
	out, in, _ := Near(api.Graph{Nodes: []api.Node{sample.Node(1)}, Edges: sample.Edges(1, 1, 1, 2, 1, 1), NextNode: 2, NextEdge: 3}, 1)
	sample.Spoil(out, api.End{Edge: -88, Node: -88})
	if fmt.Sprint(in) != fmt.Sprint(sample.Ends(1, 1, 2, 1)) {
		t.Errorf("edges to a node are %v, behind a write into those from it", in)
	}
}

// R2: what one call told another one does not change.
func TestWhatIsToldTwiceIsNotShared(t *testing.T) {
	for what, call := range someCalls(mixedCfg()) {
		g := sample.RoomyGraph(mixed())
		first, second := call(g), call(g)
		was := copiedTold(first)
		wantSameTold(t, what+", told again", second, was)
		sample.SpoilGraph(first.g)
		sample.Spoil(first.pairs, api.Pair{K: -88, V: -88})
		sample.Spoil(first.out, api.End{Edge: -88, Node: -88})
		sample.Spoil(first.in, api.End{Edge: -88, Node: -88})
		wantSameTold(t, what+", told again and kept", second, was)
	}
}

// Graphs that may not be, in all kinds of ways.
func wildGraphs() []api.Graph {
	long := api.Graph{NextNode: greatest, NextEdge: greatest}
	for i := range 300 {
		long.Nodes = append(long.Nodes, sample.Node(-i, i, i, i, 1, -i, 2))
		long.Edges = append(long.Edges, api.Edge{Id: i % 7, From: -i, To: i})
	}
	return []api.Graph{
		{}, {NextNode: greatest, NextEdge: greatest}, {NextNode: least, NextEdge: least}, {NextNode: -1, NextEdge: 70}, long,
		{Nodes: []api.Node{{}, {}, {}}, Edges: []api.Edge{{}, {}}},
		{Nodes: []api.Node{sample.Node(4, 9, 9, 9, 9, 1, 1), sample.Node(1, 4, 4), sample.Node(4), sample.Node(1, 4, 4, 4, 4), sample.Node(2, least, 0, least, 0)}, Edges: sample.Edges(4, 1, 1, 4, 2, 4, 1, 4, 1, 10, 9, 9), NextNode: 2, NextEdge: 1},
		{Nodes: []api.Node{sample.Node(greatest, 1, 1), sample.Node(least, 1, 1), sample.Node(greatest)}, Edges: sample.Edges(greatest, least, greatest, least, greatest, least, 0, 0, 0), NextNode: greatest, NextEdge: least},
		{Edges: sample.Edges(1, 1, 2, 2, 2, 1), NextNode: 3, NextEdge: 3},
	}
}

// R1, R2: of a graph that may not be all calls end, and leave it as it is; so they do of a configuration that may not be.
func TestWildGraphs(t *testing.T) {
	for _, c := range []api.Cfg{mixedCfg(), {}, {Ids: greatest, EdgeIds: greatest}, {Nodes: least, Edges: least, Props: least, Ids: least, EdgeIds: least}} {
		for what, call := range someCalls(c) {
			for _, g := range append(wildGraphs(), mixed(), New()) {
				was := sample.CopiedGraph(g)
				first := call(g)
				wantSameTold(t, what+" of what may not be, once more", call(g), first)
				wantGraph(t, "what may not be, handed in to "+what, g, was)
			}
		}
	}
	for _, g := range wildGraphs() {
		wantErrno(t, "Check of what may not be", Check(fullCfg(), g), api.ErrArg)
		wantSame(t, "what may not be, and a copy", g, sample.CopiedGraph(g), true)
	}
}
