package apply

import (
	"testing"

	"tendril/api"
	"tendril/graph"
	"tendril/sample"
)

// told is what a call answers, whichever it is.
type told struct {
	g  api.Graph
	r  []api.Result
	ok bool
	n  int
}

// Each call that takes a graph and an operation; what fits, what does not, and that it is full.
func someCalls(c api.Cfg, o api.Op) map[string]func(g api.Graph, r api.Result) told {
	return map[string]func(g api.Graph, r api.Result) told{
		"Do": func(g api.Graph, r api.Result) told {
			h, x := Do(c, g, o)
			return told{g: h, r: []api.Result{x}}
		},
		"Takes": func(g api.Graph, r api.Result) told { return told{n: Takes(c, g, o)} },
		"Fits": func(g api.Graph, r api.Result) told {
			h, ok := Fits(c, g, o, r)
			return told{g: h, ok: ok}
		},
		"Fits of Do's own result": func(g api.Graph, r api.Result) told {
			_, own := meant(c, g, o)
			h, ok := Fits(c, g, o, own)
			return told{g: h, ok: ok}
		},
		"Fits of full": func(g api.Graph, r api.Result) told {
			h, ok := Fits(c, g, o, api.Result{Err: api.ErrFull})
			return told{g: h, ok: ok}
		},
		"Same": func(g api.Graph, r api.Result) told { return told{ok: Same(r, r)} },
	}
}

// Operations of each kind that change a graph, that leave it, and that fail.
func someOperations() []api.Op {
	l := []api.Op{{}, {Kind: 10, A: 1}, {Kind: api.GetO, A: 9}, {Kind: api.LinkO, A: 1, B: 3}, {Kind: api.FuseO, A: 1, B: 1}}
	for _, x := range deeds() {
		l = append(l, x.o)
	}
	return l
}

func spoilTold(x told) {
	sample.SpoilGraph(x.g)
	for _, r := range x.r {
		sample.SpoilResult(r)
	}
}

func wantText(t *testing.T, what, got, want string) {
	t.Helper()
	if got != want {
		t.Errorf("%s: got %s; want %s", what, got, want)
	}
}

// R2: what is handed in reads as it did before, and so does what stands behind its lists.
func TestWhatIsHandedInStays(t *testing.T) {
	for _, o := range someOperations() {
		for what, call := range someCalls(mixedCfg(), o) {
			for _, g := range []api.Graph{sample.RoomyGraph(mixed()), sample.RoomyGraph(usedUp()), sample.RoomyGraph(graph.New())} {
				r := sample.Roomy(sample.Result())
				was, wasR := text(sample.WholeGraph(g)), text(sample.WholeResult(r))
				call(g, r)
				wantText(t, text("the graph behind ", what, o), text(sample.WholeGraph(g)), was)
				wantText(t, text("the result behind ", what, o), text(sample.WholeResult(r)), wasR)
			}
		}
	}
}

// R2: what was told does not change when the arguments are written into later, nor the other way round, nor what is told again.
func TestWhatIsToldIsNew(t *testing.T) {
	for _, o := range someOperations() {
		for what, call := range someCalls(mixedCfg(), o) {
			for _, from := range []api.Graph{mixed(), usedUp(), graph.New()} {
				g, r := sample.RoomyGraph(from), sample.Roomy(sample.Result())
				first, again := call(g, r), call(g, r)
				was, wasG := text(first), text(sample.WholeGraph(g))
				wantText(t, text(what, o, ", once more"), text(again), was)
				spoilTold(first)
				wantText(t, text(what, o, ", told once more and kept"), text(again), was)
				wantText(t, text("the graph, behind a write into what was told of ", what, o), text(sample.WholeGraph(g)), wasG)
				sample.SpoilGraph(g)
				sample.SpoilResult(r)
				wantText(t, text(what, o, ", behind a write into the arguments"), text(again), was)
			}
		}
	}
}

// R2: of what is told each list has memory of its own, also if nodes that are handed in share theirs, and operations come to the same.
func TestListsOfAnAnswerShareNone(t *testing.T) {
	shared := sample.Pairs(1, 1, 2, 2, 3, 3)
	g := mixed()
	for i := range g.Nodes {
		g.Nodes[i].Pairs = shared[:2]
	}
	for _, o := range someOperations() {
		for what, call := range someCalls(mixedCfg(), o) {
			for i := range call(g, api.Result{}).g.Nodes {
				x := call(g, api.Result{})
				was := call(g, api.Result{})
				sample.Spoil(x.g.Nodes[i].Pairs, api.Pair{K: -88})
				x.g.Nodes[i], was.g.Nodes[i] = api.Node{}, api.Node{}
				wantText(t, text(what, o, ", behind a write into one of its lists"), text(x), text(was))
			}
		}
	}
	_, r := Do(mixedCfg(), mixed(), api.Op{Kind: api.NearO, A: 1})
	sample.Spoil(r.Out, api.End{})
	wantText(t, "the edges to a node, behind a write into those from it", text(r.In), text(sample.Ends(2, 2, 4, 1, 5, 4)))
}

// R2: operations that are handed in stay, and no result of All changes with another one, nor with the graph.
func TestWhatAllTellsIsNew(t *testing.T) {
	l := []api.Op{{Kind: api.AddO}, {Kind: api.SetO, A: 1, K: 2, V: 3}, {Kind: api.LinkO, A: 1, B: 1}, {Kind: api.GetO, A: 1}, {Kind: api.GetO, A: 1}, {Kind: api.NearO, A: 1}, {Kind: api.NearO, A: 1}}
	given := sample.WithRoom(l, api.Op{Kind: 77})
	was := text(given[:cap(given)])
	g, r := All(mixedCfg(), given)
	wantText(t, "the operations", text(given[:cap(given)]), was)
	told := text(g, r)
	sample.Spoil(given, api.Op{Kind: -88})
	wantText(t, "All, behind a write into the operations", text(g, r), told)
	for i := range r {
		again, results := All(mixedCfg(), l)
		sample.SpoilResult(results[i])
		results[i] = r[i]
		wantText(t, "All, behind a write into a result", text(again, results), told)
	}
	again, results := All(mixedCfg(), l)
	sample.SpoilGraph(again)
	wantText(t, "All, behind a write into its graph", text(results), text(r))
	wantText(t, "what All told earlier", text(g, r), told)
}

// Graphs that may not be, in all kinds of ways.
func wildGraphs() []api.Graph {
	long := api.Graph{NextNode: greatest, NextEdge: greatest}
	for i := range 200 {
		long.Nodes = append(long.Nodes, sample.Node(-i, i, i, i, 1, -i, 2))
		long.Edges = append(long.Edges, api.Edge{Id: i % 7, From: -i, To: i})
	}
	return []api.Graph{
		{}, {NextNode: greatest, NextEdge: greatest}, {NextNode: least, NextEdge: least}, {NextNode: -1, NextEdge: 70}, long,
		{Nodes: []api.Node{{}, {}, {}}, Edges: []api.Edge{{}, {}}},
		{Nodes: []api.Node{sample.Node(4, 9, 9, 9, 9, 1, 1), sample.Node(1, 4, 4), sample.Node(4), sample.Node(1, 4, 4, 4, 4), sample.Node(2, least, 0, least, 0)}, Edges: sample.Edges(4, 1, 1, 4, 2, 4, 1, 4, 1, 10, 9, 9), NextNode: 2, NextEdge: 1},
		{Nodes: []api.Node{sample.Node(greatest, 1, 1), sample.Node(least, 1, 1), sample.Node(greatest)}, Edges: sample.Edges(greatest, least, greatest, least, greatest, least, 0, 0, 0), NextNode: greatest, NextEdge: least},
		{Edges: sample.Edges(1, 1, 2, 2, 2, 1), NextNode: 3, NextEdge: 3},
	}
}

// R1, R2: of a graph, or a configuration, that may not be all calls end, and leave what was handed in.
func TestWildGraphs(t *testing.T) {
	l := append(someOperations(), operations([]int{0, 1, 4, least, greatest}, []int{0, least, greatest}, []int{greatest})...)
	for _, c := range []api.Cfg{mixedCfg(), {}, {Ids: greatest, EdgeIds: greatest}, {Nodes: least, Edges: least, Props: least, Ids: least, EdgeIds: least}} {
		for _, g := range append(wildGraphs(), mixed(), graph.New()) {
			was := text(g)
			for _, o := range l {
				for what, call := range someCalls(c, o) {
					first := call(g, sample.Result())
					wantText(t, text(what, o, " of what may not be, once more"), text(call(g, sample.Result())), text(first))
				}
			}
			wantText(t, "what may not be", text(g), was)
		}
		_, r := All(c, l)
		if len(r) != len(l) {
			t.Errorf("All %v with %v tells %d results", l, c, len(r))
		}
	}
}
