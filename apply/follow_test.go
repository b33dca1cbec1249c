package apply

import (
	"testing"

	"tendril/api"
	"tendril/graph"
	"tendril/sample"
)

// All operations of some numbers, of each kind, and of the kinds next to them.
func operations(ids, keys, values []int) []api.Op {
	var l []api.Op
	for kind := 0; kind <= 10; kind++ {
		for _, a := range ids {
			switch kind {
			case api.LinkO, api.FuseO:
				for _, b := range ids {
					l = append(l, api.Op{Kind: kind, A: a, B: b})
				}
			case api.SetO, api.DelO:
				for _, k := range keys {
					for _, v := range values {
						l = append(l, api.Op{Kind: kind, A: a, K: k, V: v})
					}
				}
			default:
				l = append(l, api.Op{Kind: kind, A: a})
			}
		}
	}
	return l
}

// P11.1 to P11.3: one operation on one graph, of each result that there is on it.
func wantDone(t *testing.T, c api.Cfg, g api.Graph, o api.Op, results []api.Result) api.Graph {
	t.Helper()
	what := text("of ", o, " and ", g)
	h, r := meant(c, g, o)
	got, told := Do(c, g, o)
	wantGraph(t, "Do "+what, got, h)
	wantResult(t, "Do "+what, told, r)
	which := taken(g, h)
	if k := Takes(c, g, o); k != which {
		t.Errorf("Takes %s is %d; want %d", what, k, which)
	}
	for _, x := range results {
		want, fits := g, text(x) == text(api.Result{Err: api.ErrFull}) && which != 0
		if text(x) == text(r) {
			want, fits = h, true
		}
		got, ok := Fits(c, g, o, x)
		if ok != fits {
			t.Errorf("Fits %s with %v is %v; want %v", what, x, ok, fits)
		}
		wantGraph(t, text("Fits ", what, " with ", x), got, want)
		if Same(x, r) != (text(x) == text(r)) {
			t.Errorf("Same of %v and %v is %v", x, r, Same(x, r))
		}
	}
	return h
}

// Of each graph the results to which anything comes on it, and that it is full.
func resultsOn(c api.Cfg, g api.Graph, l []api.Op) []api.Result {
	told := []api.Result{{Err: api.ErrFull}, {Err: api.ErrFull, Id: 1}}
	seen := map[string]bool{}
	for _, o := range l {
		if _, r := meant(c, g, o); !seen[text(r)] {
			seen[text(r)] = true
			told = append(told, r)
		}
	}
	return told
}

// P11.1 to P11.3: of each graph that comes about of few numbers, with each operation, and each result. How many graphs there are is told by how many numbers of nodes were given: with so many nodes that are left there are so many ways for properties, times those for edges.
func TestAllSmallGraphs(t *testing.T) {
	for _, x := range []struct {
		c            api.Cfg
		keys, values []int
		graphs       int
	}{
		{api.Cfg{Nodes: 2, Edges: 2, Props: 2, Ids: 2, EdgeIds: 2}, []int{greatest}, []int{0}, 1 + (3 + 2*7) + (3 + 2*(2*7) + 4*31)},
		{api.Cfg{Nodes: 2, Edges: 1, Props: 4, Ids: 2, EdgeIds: 1}, []int{least, 7}, []int{0}, 1 + (2 + 4*3) + (2 + 2*(4*3) + 16*6)},
	} {
		l := operations([]int{0, 1, 2, 3}, x.keys, x.values)
		seen := map[string]bool{text(graph.New()): true}
		for work := []api.Graph{graph.New()}; len(work) > 0 && !t.Failed(); work = work[1:] {
			g := work[0]
			results := resultsOn(x.c, g, l)
			for _, o := range l {
				h := wantDone(t, x.c, g, o, results)
				if graph.Check(x.c, h) == api.OK && !seen[text(h)] {
					seen[text(h)] = true
					work = append(work, h)
				}
			}
		}
		if len(seen) != x.graphs {
			t.Errorf("%d graphs came about; want %d", len(seen), x.graphs)
		}
	}
}

// P11.1 to P11.3: numbers as great and as small as can be, wherever an operation has one.
func TestNumbersOfWhateverSize(t *testing.T) {
	ids := append([]int{1, 2, 4, 6, 7, 8}, nobodys...)
	keys := []int{least, least + 1, -3, 0, 9, 1<<32 + 9, greatest - 1, greatest}
	l := operations(ids, keys, []int{least, -1, 0, greatest})
	for _, g := range []api.Graph{mixed(), usedUp(), graph.New()} {
		results := []api.Result{{}, {Err: api.ErrFull}, {Err: api.ErrNone}, {Err: least}, {Id: greatest}, sample.Result()}
		for _, o := range l {
			wantDone(t, mixedCfg(), g, o, results)
		}
	}
}
