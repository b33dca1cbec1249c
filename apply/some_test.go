package apply

import (
	"fmt"
	"math"
	"testing"

	"tendril/api"
	"tendril/graph"
	"tendril/sample"
)

const (
	least    = math.MinInt
	greatest = math.MaxInt
)

// Kinds that there are not, those included that would be some if only some bits were looked at.
var noKinds = []int{0, 10, 11, -1, -2, -9, 64, 255, 256 + 1, 1<<16 + 2, 1 << 32, 1<<32 + 4, -1<<32 + 6, 1<<62 + 1, least, least + 1, least + 9, greatest - 1, greatest}

// Numbers that are no node's and no edge's in the graphs below.
var nobodys = []int{0, -1, -2, 3, 5, 12, 64, 65, 1<<32 + 1, -1<<32 + 4, 1<<62 + 2, least, least + 1, greatest - 1, greatest}

func mixedCfg() api.Cfg {
	return api.Cfg{Nodes: 4, Edges: 8, Props: 6, Ids: 6, EdgeIds: 8}
}

// Numbers that are gone, edges both ways between two, two of them the same way, edges from a node to itself, and properties, of which 1 and 4 share a key.
func mixed() api.Graph {
	return api.Graph{
		Nodes:    []api.Node{sample.Node(1, -3, 5, 0, 0, 9, -1), sample.Node(2), sample.Node(4, least, greatest, 9, 7)},
		Edges:    sample.Edges(1, 1, 2, 2, 2, 1, 4, 1, 1, 5, 4, 1, 6, 1, 2, 7, 4, 2),
		NextNode: 6,
		NextEdge: 8,
	}
}

// The same with no numbers left.
func usedUp() api.Graph {
	g := mixed()
	g.NextNode, g.NextEdge = 7, 9
	return g
}

func with(g api.Graph, change func(g *api.Graph)) api.Graph {
	told := sample.CopiedGraph(g)
	change(&told)
	return told
}

// Two values that are not the same do not read the same, as all in them are numbers; lists without elements do, nil or empty.
func text(x ...any) string {
	return fmt.Sprint(x...)
}

func wantGraph(t *testing.T, what string, got, want api.Graph) {
	t.Helper()
	if text(got) != text(want) {
		t.Errorf("%s: the graph is %v; want %v", what, got, want)
	}
}

func wantResult(t *testing.T, what string, got, want api.Result) {
	t.Helper()
	if text(got) != text(want) {
		t.Errorf("%s: the result is %v; want %v", what, got, want)
	}
}

// P11.1 in the chapter's words, by the calls of the layer below.
func meant(c api.Cfg, g api.Graph, o api.Op) (h api.Graph, r api.Result) {
	h = g
	switch o.Kind {
	case api.AddO:
		h, r.Id, r.Err = graph.Add(c, g)
	case api.LinkO:
		h, r.Id, r.Err = graph.Link(c, g, o.A, o.B)
	case api.CutO:
		h, r.Err = graph.Cut(g, o.A)
	case api.SetO:
		h, r.Err = graph.Set(g, o.A, o.K, o.V)
	case api.DelO:
		h, r.Err = graph.Del(g, o.A, o.K)
	case api.GetO:
		r.Pairs, r.Err = graph.Get(g, o.A)
	case api.NearO:
		r.Out, r.In, r.Err = graph.Near(g, o.A)
	case api.DropO:
		h, r.Err = graph.Drop(g, o.A)
	case api.FuseO:
		h, r.Err = graph.Fuse(g, o.A, o.B)
	default:
		r.Err = api.ErrArg
	}
	if r.Err != api.OK {
		h = g
	}
	return h, r
}

// How many records of each kind a graph has; at 0 none.
func records(g api.Graph) [4]int {
	n := [4]int{api.NodeR: len(g.Nodes), api.EdgeR: len(g.Edges)}
	for _, x := range g.Nodes {
		n[api.PropR] += len(x.Pairs)
	}
	return n
}

// P11.2 by what comes of it: an operation takes a record just if there is one more of its kind then; no operation takes one of one kind and gives one of another back.
func taken(g, h api.Graph) int {
	was, is := records(g), records(h)
	for which := range is {
		if is[which] == was[which]+1 {
			return which
		}
	}
	return 0
}
