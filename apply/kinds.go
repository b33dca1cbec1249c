package apply

import (
	"slices"

	"tendril/api"
	"tendril/graph"
)

// kinds tells of each kind of operation what o would come to, if it were of that kind.
func kinds(c api.Cfg, g api.Graph, o api.Op) map[int]func() (api.Graph, api.Result) {
	return map[int]func() (api.Graph, api.Result){
		api.AddO:  func() (api.Graph, api.Result) { return numbered(graph.Add(c, g)) },
		api.LinkO: func() (api.Graph, api.Result) { return numbered(graph.Link(c, g, o.A, o.B)) },
		api.CutO:  func() (api.Graph, api.Result) { return changed(graph.Cut(g, o.A)) },
		api.SetO:  func() (api.Graph, api.Result) { return changed(graph.Set(g, o.A, o.K, o.V)) },
		api.DelO:  func() (api.Graph, api.Result) { return changed(graph.Del(g, o.A, o.K)) },
		api.GetO: func() (api.Graph, api.Result) {
			l, e := graph.Get(g, o.A)
			return fresh(g), api.Result{Err: e, Pairs: l}
		},
		api.NearO: func() (api.Graph, api.Result) {
			out, in, e := graph.Near(g, o.A)
			return fresh(g), api.Result{Err: e, Out: out, In: in}
		},
		api.DropO: func() (api.Graph, api.Result) { return changed(graph.Drop(g, o.A)) },
		api.FuseO: func() (api.Graph, api.Result) { return changed(graph.Fuse(g, o.A, o.B)) },
	}
}

func numbered(g api.Graph, id int, e api.Errno) (api.Graph, api.Result) {
	return g, api.Result{Err: e, Id: id}
}

func changed(g api.Graph, e api.Errno) (api.Graph, api.Result) {
	return g, api.Result{Err: e}
}

func hasProperty(g api.Graph, n, k int) bool {
	l, _ := graph.Get(g, n)
	return slices.ContainsFunc(l, func(p api.Pair) bool { return p.K == k })
}

// A graph that stays as it is is told in memory of its own, too: whoever handed it in may write into it later.
func fresh(g api.Graph) api.Graph {
	told := g
	told.Edges = slices.Clone(g.Edges)
	told.Nodes = slices.Clone(g.Nodes)
	for i, n := range g.Nodes {
		told.Nodes[i].Pairs = slices.Clone(n.Pairs)
	}
	return told
}
