package graph

import (
	"cmp"
	"slices"

	"tendril/api"
)

func nodeNumber(n api.Node) int {
	return n.Id
}

func edgeNumber(e api.Edge) int {
	return e.Id
}

func key(p api.Pair) int {
	return p.K
}

func isNode(g api.Graph, n int) bool {
	return find(g.Nodes, nodeNumber, n) >= 0
}

func sameNode(n, m api.Node) bool {
	return n.Id == m.Id && slices.Equal(n.Pairs, m.Pairs)
}

// What is told shares no memory with what was handed in, whose nodes may share theirs: whoever handed it in may write into it later.
func fresh(g api.Graph) api.Graph {
	told := g
	told.Nodes = each(g.Nodes, freshNode)
	told.Edges = slices.Clone(g.Edges)
	return told
}

func freshNode(n api.Node) api.Node {
	return api.Node{Id: n.Id, Pairs: slices.Clone(n.Pairs)}
}

func without(l []api.Node, n int) []api.Node {
	return stay(l, func(x api.Node) bool { return x.Id != n })
}

// One of p's key is left out, so that a new property and a new value are one thing.
func withPair(l []api.Pair, p api.Pair) []api.Pair {
	below := stay(l, func(x api.Pair) bool { return x.K < p.K })
	above := stay(l, func(x api.Pair) bool { return x.K > p.K })
	return slices.Concat(below, []api.Pair{p}, above)
}

// Of a key that both have own's is told.
func joined(own, other []api.Pair) []api.Pair {
	more := stay(other, func(p api.Pair) bool { return find(own, key, p.K) < 0 })
	all := slices.Concat(own, more)
	slices.SortFunc(all, func(p, q api.Pair) int { return cmp.Compare(p.K, q.K) })
	return all
}

// The edges that are at one node are at another one then, with both their ends, if both are there.
func moved(l []api.Edge, from, to int) []api.Edge {
	end := func(n int) int {
		if n == from {
			return to
		}
		return n
	}
	return each(l, func(x api.Edge) api.Edge { return api.Edge{Id: x.Id, From: end(x.From), To: end(x.To)} })
}
