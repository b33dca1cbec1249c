package graph

import (
	"tendril/api"
	"tendril/place"
)

// The configuration is asked first: what is one more than its numbers may be no int else.
func mayBe(c api.Cfg, g api.Graph) bool {
	return place.Check(c) == api.OK && fits(c, g) && nodesMayBe(g) && edgesMayBe(g)
}

// How much there is, and how far the numbers go.
func fits(c api.Cfg, g api.Graph) bool {
	if len(g.Nodes) > c.Nodes || len(g.Edges) > c.Edges {
		return false
	}
	pairs := 0
	for _, n := range g.Nodes {
		pairs += len(n.Pairs)
	}
	return pairs <= c.Props && isNext(g.NextNode, c.Ids) && isNext(g.NextEdge, c.EdgeIds)
}

func isNext(next, numbers int) bool {
	return next >= 1 && next <= numbers+1
}

func nodesMayBe(g api.Graph) bool {
	for _, n := range g.Nodes {
		if !rises(n.Pairs, key) {
			return false
		}
	}
	return given(g.Nodes, nodeNumber, g.NextNode)
}

func edgesMayBe(g api.Graph) bool {
	for _, e := range g.Edges {
		if !isNode(g, e.From) || !isNode(g, e.To) {
			return false
		}
	}
	return given(g.Edges, edgeNumber, g.NextEdge)
}
