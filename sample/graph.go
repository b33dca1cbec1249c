package sample

import "tendril/api"

// Node makes a node with properties of two numbers each: a key, a value.
func Node(id int, l ...int) api.Node {
	return api.Node{Id: id, Pairs: Pairs(l...)}
}

// Edges makes edges of three numbers each: its own, where it comes from, where it goes to.
func Edges(l ...int) []api.Edge {
	var told []api.Edge
	for i := 0; i+2 < len(l); i += 3 {
		told = append(told, api.Edge{Id: l[i], From: l[i+1], To: l[i+2]})
	}
	return told
}

// CopiedGraph tells a graph in memory of its own, written element by element, so that it is not the program's own way.
func CopiedGraph(g api.Graph) api.Graph {
	told := api.Graph{NextNode: g.NextNode, NextEdge: g.NextEdge}
	for _, n := range g.Nodes {
		own := api.Node{Id: n.Id}
		for _, p := range n.Pairs {
			own.Pairs = append(own.Pairs, p)
		}
		told.Nodes = append(told.Nodes, own)
	}
	for _, e := range g.Edges {
		told.Edges = append(told.Edges, e)
	}
	return told
}

// RoomyGraph tells a graph with room behind all its lists.
func RoomyGraph(g api.Graph) api.Graph {
	told := CopiedGraph(g)
	for i := range told.Nodes {
		told.Nodes[i].Pairs = WithRoom(told.Nodes[i].Pairs, api.Pair{K: 77, V: 77})
	}
	told.Nodes = WithRoom(told.Nodes, Node(77, 77, 77))
	told.Edges = WithRoom(told.Edges, api.Edge{Id: 77, From: 77, To: 77})
	return told
}

// WholeGraph tells a graph in memory of its own, its lists with what stands behind them.
func WholeGraph(g api.Graph) api.Graph {
	g.Nodes, g.Edges = Whole(g.Nodes), Whole(g.Edges)
	for i := range g.Nodes {
		g.Nodes[i].Pairs = Whole(g.Nodes[i].Pairs)
	}
	return g
}

// SpoilGraph writes into all that can be reached of a graph.
func SpoilGraph(g api.Graph) {
	for _, n := range g.Nodes[:cap(g.Nodes)] {
		Spoil(n.Pairs, api.Pair{K: -88, V: -88})
	}
	Spoil(g.Nodes, Node(-88, -88, -88))
	Spoil(g.Edges, api.Edge{Id: -88, From: -88, To: -88})
}
