package lin

import (
	"strconv"

	"tendril/api"
)

// state is all on which it hangs how a way can go on.
type state struct {
	done  [api.MaxCalls]bool
	graph string
}

func (w way) state() state {
	return state{w.done, string(written(w.graph))}
}

// Two graphs that are not the same are not written the same, as each list that another one follows has its length ahead of it.
func written(g api.Graph) []byte {
	l := numbers(nil, g.NextNode, g.NextEdge, len(g.Nodes))
	for _, n := range g.Nodes {
		l = numbers(l, n.Id, len(n.Pairs))
		for _, p := range n.Pairs {
			l = numbers(l, p.K, p.V)
		}
	}
	for _, e := range g.Edges {
		l = numbers(l, e.Id, e.From, e.To)
	}
	return l
}

func numbers(l []byte, more ...int) []byte {
	for _, n := range more {
		l = append(strconv.AppendInt(l, int64(n), 10), ' ')
	}
	return l
}
