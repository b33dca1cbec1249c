package graph

import (
	"fmt"
	"math/bits"
	"slices"
	"testing"

	"tendril/api"
)

// meant is a graph in the chapter's words, with maps instead of lists, so that nothing of the program's own ways is in it.
type meant struct {
	nodes              map[int]map[int]int
	edges              map[int][2]int
	nextNode, nextEdge int
}

func meantOf(g api.Graph) meant {
	m := meant{map[int]map[int]int{}, map[int][2]int{}, g.NextNode, g.NextEdge}
	for _, n := range g.Nodes {
		m.nodes[n.Id] = map[int]int{}
		for _, p := range n.Pairs {
			m.nodes[n.Id][p.K] = p.V
		}
	}
	for _, e := range g.Edges {
		m.edges[e.Id] = [2]int{e.From, e.To}
	}
	return m
}

// Goes through all numbers that were given, so that nothing need be sorted; keys are among these few.
func (m meant) graph(keys []int) api.Graph {
	g := api.Graph{NextNode: m.nextNode, NextEdge: m.nextEdge}
	for id := 1; id < m.nextNode; id++ {
		if _, ok := m.nodes[id]; ok {
			g.Nodes = append(g.Nodes, api.Node{Id: id, Pairs: m.pairs(id, keys)})
		}
	}
	for id := 1; id < m.nextEdge; id++ {
		if e, ok := m.edges[id]; ok {
			g.Edges = append(g.Edges, api.Edge{Id: id, From: e[0], To: e[1]})
		}
	}
	return g
}

func (m meant) pairs(n int, keys []int) []api.Pair {
	var l []api.Pair
	for _, k := range keys {
		if v, ok := m.nodes[n][k]; ok {
			l = append(l, api.Pair{K: k, V: v})
		}
	}
	return l
}

func (m meant) isNode(n int) bool {
	_, ok := m.nodes[n]
	return ok
}

func (m *meant) add(c api.Cfg) (int, api.Errno) {
	if m.nextNode > c.Ids {
		return 0, api.ErrIds
	}
	m.nodes[m.nextNode] = map[int]int{}
	m.nextNode++
	return m.nextNode - 1, api.OK
}

func (m *meant) link(c api.Cfg, a, b int) (int, api.Errno) {
	switch {
	case !m.isNode(a) || !m.isNode(b):
		return 0, api.ErrNone
	case m.nextEdge > c.EdgeIds:
		return 0, api.ErrIds
	}
	m.edges[m.nextEdge] = [2]int{a, b}
	m.nextEdge++
	return m.nextEdge - 1, api.OK
}

func (m *meant) cut(e int) api.Errno {
	if _, ok := m.edges[e]; !ok {
		return api.ErrNone
	}
	delete(m.edges, e)
	return api.OK
}

func (m *meant) set(n, k, v int) api.Errno {
	if !m.isNode(n) {
		return api.ErrNone
	}
	m.nodes[n][k] = v
	return api.OK
}

func (m *meant) del(n, k int) api.Errno {
	if _, ok := m.nodes[n][k]; !ok {
		return api.ErrNone
	}
	delete(m.nodes[n], k)
	return api.OK
}

func (m *meant) drop(n int) api.Errno {
	if !m.isNode(n) {
		return api.ErrNone
	}
	delete(m.nodes, n)
	for id, e := range m.edges {
		if e[0] == n || e[1] == n {
			delete(m.edges, id)
		}
	}
	return api.OK
}

func (m *meant) fuse(a, b int) api.Errno {
	switch {
	case a == b:
		return api.ErrSelf
	case !m.isNode(a) || !m.isNode(b):
		return api.ErrNone
	}
	for id, e := range m.edges {
		for i := range e {
			if e[i] == b {
				e[i] = a
			}
		}
		m.edges[id] = e
	}
	for k, v := range m.nodes[b] {
		if _, ok := m.nodes[a][k]; !ok {
			m.nodes[a][k] = v
		}
	}
	delete(m.nodes, b)
	return api.OK
}

func (m *meant) near(n int) (out, in []api.End, e api.Errno) {
	if !m.isNode(n) {
		return nil, nil, api.ErrNone
	}
	for id := 1; id < m.nextEdge; id++ {
		x, ok := m.edges[id]
		if ok && x[0] == n {
			out = append(out, api.End{Edge: id, Node: x[1]})
		}
		if ok && x[1] == n {
			in = append(in, api.End{Edge: id, Node: x[0]})
		}
	}
	return out, in, api.OK
}

// world is how much is gone through: all graphs that can come of these numbers, keys and values.
type world struct {
	c            api.Cfg
	keys, values []int
}

// A change of a graph, as the program does it, and as it is meant.
type change struct {
	what string
	does func(g api.Graph) (api.Graph, int, api.Errno)
	says func(m *meant) (int, api.Errno)
}

func (w world) changes() []change {
	l := []change{{"Add", func(g api.Graph) (api.Graph, int, api.Errno) { return Add(w.c, g) }, func(m *meant) (int, api.Errno) { return m.add(w.c) }}}
	plain := func(what string, does func(g api.Graph) (api.Graph, api.Errno), says func(m *meant) api.Errno) {
		l = append(l, change{what,
			func(g api.Graph) (api.Graph, int, api.Errno) { h, e := does(g); return h, 0, e },
			func(m *meant) (int, api.Errno) { return 0, says(m) }})
	}
	for e := 0; e <= w.c.EdgeIds+1; e++ {
		plain(fmt.Sprint("Cut ", e), func(g api.Graph) (api.Graph, api.Errno) { return Cut(g, e) }, func(m *meant) api.Errno { return m.cut(e) })
	}
	for n := 0; n <= w.c.Ids+1; n++ {
		plain(fmt.Sprint("Drop ", n), func(g api.Graph) (api.Graph, api.Errno) { return Drop(g, n) }, func(m *meant) api.Errno { return m.drop(n) })
		for b := 0; b <= w.c.Ids+1; b++ {
			l = append(l, change{fmt.Sprint("Link ", n, b), func(g api.Graph) (api.Graph, int, api.Errno) { return Link(w.c, g, n, b) }, func(m *meant) (int, api.Errno) { return m.link(w.c, n, b) }})
			plain(fmt.Sprint("Fuse ", n, b), func(g api.Graph) (api.Graph, api.Errno) { return Fuse(g, n, b) }, func(m *meant) api.Errno { return m.fuse(n, b) })
		}
		for _, k := range w.keys {
			plain(fmt.Sprint("Del ", n, k), func(g api.Graph) (api.Graph, api.Errno) { return Del(g, n, k) }, func(m *meant) api.Errno { return m.del(n, k) })
			for _, v := range w.values {
				plain(fmt.Sprint("Set ", n, k, v), func(g api.Graph) (api.Graph, api.Errno) { return Set(g, n, k, v) }, func(m *meant) api.Errno { return m.set(n, k, v) })
			}
		}
	}
	return l
}

// P10.3, P10.4: what is looked at.
func (w world) wantLooks(t *testing.T, g api.Graph) {
	t.Helper()
	m := meantOf(g)
	for n := 0; n <= w.c.Ids+1; n++ {
		want := api.OK
		if !m.isNode(n) {
			want = api.ErrNone
		}
		if l, e := Get(g, n); e != want || !slices.Equal(l, m.pairs(n, w.keys)) {
			t.Errorf("Get %d of %v is %v, %d", n, g, l, e)
		}
		wantOut, wantIn, _ := m.near(n)
		if out, in, e := Near(g, n); e != want || !slices.Equal(out, wantOut) || !slices.Equal(in, wantIn) {
			t.Errorf("Near %d of %v is %v, %v, %d; want %v, %v, %d", n, g, out, in, e, wantOut, wantIn, want)
		}
	}
}

// One change of one graph: tells what comes of it, if anything does.
func (w world) wantChange(t *testing.T, g api.Graph, x change) (api.Graph, bool) {
	t.Helper()
	m := meantOf(g)
	wantId, want := x.says(&m)
	h, id, e := x.does(g)
	if e != want || id != wantId {
		t.Errorf("%s of %v tells %d, %d; want %d, %d", x.what, g, id, e, wantId, want)
	}
	if want != api.OK {
		wantGraph(t, x.what, h, api.Graph{})
		return h, false
	}
	wantGraph(t, x.what, h, m.graph(w.keys))
	if h.NextNode < g.NextNode || h.NextEdge < g.NextEdge {
		t.Errorf("%s of %v gives numbers again: %v", x.what, g, h)
	}
	return h, true
}

// P10.2 to P10.6: each graph that can come about, with each change of it, is what the chapter's words say; with as many records as numbers and keys it may be.
func TestAllSmallGraphs(t *testing.T) {
	for _, w := range []world{
		{api.Cfg{Nodes: 3, Edges: 2, Props: 1, Ids: 3, EdgeIds: 2}, nil, nil},
		{api.Cfg{Nodes: 2, Edges: 3, Props: 2, Ids: 2, EdgeIds: 3}, []int{7}, []int{0}},
		{api.Cfg{Nodes: 2, Edges: 1, Props: 4, Ids: 2, EdgeIds: 1}, []int{-1, 4}, []int{0, 1}},
		{api.Cfg{Nodes: 3, Edges: 1, Props: 3, Ids: 3, EdgeIds: 1}, []int{greatest}, []int{least, greatest}},
	} {
		if seen := w.wantAll(t); seen != w.count() {
			t.Errorf("%v: %d graphs came about; want %d", w, seen, w.count())
		}
		if t.Failed() {
			return
		}
	}
}

// How many graphs there are: of each number that was given the node is there, with a value or none of each key, or not; of each number of an edge it is between any two nodes, or not. Without a number of a node there is none of an edge.
func (w world) count() int {
	all := 1
	for given := 1; given <= w.c.Ids; given++ {
		for set := range 1 << given {
			nodes := bits.OnesCount(uint(set))
			all += power(power(len(w.values)+1, len(w.keys)), nodes) * w.countEdges(nodes)
		}
	}
	return all
}

func (w world) countEdges(nodes int) int {
	all := 0
	for given := 0; given <= w.c.EdgeIds; given++ {
		all += power(1+nodes*nodes, given)
	}
	return all
}

func power(n, times int) int {
	p := 1
	for range times {
		p *= n
	}
	return p
}

func (w world) wantAll(t *testing.T) int {
	t.Helper()
	changes := w.changes()
	seen := map[string]bool{fmt.Sprint(listed(New())): true}
	for work := []api.Graph{New()}; len(work) > 0 && !t.Failed(); {
		g := work[0]
		work = work[1:]
		wantErrno(t, fmt.Sprint("Check of ", g), Check(w.c, g), api.OK)
		w.wantLooks(t, g)
		for _, x := range changes {
			h, ok := w.wantChange(t, g, x)
			if name := fmt.Sprint(listed(h)); ok && !seen[name] {
				seen[name] = true
				work = append(work, h)
			}
		}
	}
	return len(seen)
}

// P10.6: numbers are given from 1 on, each once, whatever goes in between; then there are none.
func TestNoNumberIsGivenTwice(t *testing.T) {
	c := fullCfg()
	g := New()
	var nodes, links []int
	for i := range 200 {
		if h, id, e := Add(c, g); e == api.OK {
			g, nodes = h, append(nodes, id)
		}
		last := nodes[len(nodes)-1]
		if h, id, e := Link(c, g, last, nodes[0]); e == api.OK {
			g, links = h, append(links, id)
		}
		switch i % 4 {
		case 1:
			g = orStays(Drop(g, last))(g)
		case 2:
			g = orStays(Fuse(g, nodes[0], last))(g)
		case 3:
			g = orStays(Cut(g, links[len(links)-1]))(g)
		}
		wantErrno(t, "Check", Check(c, g), api.OK)
	}
	for what, given := range map[string][]int{"nodes": nodes, "edges": links} {
		if len(given) != 64 || given[0] != 1 || given[63] != 64 || !slices.IsSorted(given) {
			t.Errorf("the numbers of %s were %v", what, given)
		}
	}
}

func orStays(h api.Graph, e api.Errno) func(g api.Graph) api.Graph {
	return func(g api.Graph) api.Graph {
		if e != api.OK {
			return g
		}
		return h
	}
}

// P10.6: a graph stays one just as long as there are records for it.
func TestStaysOneAsLongAsThereAreRecords(t *testing.T) {
	c := api.Cfg{Nodes: 2, Edges: 2, Props: 2, Ids: 64, EdgeIds: 64}
	g := New()
	for n := 1; n <= 4; n++ {
		g, _, _ = Add(c, g)
		wantMayBe(t, "nodes", c, g, n <= 2)
	}
	g = orStays(Drop(g, 1))(g)
	wantMayBe(t, "nodes, one of them dropped", c, g, false)
	g = orStays(Fuse(g, 4, 2))(g)
	wantMayBe(t, "nodes, two of them fused", c, g, true)
	for n := 1; n <= 3; n++ {
		g, _, _ = Link(c, g, 3, 4)
		wantMayBe(t, "edges", c, g, n <= 2)
	}
	g = orStays(Cut(g, 2))(g)
	wantMayBe(t, "edges, one of them cut", c, g, true)
	for k := 1; k <= 3; k++ {
		g = orStays(Set(g, 3+k%2, k, k))(g)
		wantMayBe(t, "properties", c, g, k <= 2)
	}
	g = orStays(Del(g, 4, 1))(g)
	wantMayBe(t, "properties, one of them deleted", c, g, true)
}

// R6
func TestTheSameAgain(t *testing.T) {
	want, _ := Fuse(mixed(), 4, 1)
	for range 100 {
		got, _ := Fuse(mixed(), 4, 1)
		wantGraph(t, "Fuse", got, want)
	}
}
