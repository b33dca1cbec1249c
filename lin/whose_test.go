package lin

import (
	"testing"

	"tendril/api"
	"tendril/graph"
	"tendril/sample"
)

// told is what a call answers, whichever it is.
type told struct {
	order []int
	g     api.Graph
	e     api.Errno
}

type given struct {
	l     []api.Event
	order []int
	g     api.Graph
}

func (x given) whole() string {
	return text(sample.WholeHistory(x.l), sample.Whole(x.order), sample.WholeGraph(x.g))
}

func (x given) spoil() {
	sample.SpoilHistory(x.l)
	sample.Spoil(x.order, -88)
	sample.SpoilGraph(x.g)
}

func (x told) spoil() {
	sample.Spoil(x.order, -88)
	sample.SpoilGraph(x.g)
}

var someCalls = map[string]func(c api.Cfg, x given) told{
	"Order": func(c api.Cfg, x given) (y told) {
		y.g, y.e = Order(c, x.l, x.order)
		return y
	},
	"Search": func(c api.Cfg, x given) (y told) {
		y.order, y.g, y.e = Search(c, x.l)
		return y
	},
	"Reach": func(c api.Cfg, x given) (y told) {
		y.order, y.e = Reach(c, x.l, x.g)
		return y
	},
}

// A look that tells lists, and what they are of.
func looksAtAll() []api.Event {
	return join(
		inTurn(deed{add, id(1)}, deed{sample.Set(1, 7, 5), done}, deed{sample.Link(1, 1), id(1)}),
		atOnce(0, deed{get, api.Result{Pairs: sample.Pairs(7, 5)}}, deed{sample.Near(1), api.Result{Out: sample.Ends(1, 1), In: sample.Ends(1, 1)}}),
		pending(0, sample.Set(1, 8, 9), get),
		inTurn(deed{sample.Set(1, 7, 6), done}),
	)
}

// With orders, and the graphs behind them, and without: a graph that looks reach alone, an order that is none, histories that may not be at their ends.
func someGiven() []given {
	two := graphOf([]api.Node{sample.Node(1, 7, 6, 8, 9)}, sample.Edges(1, 1, 1), 2, 2)
	return []given{
		{},
		{twoSets(), []int{0, 1, 3, 2, 4}, twoSetsTo(5)},
		{looksAtAll(), []int{0, 1, 2, 3, 4, 5, 7}, two},
		{looksAtAll(), []int{0, 1, 2, 4, 3, 7}, graphOf([]api.Node{sample.Node(1, 7, 6)}, sample.Edges(1, 1, 1), 2, 2)},
		{looksAtAll(), []int{0, 1, 2, 3, 4, 5}, api.Graph{}},
		{append(looksAtAll(), sample.Came(63, get, sample.Result())), []int{0, 1, 2, 3, 4, 5, 7}, two},
		{looking(11), upTo(11), graph.New()},
		{pending(0, add), nil, graph.New()},
	}
}

func roomy(x given) given {
	return given{sample.RoomyHistory(x.l), sample.WithRoom(x.order, 77), sample.RoomyGraph(x.g)}
}

// R2: what is handed in reads as it did before, and so does what stands behind its lists.
func TestWhatIsHandedInStays(t *testing.T) {
	for what, call := range someCalls {
		for _, from := range someGiven() {
			x := roomy(from)
			was := x.whole()
			call(cfg(), x)
			if x.whole() != was {
				t.Errorf("behind %s: %s; want %s", what, x.whole(), was)
			}
		}
	}
}

// R2, R6: what was told does not change when the arguments are written into later, nor the other way round, nor what is told again.
func TestWhatIsToldIsNew(t *testing.T) {
	for what, call := range someCalls {
		for _, from := range someGiven() {
			x := roomy(from)
			was := x.whole()
			first := call(cfg(), x)
			want := text(first)
			other := call(cfg(), roomy(someGiven()[2]))
			again := call(cfg(), x)
			if text(again) != want {
				t.Errorf("%s once more: %v; want %s", what, again, want)
			}
			first.spoil()
			other.spoil()
			if text(again) != want || x.whole() != was {
				t.Errorf("%s, behind a write into what was told: %v, of %s; want %s, of %s", what, again, x.whole(), want, was)
			}
			x.spoil()
			if text(again) != want {
				t.Errorf("%s, behind a write into the arguments: %v; want %s", what, again, want)
			}
		}
	}
}

// R2: of what is told each list has memory of its own.
func TestListsOfAnAnswerShareNone(t *testing.T) {
	for what, call := range someCalls {
		for _, x := range someGiven() {
			for i := range 2 + len(call(cfg(), x).g.Nodes) {
				got, want := call(cfg(), x), call(cfg(), x)
				switch i {
				case 0:
					sample.Spoil(got.order, -88)
					got.order, want.order = nil, nil
				case 1:
					sample.Spoil(got.g.Edges, api.Edge{Id: -88})
					got.g.Edges, want.g.Edges = nil, nil
				default:
					sample.Spoil(got.g.Nodes[i-2].Pairs, api.Pair{K: -88})
					got.g.Nodes[i-2], want.g.Nodes[i-2] = api.Node{}, api.Node{}
				}
				if text(got) != text(want) {
					t.Errorf("%s, behind a write into one of its lists: %v; want %v", what, got, want)
				}
			}
		}
	}
}

// What is given here comes to orders, and to errors.
func TestWhatIsGivenHere(t *testing.T) {
	for what, call := range someCalls {
		count := map[api.Errno]int{}
		for _, x := range someGiven() {
			count[call(cfg(), x).e]++
		}
		if count[api.OK] < 4 || count[api.ErrArg] != 2 || what != "Search" && count[api.ErrNone] == 0 {
			t.Errorf("%s tells so many errors: %v", what, count)
		}
	}
}

// R1: long orders, and long histories, come to their ends.
func TestOfGreatLength(t *testing.T) {
	long := make([]int, 1<<20)
	wantNoOrder(t, cfg(), inTurn(deed{add, id(1)}), long...)
	wantNoOrder(t, cfg(), nil, long...)
	wantArg(t, cfg(), looking(1<<14))
	wantReach(t, cfg(), inTurn(deed{add, id(1)}), api.Graph{Nodes: make([]api.Node, 1<<16), Edges: make([]api.Edge, 1<<16)}, nil, api.ErrNone)
}
