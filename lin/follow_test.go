package lin

import (
	"testing"

	"tendril/api"
	"tendril/apply"
	"tendril/graph"
	"tendril/sample"
)

// eachWay tells all histories in which each of these threads does its deeds, one behind the other, those included in which some are cut off.
func eachWay(threads [][]deed, see func(l []api.Event)) {
	at := make([]int, len(threads)) // two of a deed: its call, its result
	var grow func(l []api.Event)
	grow = func(l []api.Event) {
		see(l)
		for i, own := range threads {
			if at[i] == 2*len(own) {
				continue
			}
			d := own[at[i]/2]
			e := sample.Called(7*i, d.o)
			if at[i]%2 == 1 {
				e = sample.Came(7*i, d.o, d.r)
			}
			at[i]++
			grow(append(l[:len(l):len(l)], e))
			at[i]--
		}
	}
	grow(nil)
}

// called tells how many calls a history has.
func called(l []api.Event) int {
	n := 0
	for _, e := range l {
		if !e.Done {
			n++
		}
	}
	return n
}

// P13.1, P13.2: all histories of three threads with a deed each, of a few that fit in some orders; which thread it is makes no difference.
func TestAllHistoriesOfThreeCalls(t *testing.T) {
	deeds := []deed{{add, id(1)}, {add, id(2)}, {get, none}, {get, done}, {sample.Set(1, 7, 6), full}, {sample.Drop(1), done}}
	count := map[int]int{}
	for i, a := range deeds {
		for k, b := range deeds[i:] {
			for _, c := range deeds[i+k:] {
				eachWay([][]deed{{a}, {b}, {c}}, func(l []api.Event) {
					if called(l) == 3 {
						count[wantAsMeant(t, cfg(), l)]++
					}
				})
			}
		}
		if t.Failed() {
			t.FailNow()
		}
	}
	for n := range 7 {
		if count[n] == 0 {
			t.Errorf("no history has %d orders", n)
		}
	}
}

// P13.1, P13.2: all histories of two threads with two deeds each.
func TestAllHistoriesOfTwoThreads(t *testing.T) {
	deeds := []deed{{add, id(1)}, {get, done}, {get, none}}
	count := map[int]int{}
	for i := range 81 {
		a, b, c, d := deeds[i%3], deeds[i/3%3], deeds[i/9%3], deeds[i/27]
		if i/9 < i%9 {
			continue // the threads the other way round
		}
		eachWay([][]deed{{a, b}, {c, d}}, func(l []api.Event) {
			if called(l) == 4 {
				count[wantAsMeant(t, cfg(), l)]++
			}
		})
		if t.Failed() {
			t.FailNow()
		}
	}
	if count[0] == 0 || count[1] == 0 || count[2] == 0 || count[3] == 0 {
		t.Errorf("so many histories have so many orders: %v", count)
	}
}

// A play is threads that do operations of all kinds, each of which has its effect somewhere between its call and its result; what happens is drawn by a rule.
type play struct {
	at    uint32
	c     api.Cfg
	g     api.Graph
	now   map[int]*deed // by thread: what it is in
	had   map[int]bool  // whether that has had its effect
	calls int
	l     []api.Event
}

func (p *play) next(below int) int {
	p.at = p.at*1664525 + 1013904223
	return int(p.at>>8) % below
}

func (p *play) operation() api.Op {
	often := []int{api.AddO, api.AddO, api.LinkO, api.LinkO, api.CutO, api.SetO, api.SetO, api.DelO, api.GetO, api.NearO, api.DropO, api.FuseO, 10}
	return api.Op{Kind: often[p.next(len(often))], A: 1 + p.next(2), B: 1 + p.next(2), K: p.next(2), V: p.next(2)}
}

// step lets a thread call, or have its effect, or come to its result.
func (p *play) step(thread, most int) {
	d := p.now[thread]
	switch {
	case d == nil && p.calls < most:
		o := p.operation()
		p.now[thread], p.had[thread] = &deed{o: o}, false
		p.l = append(p.l, sample.Called(thread, o))
		p.calls++
	case d != nil && !p.had[thread]:
		p.had[thread] = true
		if apply.Takes(p.c, p.g, d.o) != 0 && p.next(6) == 0 {
			d.r = full
			return
		}
		p.g, d.r = apply.Do(p.c, p.g, d.o)
	case d != nil:
		p.l = append(p.l, sample.Came(thread, d.o, d.r))
		delete(p.now, thread)
	}
}

// played tells a history of so many calls that has an order, and the graph behind it, with nothing pending if it goes to its end.
func played(seed, calls, threads int, toEnd bool) ([]api.Event, api.Graph, api.Cfg) {
	p := play{at: uint32(seed), c: api.Cfg{Nodes: 3, Edges: 3, Props: 3, Ids: 1 + seed%4, EdgeIds: 1 + seed%3}, g: graph.New(), now: map[int]*deed{}, had: map[int]bool{}}
	for p.calls < calls {
		p.step(p.next(threads), calls)
	}
	for thread := 0; toEnd && thread < threads; thread++ {
		for p.now[thread] != nil {
			p.step(thread, 0)
		}
	}
	return p.l, p.g, p.c
}

// P13.1, P13.2: what was done has an order, that to which it was done is reached; what is told otherwise then has one or none, as the chapter's words say.
func TestWhatIsPlayed(t *testing.T) {
	count := map[bool]int{}
	for seed := range 300 {
		calls := 1 + seed%5
		l, g, c := played(seed, calls, 1+seed%4, seed%3 > 0)
		if wantAsMeant(t, c, l) == 0 {
			t.Fatalf("of %v there is no order", l)
		}
		if _, e := Reach(c, l, g); seed%3 > 0 && e != api.OK {
			t.Fatalf("Reach of %v to %v is %d", l, g, e)
		}
		for i, e := range l {
			if !e.Done {
				continue
			}
			for _, r := range []api.Result{full, none, done, id(2), {Err: e.Result.Err, Id: e.Result.Id + 1}} {
				other := append([]api.Event{}, l...)
				other[i].Result = r
				count[wantAsMeant(t, c, other) > 0]++
			}
		}
		if t.Failed() {
			t.FailNow()
		}
	}
	if count[true] < 200 || count[false] < 200 {
		t.Errorf("of what is told otherwise so many have orders: %v", count)
	}
}

// P13.2: of up to ten calls at once what was done has an order, and the graph is reached; each order that is told is one.
func TestWhatIsPlayedAtLength(t *testing.T) {
	for seed := range 400 {
		l, g, c := played(seed, 6+seed%5, 2+seed%9, true)
		order, h, e := Search(c, l)
		if e != api.OK {
			t.Fatalf("Search of %v is %d", l, e)
		}
		wantOrder(t, c, l, order, h, api.OK)
		reached, e := Reach(c, l, g)
		if e != api.OK || ahead(order, reached) > 0 {
			t.Fatalf("Reach of %v to %v is %v, %d, and the first order is %v", l, g, reached, e, order)
		}
		wantOrder(t, c, l, reached, g, api.OK)
	}
}

// P13.3: a history in which one thread did all, one behind the other, and none is pending, has that order, or none.
func TestOneThreadAlone(t *testing.T) {
	had := map[bool]int{}
	for seed := range 400 {
		l, g, c := played(seed, 1+seed%10, 1, true)
		wantFirst(t, c, l, g, upTo(len(l)/2)...)
		for i := 1; i < len(l); i += 2 {
			other := append([]api.Event{}, l...)
			other[i].Result = []api.Result{full, none, done, id(1)}[(seed+i)%4]
			order, _, e := Search(c, other)
			had[e == api.OK]++
			if e == api.OK && text(order) != text(upTo(len(l)/2)) || e != api.OK && e != api.ErrNone {
				t.Fatalf("Search of %v is %v, %d", other, order, e)
			}
			if len(l) <= 10 && wantAsMeant(t, c, other) > 1 {
				t.Fatalf("%v has several orders", other)
			}
		}
		if t.Failed() {
			t.FailNow()
		}
	}
	if had[true] < 100 || had[false] < 100 {
		t.Errorf("so many had an order: %v", had)
	}
}

// P13.3: a history that has an order has one, too, if it is cut off anywhere.
func TestHistoriesThatAreCutOff(t *testing.T) {
	for seed := range 300 {
		l, _, c := played(seed, 1+seed%10, 1+seed%7, seed%2 == 0)
		for n := range len(l) + 1 {
			order, g, e := Search(c, l[:n])
			if e != api.OK {
				t.Fatalf("Search of %v is %d, and of %v there is an order", l[:n], e, l)
			}
			wantOrder(t, c, l[:n], order, g, api.OK)
		}
	}
}
