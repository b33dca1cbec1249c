package lin

import (
	"iter"
	"slices"

	"tendril/api"
	"tendril/apply"
	"tendril/graph"
	"tendril/hist"
)

// way is how far an order has come: the calls that were done, and the graph behind them.
type way struct {
	c     api.Cfg
	calls []api.Call
	order []int
	done  [api.MaxCalls]bool
	left  int // so many calls with a result are still to be done
	graph api.Graph
}

func begin(c api.Cfg, l []api.Event) (way, api.Errno) {
	// A graph without nodes may be whenever its configuration may be.
	g := graph.New()
	if e := graph.Check(c, g); e != api.OK {
		return way{}, e
	}
	calls, e := hist.Calls(l)
	if e != api.OK {
		return way{}, e
	}
	if len(calls) > api.MaxCalls {
		return way{}, api.ErrArg
	}
	return way{c: c, calls: calls, left: len(calls) - hist.Pending(calls), graph: g}, api.OK
}

// An order ends with its last call that has a result, so what is whole never goes on.
func (w way) whole() bool {
	return w.left == 0
}

// then does one call more, if it can be the next one.
func (w way) then(i int) (way, bool) {
	if w.whole() || !w.mayBeNext(i) {
		return way{}, false
	}
	call := w.calls[i]
	fits := true
	if call.To < 0 {
		w.graph, _ = apply.Do(w.c, w.graph, call.Op)
	} else {
		w.graph, fits = apply.Fits(w.c, w.graph, call.Op, call.Result)
		w.left--
	}
	w.order = append(slices.Clip(w.order), i)
	w.done[i] = true
	return w, fits
}

// A call that is before this one has a result, so it is in each order, and it must not come later.
func (w way) mayBeNext(i int) bool {
	if i < 0 || i >= len(w.calls) || w.done[i] {
		return false
	}
	for k, call := range w.calls {
		if !w.done[k] && hist.Before(call, w.calls[i]) {
			return false
		}
	}
	return true
}

// orders tells the orders that begin so, the first ones ahead; of those that come to the same graph by the same calls, the first one alone.
func (w way) orders() iter.Seq[way] {
	return func(yield func(w way) bool) {
		w.tell(map[state]bool{}, yield)
	}
}

// Behind a way that comes to a state that was seen comes nothing but what came behind the one ahead of it.
func (w way) tell(seen map[state]bool, yield func(w way) bool) bool {
	if w.whole() {
		return yield(w)
	}
	for i := range w.calls {
		next, ok := w.then(i)
		s := next.state()
		if !ok || seen[s] {
			continue
		}
		seen[s] = true
		if !next.tell(seen, yield) {
			return false
		}
	}
	return true
}
