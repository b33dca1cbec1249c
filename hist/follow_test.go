package hist

import (
	"testing"

	"tendril/api"
	"tendril/sample"
)

// Whether a history may be, in the chapter's words: each thread's events by themselves.
func may(l []api.Event) bool {
	of := map[int][]api.Event{}
	for _, e := range l {
		if e.Thread < 0 || e.Thread > 63 {
			return false
		}
		of[e.Thread] = append(of[e.Thread], e)
	}
	for _, own := range of {
		for i, e := range own {
			if i%2 == 0 && (e.Done || !zero(e.Result)) {
				return false
			}
			if i%2 == 1 && (!e.Done || e.Op != own[i-1].Op) {
				return false
			}
		}
	}
	return true
}

func zero(r api.Result) bool {
	return r.Err == 0 && r.Id == 0 && len(r.Pairs)+len(r.Out)+len(r.In) == 0
}

// Calls in the chapter's words, of a history that may be: of each event that is a call, the next one of its thread.
func read(l []api.Event) []api.Call {
	var told []api.Call
	for i, e := range l {
		if e.Done {
			continue
		}
		c := api.Call{Thread: e.Thread, Op: e.Op, From: i, To: -1}
		for k := len(l) - 1; k > i; k-- {
			if l[k].Thread == e.Thread {
				c.To, c.Result = k, l[k].Result
			}
		}
		told = append(told, c)
	}
	return told
}

// Events of two threads and some that are none, of two operations, with two results.
func someEvents() []api.Event {
	var told []api.Event
	for _, thread := range []int{0, 63} {
		for _, o := range []api.Op{{}, {V: 1}} {
			for _, r := range []api.Result{{}, {In: sample.Ends(1, 1)}} {
				told = append(told, api.Event{Thread: thread, Op: o, Result: r}, api.Event{Thread: thread, Done: true, Op: o, Result: r})
			}
		}
	}
	return append(told, api.Event{Thread: -1}, api.Event{Thread: 64})
}

// P12.1: all histories of four events and fewer, those that may not be included. Of those that may, each event is one of two that its thread may have, or of another thread's two.
func TestAllShortHistories(t *testing.T) {
	found := map[int]int{}
	eachOf(someEvents(), 4, func(l []api.Event) {
		if may(l) {
			found[len(l)]++
			wantCalls(t, l, read(l))
		} else {
			wantNone(t, l)
		}
		if t.Failed() {
			t.FailNow()
		}
	})
	if want := (map[int]int{0: 1, 1: 4, 2: 16, 3: 64, 4: 256}); text(found) != text(want) {
		t.Errorf("so many of each length may be: %v; want %v", found, want)
	}
}

// All histories of so many of these events and fewer.
func eachOf(events []api.Event, n int, see func(l []api.Event)) {
	var grow func(l []api.Event)
	grow = func(l []api.Event) {
		see(l)
		if len(l) == n {
			return
		}
		for _, e := range events {
			grow(append(l[:len(l):len(l)], e))
		}
	}
	grow(nil)
}

// All histories of so many events that may be, of three threads, each of which has one operation after the other.
func eachHistory(n int, see func(l []api.Event)) {
	var grow func(l []api.Event, at [3]int)
	grow = func(l []api.Event, at [3]int) {
		if len(l) == n {
			see(l)
			return
		}
		for thread := range at {
			next := at
			next[thread]++
			o := api.Op{Kind: thread + 1, A: at[thread] / 2}
			e := sample.Called(31*thread, o)
			if at[thread]%2 == 1 {
				e = sample.Came(31*thread, o, api.Result{Id: at[thread]})
			}
			grow(append(l[:len(l):len(l)], e), next)
		}
	}
	grow(nil, [3]int{})
}

// P12.1, P12.3: of each thread one call at the most is pending, its last one; of two calls of one thread one is before the other one, and not the other way round.
func TestWhatFollows(t *testing.T) {
	for n := range 9 {
		eachHistory(n, func(l []api.Event) {
			told, e := Calls(l)
			if e != api.OK || text(told) != text(read(l)) {
				t.Fatalf("Calls %v are %v, %d", l, told, e)
			}
			if Pending(told) != 2*len(told)-len(l) {
				t.Fatalf("Pending of %v is %d", told, Pending(told))
			}
			for i, a := range told {
				for k, b := range told {
					wantFollows(t, told, i, k, a.Thread == b.Thread)
					if Same(a, b) != (i == k) {
						t.Fatalf("Same of %v and %v is %v", a, b, Same(a, b))
					}
				}
			}
		})
	}
}

func wantFollows(t *testing.T, l []api.Call, i, k int, own bool) {
	t.Helper()
	a, b := l[i], l[k]
	before := Before(a, b)
	if own && before != (i < k) {
		t.Fatalf("Before %v, %v, of one thread, is %v", a, b, before)
	}
	if own && i < k && Pending([]api.Call{a}) != 0 {
		t.Fatalf("%v is pending, and %v is a later one of its thread", a, b)
	}
	if before && Before(b, a) {
		t.Fatalf("%v, %v are each before the other one", a, b)
	}
}
