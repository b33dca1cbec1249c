package hist

import (
	"testing"

	"tendril/api"
	"tendril/sample"
)

// P12.1: the chapter's example.
func TestCallsOfTheExample(t *testing.T) {
	wantCalls(t, []api.Event{sample.Called(1, add), sample.Called(2, get), sample.Came(1, add, api.Result{Id: 1})}, []api.Call{
		{Thread: 1, Op: add, From: 0, To: 2, Result: api.Result{Id: 1}},
		{Thread: 2, Op: get, From: 1, To: -1},
	})
}

// P12.1
func TestCalls(t *testing.T) {
	wantCalls(t, nil, nil)
	wantCalls(t, []api.Event{}, nil)
	wantCalls(t, mixed(), mixedCalls())
	wantCalls(t, []api.Event{sample.Called(0, add)}, []api.Call{{Op: add, To: -1}})
	wantCalls(t, []api.Event{sample.Called(63, add)}, []api.Call{{Thread: 63, Op: add, To: -1}})
	wantCalls(t, []api.Event{sample.Called(0, add), sample.Came(0, add, api.Result{})}, []api.Call{{Op: add, To: 1}})
	wantCalls(t, []api.Event{sample.Called(9, get), sample.Came(9, get, sample.Result())}, []api.Call{{Thread: 9, Op: get, To: 1, Result: sample.Result()}})
	wantCalls(t, []api.Event{sample.Called(9, get), sample.Came(9, get, sample.Result()), sample.Called(9, get)}, []api.Call{
		{Thread: 9, Op: get, To: 1, Result: sample.Result()},
		{Thread: 9, Op: get, From: 2, To: -1},
	})
}

// P12.1: a history that is cut off anywhere is one; what comes later is missing.
func TestCallsOfEachBeginning(t *testing.T) {
	for n := range len(mixed()) {
		var want []api.Call
		for _, c := range mixedCalls() {
			if c.From >= n {
				continue
			}
			if c.To >= n {
				c.To, c.Result = -1, api.Result{}
			}
			want = append(want, c)
		}
		wantCalls(t, mixed()[:n], want)
	}
}

// P12.1: all threads that there are have a call open at once, and come to their results the other way round.
func TestCallsOfAllThreads(t *testing.T) {
	var l []api.Event
	var pending, done []api.Call
	for i := range 64 {
		l = append(l, sample.Called(i, api.Op{Kind: i, V: -i}))
		pending = append(pending, api.Call{Thread: i, Op: api.Op{Kind: i, V: -i}, From: i, To: -1})
		done = append(done, api.Call{Thread: i, Op: api.Op{Kind: i, V: -i}, From: i, To: 127 - i, Result: api.Result{Id: i}})
	}
	wantCalls(t, l, pending)
	for i := 63; i >= 0; i-- {
		l = append(l, sample.Came(i, api.Op{Kind: i, V: -i}, api.Result{Id: i}))
	}
	wantCalls(t, l, done)
}

// P12.1: however many.
func TestCallsOfMany(t *testing.T) {
	var l []api.Event
	var want []api.Call
	for i := range 3000 {
		o := api.Op{Kind: i % 11, A: i}
		l = append(l, sample.Called(i%64, o), sample.Came(i%64, o, api.Result{Id: -i}))
		want = append(want, api.Call{Thread: i % 64, Op: o, From: 2 * i, To: 2*i + 1, Result: api.Result{Id: -i}})
	}
	wantCalls(t, l, want)
}

// P12.1: what operations and results say is not asked, but whether the operations are the same.
func TestCallsOfWhateverOperations(t *testing.T) {
	for _, o := range append(otherOps(api.Op{Kind: greatest, A: least, B: greatest, K: least, V: greatest}), otherOps(api.Op{})...) {
		for _, r := range append(sample.Others(sample.Result()), api.Result{Err: least, Id: greatest}) {
			wantCalls(t, []api.Event{sample.Called(3, o), sample.Came(3, o, r)}, []api.Call{{Thread: 3, Op: o, To: 1, Result: r}})
		}
	}
}

// P12.1: each call of a list, and each result, of a number that is no thread's.
func TestNoThread(t *testing.T) {
	for _, n := range noThreads {
		wantNone(t, []api.Event{sample.Called(n, add)})
		wantNone(t, []api.Event{sample.Called(n, add), sample.Came(n, add, api.Result{Id: 1})})
		wantNone(t, []api.Event{sample.Came(n, add, api.Result{Id: 1})})
		wantNone(t, []api.Event{sample.Called(n&63, add), sample.Came(n, add, api.Result{Id: 1})})
		for i := range mixed() {
			wantNone(t, change(mixed(), func(l []api.Event) { l[i].Thread = n }))
		}
	}
}

// P12.1: calls and results in turn, of each thread.
func TestNotInTurn(t *testing.T) {
	wantNone(t, []api.Event{sample.Came(0, add, api.Result{Id: 1})})
	wantNone(t, []api.Event{sample.Came(0, api.Op{}, api.Result{})})
	wantNone(t, []api.Event{sample.Called(0, add), sample.Called(0, add)})
	wantNone(t, []api.Event{sample.Called(0, add), sample.Called(0, get)})
	wantNone(t, []api.Event{sample.Called(0, add), sample.Came(1, add, api.Result{Id: 1})})
	wantNone(t, []api.Event{sample.Called(0, add), sample.Came(63, add, api.Result{Id: 1})})
	wantNone(t, []api.Event{sample.Came(0, add, api.Result{Id: 1}), sample.Called(0, add)})
	wantNone(t, []api.Event{sample.Called(0, add), sample.Came(0, add, api.Result{Id: 1}), sample.Came(0, add, api.Result{Id: 1})})
	wantNone(t, []api.Event{sample.Called(0, add), sample.Called(1, add), sample.Came(0, add, api.Result{Id: 1}), sample.Called(1, add)})
	last := map[int]bool{8: true, 9: true, 11: true, 13: true} // of their threads: these may be left out
	for i := range mixed() {
		if !last[i] {
			wantNone(t, append(mixed()[:i:i], mixed()[i+1:]...))
		}
		wantNone(t, append(mixed()[:i+1:i+1], mixed()[i:]...))
		wantNone(t, change(mixed(), func(l []api.Event) { l[i].Done = !l[i].Done }))
	}
}

// P12.1: an event that is a call has no result; lists without elements are none.
func TestCallWithAResult(t *testing.T) {
	for i, x := range mixed() {
		if x.Done {
			continue
		}
		for _, r := range append(sample.Others(api.Result{}), sample.Result()) {
			wantNone(t, change(mixed(), func(l []api.Event) { l[i].Result = r }))
			wantNone(t, change(mixed(), func(l []api.Event) { l[i].Result = sample.Emptied(r) }))
		}
		wantCalls(t, change(mixed(), func(l []api.Event) { l[i].Result = sample.Emptied(api.Result{}) }), mixedCalls())
	}
}

// P12.1: a result's operation is its call's, also where its kind does not look.
func TestResultOfAnotherOperation(t *testing.T) {
	pending := map[int]int{8: 5, 13: 7} // at these places stand calls that may be of any operation
	for i, x := range mixed() {
		for _, o := range otherOps(x.Op) {
			other := change(mixed(), func(l []api.Event) { l[i].Op = o })
			which, ok := pending[i]
			if !ok {
				wantNone(t, other)
				continue
			}
			want := mixedCalls()
			want[which].Op = o
			wantCalls(t, other, want)
		}
	}
	wantNone(t, []api.Event{sample.Called(1, get), sample.Called(2, add), sample.Came(1, add, api.Result{}), sample.Came(2, get, api.Result{})})
}

// P12.1, R3: a result is told with its lists, and lists without elements are nil or empty.
func TestResultsOfListsWithoutElements(t *testing.T) {
	for _, x := range mixed() {
		if x.Done {
			wantCalls(t, []api.Event{sample.Called(5, x.Op), sample.Came(5, x.Op, sample.Emptied(x.Result))}, []api.Call{{Thread: 5, Op: x.Op, To: 1, Result: x.Result}})
		}
	}
}
