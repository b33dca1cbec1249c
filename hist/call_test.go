package hist

import (
	"testing"

	"tendril/api"
	"tendril/sample"
)

// P12.2: by the places alone, from the least number to the greatest.
func TestBefore(t *testing.T) {
	for _, x := range []struct {
		to, from int
		want     bool
	}{
		{2, 3, true}, {0, 1, true}, {0, greatest, true}, {greatest - 1, greatest, true}, {5, 1 << 62, true},
		{3, 3, false}, {4, 3, false}, {0, 0, false}, {greatest, greatest, false}, {greatest, least, false}, {0, -1, false}, {0, least, false}, {1 << 62, 5, false},
		{-1, 0, false}, {-1, 3, false}, {-1, greatest, false}, {-2, 3, false}, {-2, -1, false}, {least, greatest, false}, {least, 0, false}, {least, least, false},
	} {
		for _, of := range []int{least, 0, greatest} {
			a := api.Call{Thread: 1, Op: add, From: of, To: x.to, Result: sample.Result()}
			b := api.Call{Thread: 2, Op: get, From: x.from, To: of}
			if Before(a, b) != x.want {
				t.Errorf("Before %v, %v is %v", a, b, !x.want)
			}
		}
	}
}

// P12.2: of calls of a history, those that are pending included; none is before itself.
func TestBeforeInAHistory(t *testing.T) {
	before := map[[2]int]bool{
		{0, 2}: true, {0, 3}: true, {0, 4}: true, {0, 5}: true, {0, 6}: true, {0, 7}: true,
		{1, 5}: true, {1, 6}: true, {1, 7}: true,
		{2, 6}: true, {2, 7}: true,
		{3, 4}: true, {3, 5}: true, {3, 6}: true, {3, 7}: true,
		{4, 7}: true,
		{6, 7}: true,
	}
	for i, a := range mixedCalls() {
		for k, b := range mixedCalls() {
			if Before(a, b) != before[[2]int{i, k}] {
				t.Errorf("Before of the calls %d, %d is %v", i, k, !before[[2]int{i, k}])
			}
		}
	}
}

// P12.2: what a call is of is not asked.
func TestBeforeLooksAtPlacesAlone(t *testing.T) {
	for _, c := range otherCalls(api.Call{}) {
		a, b := c, c
		a.To, b.From = 4, 5
		if !Before(a, b) {
			t.Errorf("Before %v, %v is false", a, b)
		}
		b.From = 4
		if Before(a, b) {
			t.Errorf("Before %v, %v is true", a, b)
		}
	}
}

func wantPending(t *testing.T, want int, to ...int) {
	t.Helper()
	var l []api.Call
	for i, x := range to {
		l = append(l, api.Call{Thread: i, From: -i, To: x, Result: sample.Result()})
	}
	if n := Pending(l); n != want {
		t.Errorf("Pending of %v is %d; want %d", l, n, want)
	}
}

// P12.2
func TestPending(t *testing.T) {
	wantPending(t, 0)
	wantPending(t, 0, 0)
	wantPending(t, 0, 0, 1, greatest)
	wantPending(t, 1, -1)
	wantPending(t, 3, -1, -1, -1)
	wantPending(t, 3, -2, least, least+1)
	wantPending(t, 2, -1, 0, 5, -1)
	wantPending(t, 2, 0, -1, 1<<62, least, greatest)
	if n := Pending([]api.Call{}); n != 0 {
		t.Errorf("Pending of no calls is %d", n)
	}
	if n := Pending(mixedCalls()); n != 2 {
		t.Errorf("Pending of %v is %d", mixedCalls(), n)
	}
}

// All calls that differ from one in one number, or by one element.
func otherCalls(c api.Call) []api.Call {
	var told []api.Call
	for i := range 3 {
		for _, by := range []int{1, -1, 1 << 32, least} {
			x := c
			*[]*int{&x.Thread, &x.From, &x.To}[i] += by
			told = append(told, x)
		}
	}
	for _, o := range otherOps(c.Op) {
		x := c
		x.Op = o
		told = append(told, x)
	}
	for _, r := range sample.Others(c.Result) {
		x := c
		x.Result = r
		told = append(told, x)
	}
	return told
}

// P12.2: each call with itself, in memory of its own, and with all that differ in one thing.
func TestSame(t *testing.T) {
	some := api.Call{Thread: 3, Op: set, From: 4, To: 9, Result: sample.Result()}
	edge := api.Call{Thread: least, Op: api.Op{Kind: greatest, A: least, B: -1, K: greatest, V: least}, From: greatest, To: least, Result: api.Result{Err: greatest, Id: least}}
	for _, c := range append(mixedCalls(), api.Call{}, some, edge) {
		same := c
		same.Result = sample.Copied(c.Result)
		if !Same(c, same) || !Same(same, c) {
			t.Errorf("Same of %v and itself is false", c)
		}
		same.Result = sample.Emptied(c.Result)
		if !Same(c, same) || !Same(same, c) {
			t.Errorf("Same of %v, with lists that are nil, and with empty ones is false", c)
		}
		for _, other := range otherCalls(c) {
			if Same(c, other) || Same(other, c) {
				t.Errorf("Same of %v and %v is true", c, other)
			}
		}
	}
}

// P12.2: the same edges as those from a node and those to it are not the same, nor is another order; nor are two that have not come to a result, with two places that say so.
func TestSameOfWhatIsAlike(t *testing.T) {
	for _, x := range [][2]api.Call{
		{{Result: api.Result{Out: sample.Ends(1, 2)}}, {Result: api.Result{In: sample.Ends(1, 2)}}},
		{{Result: api.Result{Out: sample.Ends(1, 2, 3, 4)}}, {Result: api.Result{Out: sample.Ends(3, 4, 1, 2)}}},
		{{Result: api.Result{Pairs: sample.Pairs(1, 2, 3, 4)}}, {Result: api.Result{Pairs: sample.Pairs(3, 4, 1, 2)}}},
		{{Result: api.Result{Pairs: sample.Pairs(1, 2)}}, {Result: api.Result{Pairs: sample.Pairs(1, 2, 1, 2)}}},
		{{Result: api.Result{Id: 1}}, {Result: api.Result{Err: 1}}},
		{{From: 1}, {To: 1}},
		{{To: -1}, {To: -2}},
		{{Op: api.Op{A: 1}}, {Op: api.Op{B: 1}}},
	} {
		if Same(x[0], x[1]) || Same(x[1], x[0]) {
			t.Errorf("Same of %v and %v is true", x[0], x[1])
		}
	}
}
