package hist

import (
	"fmt"
	"math"
	"testing"

	"tendril/api"
	"tendril/sample"
)

const (
	least    = math.MinInt
	greatest = math.MaxInt
)

// Numbers that are no thread's, those included that would be some if only some bits were looked at.
var noThreads = []int{-1, -2, -63, -64, 64, 65, 127, 128, 255, 256, 1 << 16, 1 << 32, 1<<32 + 1, -1 << 32, 1<<62 + 63, least, least + 1, least + 63, greatest - 1, greatest}

var (
	add  = api.Op{Kind: api.AddO}
	link = api.Op{Kind: api.LinkO, A: 1, B: 2}
	set  = api.Op{Kind: api.SetO, A: 1, K: 7, V: 5}
	get  = api.Op{Kind: api.GetO, A: 1}
	near = api.Op{Kind: api.NearO, A: 2}
)

// Two values that are not the same do not read the same, as all in them are numbers and bools; lists without elements do, nil or empty.
func text(x ...any) string {
	return fmt.Sprint(x...)
}

func fails(e api.Errno) api.Result {
	return api.Result{Err: e}
}

// Four threads, calls that overlap, one inside another one, one behind the other; two are pending.
func mixed() []api.Event {
	return []api.Event{
		sample.Called(63, add),
		sample.Called(0, set),
		sample.Came(63, add, api.Result{Id: 1}),
		sample.Called(63, near),
		sample.Called(7, get),
		sample.Came(7, get, api.Result{Pairs: sample.Pairs(7, 5, 9, 9)}),
		sample.Called(7, get),
		sample.Came(0, set, fails(api.ErrFull)),
		sample.Called(5, link),
		sample.Came(63, near, api.Result{Out: sample.Ends(1, 2, 2, 2), In: sample.Ends(2, 2)}),
		sample.Called(0, add),
		sample.Came(7, get, fails(api.ErrNone)),
		sample.Came(0, add, api.Result{Id: 2}),
		sample.Called(0, add),
	}
}

func mixedCalls() []api.Call {
	return []api.Call{
		{Thread: 63, Op: add, From: 0, To: 2, Result: api.Result{Id: 1}},
		{Thread: 0, Op: set, From: 1, To: 7, Result: fails(api.ErrFull)},
		{Thread: 63, Op: near, From: 3, To: 9, Result: api.Result{Out: sample.Ends(1, 2, 2, 2), In: sample.Ends(2, 2)}},
		{Thread: 7, Op: get, From: 4, To: 5, Result: api.Result{Pairs: sample.Pairs(7, 5, 9, 9)}},
		{Thread: 7, Op: get, From: 6, To: 11, Result: fails(api.ErrNone)},
		{Thread: 5, Op: link, From: 8, To: -1},
		{Thread: 0, Op: add, From: 10, To: 12, Result: api.Result{Id: 2}},
		{Thread: 0, Op: add, From: 13, To: -1},
	}
}

// All operations that differ from one in one number.
func otherOps(o api.Op) []api.Op {
	var told []api.Op
	for i := range 5 {
		for _, by := range []int{1, -1, 1 << 32, least} {
			x := o
			*[]*int{&x.Kind, &x.A, &x.B, &x.K, &x.V}[i] += by
			told = append(told, x)
		}
	}
	return told
}

func change(l []api.Event, how func(l []api.Event)) []api.Event {
	told := append([]api.Event(nil), l...)
	how(told)
	return told
}

func wantCalls(t *testing.T, l []api.Event, want []api.Call) {
	t.Helper()
	if e := Check(l); e != api.OK {
		t.Errorf("Check %v is %d", l, e)
	}
	if told, e := Calls(l); e != api.OK || text(told) != text(want) {
		t.Errorf("Calls %v are %v, %d; want %v", l, told, e, want)
	}
}

func wantNone(t *testing.T, l []api.Event) {
	t.Helper()
	if e := Check(l); e != api.ErrArg {
		t.Errorf("Check %v is %d", l, e)
	}
	if told, e := Calls(l); e != api.ErrArg || len(told) != 0 {
		t.Errorf("Calls %v are %v, %d", l, told, e)
	}
}
