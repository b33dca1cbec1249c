package hist

import (
	"slices"

	"tendril/api"
)

func mayBegin(e api.Event) bool {
	return e.Thread >= 0 && e.Thread < api.MaxThreads && !e.Done && sameResult(e.Result, api.Result{})
}

// Whose call is open is looked up by the thread of e, so that c is of the same one.
func mayEnd(e api.Event, c api.Call) bool {
	return e.Done && e.Op == c.Op
}

// Any place below 0 says so, not only the one that Calls tells.
func pending(c api.Call) bool {
	return c.To < 0
}

func sameResult(a, b api.Result) bool {
	return a.Err == b.Err && a.Id == b.Id &&
		slices.Equal(a.Pairs, b.Pairs) && slices.Equal(a.Out, b.Out) && slices.Equal(a.In, b.In)
}

// Whoever handed in the events may write into their lists later.
func fresh(r api.Result) api.Result {
	r.Pairs, r.Out, r.In = slices.Clone(r.Pairs), slices.Clone(r.Out), slices.Clone(r.In)
	return r
}
