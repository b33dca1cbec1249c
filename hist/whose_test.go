package hist

import (
	"testing"

	"tendril/api"
	"tendril/sample"
)

// The history, with room behind all its lists.
func roomy(l []api.Event) []api.Event {
	told := sample.WithRoom(l, calls(77, api.Op{Kind: 77}))
	for i := range told {
		told[i].Result = sample.Roomy(told[i].Result)
	}
	return told
}

func wholeResult(r api.Result) string {
	return text(r.Err, r.Id, r.Pairs[:cap(r.Pairs)], r.Out[:cap(r.Out)], r.In[:cap(r.In)])
}

// The history, as text, with what stands behind its lists.
func whole(l []api.Event) string {
	all := ""
	for _, e := range l[:cap(l)] {
		all += text(e.Thread, e.Done, e.Op, wholeResult(e.Result), "; ")
	}
	return all
}

func spoil(l []api.Event) {
	for _, e := range l[:cap(l)] {
		sample.SpoilResult(e.Result)
	}
	sample.Spoil(l, comes(-88, api.Op{Kind: -88}, api.Result{Id: -88}))
}

func spoilCalls(l []api.Call) {
	for _, c := range l[:cap(l)] {
		sample.SpoilResult(c.Result)
	}
	sample.Spoil(l, api.Call{Thread: -88, To: -88})
}

// Histories that may be and that may not be, the latter ones at their ends.
func someHistories() [][]api.Event {
	return [][]api.Event{
		nil, mixed(), mixed()[:6],
		append(mixed(), calls(64, add)),
		append(mixed(), comes(9, add, sample.Result())),
		append(mixed(), api.Event{Thread: 9, Op: add, Result: sample.Result()}),
	}
}

// R2: what is handed in reads as it did before, and so does what stands behind its lists.
func TestWhatIsHandedInStays(t *testing.T) {
	for _, x := range someHistories() {
		l := roomy(x)
		was := whole(l)
		Check(l)
		Calls(l)
		if whole(l) != was {
			t.Errorf("behind Check and Calls the history is %s; want %s", whole(l), was)
		}
	}
	told := sample.WithRoom(mixedCalls(), api.Call{Thread: 77})
	for i := range told {
		told[i].Result = sample.Roomy(told[i].Result)
	}
	was := text(told[:cap(told)])
	Pending(told)
	for _, a := range told {
		for _, b := range told {
			Before(a, b)
			Same(a, b)
			if wholeResult(a.Result) != wholeResult(sample.Roomy(a.Result)) {
				t.Errorf("behind Before and Same the result is %s", wholeResult(a.Result))
			}
		}
	}
	if text(told[:cap(told)]) != was {
		t.Errorf("the calls are %v; want %s", told[:cap(told)], was)
	}
}

// R2: what was told does not change when the argument is written into later, nor the other way round, nor what is told again.
func TestWhatIsToldIsNew(t *testing.T) {
	for _, x := range someHistories() {
		l := roomy(x)
		first, e := Calls(l)
		again, _ := Calls(l)
		was, wasL := text(first), whole(l)
		if text(again) != was || Check(l) != e {
			t.Errorf("once more %v, %d; want %s, %d", again, Check(l), was, e)
		}
		spoilCalls(first)
		if text(again) != was || whole(l) != wasL {
			t.Errorf("behind a write into what was told: %v of %s; want %s of %s", again, whole(l), was, wasL)
		}
		spoil(l)
		if text(again) != was {
			t.Errorf("behind a write into the history: %v; want %s", again, was)
		}
	}
}

// R2: of what is told each list has memory of its own, also if events that are handed in share theirs.
func TestListsOfAnAnswerShareNone(t *testing.T) {
	pair, end := sample.Pairs(1, 2, 3, 4, 5, 6), sample.Ends(1, 2, 3, 4, 5, 6)
	r := api.Result{Pairs: pair, Out: end, In: end[:2]}
	history := []api.Event{calls(0, get), comes(0, get, r), calls(0, near), calls(9, near), comes(9, near, r), comes(0, near, r)}
	for i := range 3 {
		for _, how := range []func(r *api.Result){
			func(r *api.Result) { sample.Spoil(r.Pairs, api.Pair{K: -88}); r.Pairs = nil },
			func(r *api.Result) { sample.Spoil(r.Out, api.End{Edge: -88}); r.Out = nil },
			func(r *api.Result) { sample.Spoil(r.In, api.End{Edge: -88}); r.In = nil },
		} {
			told, _ := Calls(history)
			how(&told[i].Result)
			want := read(history)
			want[i].Result = told[i].Result
			if text(told) != text(want) {
				t.Errorf("behind a write into one of its lists: %v; want %v", told, want)
			}
		}
	}
	wantCalls(t, history, read(history))
}
