package hist

import (
	"testing"

	"tendril/api"
	"tendril/sample"
)

func spoilCalls(l []api.Call) {
	for _, c := range l[:cap(l)] {
		sample.SpoilResult(c.Result)
	}
	sample.Spoil(l, api.Call{Thread: -88, To: -88})
}

// Histories that may be and that may not be, the latter ones at their ends.
func someHistories() [][]api.Event {
	return [][]api.Event{
		nil, mixed(), mixed()[:6],
		append(mixed(), sample.Called(64, add)),
		append(mixed(), sample.Came(9, add, sample.Result())),
		append(mixed(), api.Event{Thread: 9, Op: add, Result: sample.Result()}),
	}
}

// R2: what is handed in reads as it did before, and so does what stands behind its lists.
func TestWhatIsHandedInStays(t *testing.T) {
	for _, x := range someHistories() {
		l := sample.RoomyHistory(x)
		was := text(sample.WholeHistory(l))
		Check(l)
		Calls(l)
		if text(sample.WholeHistory(l)) != was {
			t.Errorf("behind Check and Calls the history is %s; want %s", text(sample.WholeHistory(l)), was)
		}
	}
	told := sample.WithRoom(mixedCalls(), api.Call{Thread: 77})
	for i := range told {
		told[i].Result = sample.Roomy(told[i].Result)
	}
	was := text(told[:cap(told)])
	Pending(told)
	for _, a := range told {
		for _, b := range told {
			Before(a, b)
			Same(a, b)
			if text(sample.WholeResult(a.Result)) != text(sample.WholeResult(sample.Roomy(a.Result))) {
				t.Errorf("behind Before and Same the result is %s", text(sample.WholeResult(a.Result)))
			}
		}
	}
	if text(told[:cap(told)]) != was {
		t.Errorf("the calls are %v; want %s", told[:cap(told)], was)
	}
}

// R2: what was told does not change when the argument is written into later, nor the other way round, nor what is told again.
func TestWhatIsToldIsNew(t *testing.T) {
	for _, x := range someHistories() {
		l := sample.RoomyHistory(x)
		first, e := Calls(l)
		again, _ := Calls(l)
		was, wasL := text(first), text(sample.WholeHistory(l))
		if text(again) != was || Check(l) != e {
			t.Errorf("once more %v, %d; want %s, %d", again, Check(l), was, e)
		}
		spoilCalls(first)
		if text(again) != was || text(sample.WholeHistory(l)) != wasL {
			t.Errorf("behind a write into what was told: %v of %s; want %s of %s", again, text(sample.WholeHistory(l)), was, wasL)
		}
		sample.SpoilHistory(l)
		if text(again) != was {
			t.Errorf("behind a write into the history: %v; want %s", again, was)
		}
	}
}

// R2: of what is told each list has memory of its own, also if events that are handed in share theirs.
func TestListsOfAnAnswerShareNone(t *testing.T) {
	pair, end := sample.Pairs(1, 2, 3, 4, 5, 6), sample.Ends(1, 2, 3, 4, 5, 6)
	r := api.Result{Pairs: pair, Out: end, In: end[:2]}
	history := []api.Event{sample.Called(0, get), sample.Came(0, get, r), sample.Called(0, near), sample.Called(9, near), sample.Came(9, near, r), sample.Came(0, near, r)}
	for i := range 3 {
		for _, how := range []func(r *api.Result){
			func(r *api.Result) { sample.Spoil(r.Pairs, api.Pair{K: -88}); r.Pairs = nil },
			func(r *api.Result) { sample.Spoil(r.Out, api.End{Edge: -88}); r.Out = nil },
			func(r *api.Result) { sample.Spoil(r.In, api.End{Edge: -88}); r.In = nil },
		} {
			told, _ := Calls(history)
			how(&told[i].Result)
			want := read(history)
			want[i].Result = told[i].Result
			if text(told) != text(want) {
				t.Errorf("behind a write into one of its lists: %v; want %v", told, want)
			}
		}
	}
	wantCalls(t, history, read(history))
}
