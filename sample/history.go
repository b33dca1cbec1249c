package sample

import "tendril/api"

// Called makes an event at which a thread calls an operation.
func Called(thread int, o api.Op) api.Event {
	return api.Event{Thread: thread, Op: o}
}

// Came makes an event at which a thread's operation comes to a result.
func Came(thread int, o api.Op, r api.Result) api.Event {
	return api.Event{Thread: thread, Done: true, Op: o, Result: r}
}

// RoomyHistory tells a history with room behind all its lists.
func RoomyHistory(l []api.Event) []api.Event {
	told := WithRoom(l, Called(77, api.Op{Kind: 77}))
	for i := range told {
		told[i].Result = Roomy(told[i].Result)
	}
	return told
}

// WholeHistory tells a history in memory of its own, its lists with what stands behind them.
func WholeHistory(l []api.Event) []api.Event {
	told := Whole(l)
	for i := range told {
		told[i].Result = WholeResult(told[i].Result)
	}
	return told
}

// SpoilHistory writes into all that can be reached of a history.
func SpoilHistory(l []api.Event) {
	for _, e := range l[:cap(l)] {
		SpoilResult(e.Result)
	}
	Spoil(l, Came(-88, api.Op{Kind: -88}, api.Result{Id: -88}))
}
