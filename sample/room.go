package sample

import "tendril/api"

// WithRoom tells a list with room behind it that is filled: whoever appends to it writes where a test can see it.
func WithRoom[T any](l []T, filled T) []T {
	roomy := append([]T{}, l...)
	roomy = append(roomy, filled, filled, filled)
	return roomy[:len(l)]
}

// Whole tells a list in memory of its own, with what stands behind it.
func Whole[T any](l []T) []T {
	return append([]T{}, l[:cap(l)]...)
}

// Roomy tells a result with room behind all its lists.
func Roomy(r api.Result) api.Result {
	r.Pairs = WithRoom(r.Pairs, api.Pair{K: 77, V: 77})
	r.Out, r.In = WithRoom(r.Out, api.End{Edge: 77}), WithRoom(r.In, api.End{Node: 77})
	return r
}

// WholeResult tells a result in memory of its own, its lists with what stands behind them.
func WholeResult(r api.Result) api.Result {
	r.Pairs, r.Out, r.In = Whole(r.Pairs), Whole(r.Out), Whole(r.In)
	return r
}

// Spoil writes into all of a list, and into the room behind it.
func Spoil[T any](l []T, with T) {
	l = l[:cap(l)]
	for i := range l {
		l[i] = with
	}
}

// SpoilResult writes into all that can be reached of a result.
func SpoilResult(r api.Result) {
	Spoil(r.Pairs, api.Pair{K: -88, V: -88})
	Spoil(r.Out, api.End{Edge: -88, Node: -88})
	Spoil(r.In, api.End{Edge: -88, Node: -88})
}
