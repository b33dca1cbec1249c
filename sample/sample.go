// Package sample makes operations, results, graphs and histories for the tests of several layers; the program itself does not call it.
package sample

import (
	"math"

	"tendril/api"
)

// Pairs makes properties of two numbers each: a key, a value.
func Pairs(l ...int) []api.Pair {
	var told []api.Pair
	for i := 0; i+1 < len(l); i += 2 {
		told = append(told, api.Pair{K: l[i], V: l[i+1]})
	}
	return told
}

// Ends makes ends of two numbers each: an edge, a node.
func Ends(l ...int) []api.End {
	var told []api.End
	for i := 0; i+1 < len(l); i += 2 {
		told = append(told, api.End{Edge: l[i], Node: l[i+1]})
	}
	return told
}

// Result makes a result that has something in all.
func Result() api.Result {
	return api.Result{Err: 2, Id: 7, Pairs: Pairs(1, 2, math.MinInt, math.MaxInt), Out: Ends(3, 4, 5, 6), In: Ends(8, 9, 10, 11)}
}

// Copied tells a result in memory of its own; lists without elements are nil then.
func Copied(r api.Result) api.Result {
	r.Pairs, r.Out, r.In = append([]api.Pair(nil), r.Pairs...), append([]api.End(nil), r.Out...), append([]api.End(nil), r.In...)
	return r
}

// Emptied tells a result in memory of its own; lists without elements are empty then, not nil.
func Emptied(r api.Result) api.Result {
	r.Pairs, r.Out, r.In = append([]api.Pair{}, r.Pairs...), append([]api.End{}, r.Out...), append([]api.End{}, r.In...)
	return r
}
