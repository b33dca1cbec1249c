package sample

import (
	"math"
	"slices"

	"tendril/api"
)

// Others tells results that differ from r in one thing: a number, or how long a list is, or which list stands where.
func Others(r api.Result) []api.Result {
	var told []api.Result
	other := func(change func(x *api.Result)) {
		x := Copied(r)
		change(&x)
		told = append(told, x)
	}
	for _, by := range []int{1, -1, 1 << 32, math.MinInt} {
		other(func(x *api.Result) { x.Err += api.Errno(by) })
		for i := range numbers(&r) {
			other(func(x *api.Result) { *numbers(x)[i] += by })
		}
	}
	for _, l := range lengths(r.Pairs) {
		other(func(x *api.Result) { x.Pairs = l })
	}
	for _, l := range lengths(r.Out) {
		other(func(x *api.Result) { x.Out = l })
	}
	for _, l := range lengths(r.In) {
		other(func(x *api.Result) { x.In = l })
	}
	if !slices.Equal(r.Out, r.In) {
		other(func(x *api.Result) { x.Out, x.In = x.In, x.Out })
	}
	return told
}

// The places of all of a result's numbers but Err.
func numbers(r *api.Result) []*int {
	l := []*int{&r.Id}
	for i := range r.Pairs {
		l = append(l, &r.Pairs[i].K, &r.Pairs[i].V)
	}
	for _, e := range [][]api.End{r.Out, r.In} {
		for i := range e {
			l = append(l, &e[i].Edge, &e[i].Node)
		}
	}
	return l
}

// A list with one element more, without its last one, without its first one, and without any.
func lengths[T any](l []T) [][]T {
	var zero T
	told := [][]T{append(slices.Clone(l), zero)}
	if n := len(l); n > 0 {
		told = append(told, slices.Clone(l[:n-1]), slices.Clone(l[1:]), nil)
	}
	return told
}
