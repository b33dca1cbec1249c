package order

import (
	"math"
	"slices"
	"testing"

	"tendril/api"
)

// All numbers of which the small lists are made, as they rise.
func someNumbers() []int {
	return []int{math.MinInt, -1, 0, 1, math.MaxInt}
}

// What is asked beside them, so that there is some below, between and beyond.
func askedNumbers() []int {
	return []int{math.MinInt, math.MinInt + 1, -2, -1, 0, 1, 2, math.MaxInt - 1, math.MaxInt}
}

// All lists of at most so many of these numbers, in every order, each as often as it may be.
func listsUpTo(length int) [][]int {
	all := [][]int{nil}
	last := all
	for range length {
		var longer [][]int
		for _, l := range last {
			for _, n := range someNumbers() {
				longer = append(longer, append(slices.Clone(l), n))
			}
		}
		all, last = append(all, longer...), longer
	}
	return all
}

func isIn(l []int, n int) bool {
	for _, m := range l {
		if m == n {
			return true
		}
	}
	return false
}

// The chapter's words, gone through number by number as they rise: no map, and nothing is sorted.
func setOf(lists ...[]int) []int {
	var s []int
	for _, n := range someNumbers() {
		for _, l := range lists {
			if isIn(l, n) {
				s = append(s, n)
				break
			}
		}
	}
	return s
}

func firstAbove(rising []int, n int) (int, bool) {
	for _, m := range rising {
		if m > n {
			return m, true
		}
	}
	return 0, false
}

// P9.1: a list is a set just if Set of it is the list itself.
func TestSetAndCheckOfAllSmallLists(t *testing.T) {
	for _, l := range listsUpTo(5) {
		want := setOf(l)
		wantList(t, "Set", Set(l...), want)
		e := api.ErrArg
		if slices.Equal(l, want) {
			e = api.OK
		}
		if got := Check(l); got != e {
			t.Errorf("Check(%v) = %d; want %d", l, got, e)
		}
	}
}

// P9.2, P9.3
func TestHasAndAboveOfAllSmallLists(t *testing.T) {
	for _, l := range listsUpTo(5) {
		s := setOf(l)
		for _, n := range askedNumbers() {
			if got := Has(l, n); got != isIn(s, n) {
				t.Errorf("Has(%v, %d) = %v", l, n, got)
			}
			want, some := firstAbove(s, n)
			if got, ok := Above(l, n); got != want || ok != some {
				t.Errorf("Above(%v, %d) = %d, %v; want %d, %v", l, n, got, ok, want, some)
			}
		}
	}
}

// P9.2
func TestWithinAndUnionOfAllSmallLists(t *testing.T) {
	all := listsUpTo(3)
	for _, a := range all {
		for _, b := range all {
			both := setOf(a, b)
			wantList(t, "Union", Union(a, b), both)
			if got := Within(a, b); got != slices.Equal(both, setOf(b)) {
				t.Errorf("Within(%v, %v) = %v", a, b, got)
			}
		}
	}
}

// What stands in front of the promises: lists that are no sets are as good as Set of them.
func TestListsThatAreNoSetsAreAsSetsOfThem(t *testing.T) {
	all := listsUpTo(3)
	for _, a := range all {
		s := Set(a...)
		for _, n := range askedNumbers() {
			ofList, ok := Above(a, n)
			ofSet, some := Above(s, n)
			if Has(a, n) != Has(s, n) || ofList != ofSet || ok != some {
				t.Errorf("%v and its set are not the same at %d", a, n)
			}
		}
		for _, b := range all {
			if Within(a, b) != Within(s, Set(b...)) || !slices.Equal(Union(a, b), Union(s, Set(b...))) {
				t.Errorf("%v and %v are not as their sets", a, b)
			}
		}
	}
}

// P9.4: all orders of some numbers, two of them told twice.
func TestTheSameInWhateverOrder(t *testing.T) {
	want := []int{math.MinInt, -4, 0, 9, math.MaxInt}
	ordered := 0
	eachOrder([]int{9, math.MinInt, -4, 9, math.MaxInt, 0, -4}, 0, func(l []int) {
		ordered++
		wantList(t, "Set", Set(l...), want)
		wantList(t, "Union", Union(l[:3], l[3:]), want)
		if !Within(l, want) || !Within(want, l) {
			t.Errorf("%v and %v are not within each other", l, want)
		}
	})
	if ordered != 5040 {
		t.Errorf("%d orders were asked; want 5040", ordered)
	}
}

func eachOrder(l []int, from int, do func([]int)) {
	if from == len(l) {
		do(l)
		return
	}
	for i := from; i < len(l); i++ {
		l[from], l[i] = l[i], l[from]
		eachOrder(l, from+1, do)
		l[from], l[i] = l[i], l[from]
	}
}

// P9.4: what is told of sets does not hang on how they came to be.
func TestSetOfASetIsTheSet(t *testing.T) {
	for _, l := range listsUpTo(4) {
		s := Set(l...)
		wantList(t, "Set of a set", Set(s...), s)
		wantList(t, "Union of a set and itself", Union(s, s), s)
		wantList(t, "Union of a set and none", Union(s, nil), s)
		if Check(s) != api.OK || !Within(s, l) || !Within(l, s) {
			t.Errorf("%v is not the set of %v", s, l)
		}
	}
}

// Latches are taken from the least on: each number of a set comes by Above behind the one before.
func TestAboveGoesThroughTheSet(t *testing.T) {
	for _, l := range listsUpTo(4) {
		var gone []int
		n, ok := math.MinInt, isIn(l, math.MinInt)
		if !ok {
			n, ok = Above(l, n)
		}
		for ok && len(gone) <= len(l) {
			gone = append(gone, n)
			n, ok = Above(l, n)
		}
		wantList(t, "what Above goes through", gone, setOf(l))
	}
}

const many = 30000

// Numbers 0 to many less 1, in an order that neither rises nor falls; stride and many share no factor.
func scattered(stride int) []int {
	l := make([]int, many)
	for i := range l {
		l[i] = i * stride % many
	}
	return l
}

// P9.4, R6: of many numbers a map's keys come in another order each time; what is told is the same.
func TestManyNumbers(t *testing.T) {
	want := make([]int, many)
	for i := range want {
		want[i] = i
	}
	falling := slices.Clone(want)
	slices.Reverse(falling)
	for _, l := range [][]int{want, falling, scattered(7919), scattered(12347), append(scattered(7919), scattered(29)...)} {
		if got := Set(l...); !slices.Equal(got, want) || Check(got) != api.OK {
			t.Error("Set of many numbers is not all of them, as they rise")
		}
		if got := Union(l, falling); !slices.Equal(got, want) {
			t.Error("Union of many numbers is not all of them, as they rise")
		}
		if !Within(l, want) || !Within(want, l) || Within(append(slices.Clone(l), many), want) || Within(want, l[:many-1]) {
			t.Error("Within tells something else of many numbers")
		}
		if n, ok := Above(l, many-2); n != many-1 || !ok || !Has(l, many-1) || Has(l, many) {
			t.Errorf("Above(l, %d) = %d, %v, or Has tells something else of many numbers", many-2, n, ok)
		}
	}
}

// R6
func TestTheSameAgain(t *testing.T) {
	l := []int{8, 3, 5, 8, 1, 13, 2, 21, 0, -1, 34, 5}
	s, u := Set(l...), Union(l, []int{4, 3, -9})
	for range 200 {
		wantList(t, "Set", Set(l...), s)
		wantList(t, "Union", Union(l, []int{4, 3, -9}), u)
	}
}
