package order

import (
	"math"
	"slices"
	"testing"

	"tendril/api"
)

const (
	least    = math.MinInt
	greatest = math.MaxInt
)

func wantList(t *testing.T, what string, got, want []int) {
	t.Helper()
	if !slices.Equal(got, want) {
		t.Errorf("%s = %v; want %v", what, got, want)
	}
}

// P9.1: the sets are written out, so that no rule of the program's own is held against itself.
func TestKnownSets(t *testing.T) {
	for _, x := range []struct{ l, s []int }{
		{nil, nil},
		{[]int{}, nil},
		{[]int{0}, []int{0}},
		{[]int{7}, []int{7}},
		{[]int{-7}, []int{-7}},
		{[]int{7, 7}, []int{7}},
		{[]int{0, 0, 0, 0, 0, 0}, []int{0}},
		{[]int{3, 1, 3}, []int{1, 3}},
		{[]int{1, 2}, []int{1, 2}},
		{[]int{2, 1}, []int{1, 2}},
		{[]int{1, 2, 3, 4}, []int{1, 2, 3, 4}},
		{[]int{4, 3, 2, 1}, []int{1, 2, 3, 4}},
		{[]int{1, 1, 2, 2}, []int{1, 2}},
		{[]int{2, 2, 1, 1}, []int{1, 2}},
		{[]int{5, 9, 5, 9, 5}, []int{5, 9}},
		{[]int{-1, 5, 0}, []int{-1, 0, 5}},
		{[]int{1, -1, 10, -10, 2, -2}, []int{-10, -2, -1, 1, 2, 10}},
		{[]int{64, 9, 10, 1, 0}, []int{0, 1, 9, 10, 64}},
		{[]int{1 << 32, 0, 1<<32 + 1, 1}, []int{0, 1, 1 << 32, 1<<32 + 1}},
		{[]int{1<<53 + 1, 1 << 53}, []int{1 << 53, 1<<53 + 1}},
		{[]int{greatest, least}, []int{least, greatest}},
		{[]int{greatest, 0, least, greatest, least}, []int{least, 0, greatest}},
		{[]int{greatest, greatest - 1, least + 1, least}, []int{least, least + 1, greatest - 1, greatest}},
	} {
		wantList(t, "Set", Set(x.l...), x.s)
		if e := Check(x.s); e != api.OK {
			t.Errorf("Check(%v) = %d; want %d", x.s, e, api.OK)
		}
	}
}

// The numbers are variadic: they are told one by one, too, and there may be none.
func TestSetOfNumbersOneByOne(t *testing.T) {
	wantList(t, "Set()", Set(), nil)
	wantList(t, "Set(5)", Set(5), []int{5})
	wantList(t, "Set(3, 1, 3)", Set(3, 1, 3), []int{1, 3})
	wantList(t, "Set(4, 0, 4, 2)", Set(4, 0, 4, 2), []int{0, 2, 4})
}

// P9.1
func TestListsThatAreSets(t *testing.T) {
	for _, s := range [][]int{
		nil, {}, {0}, {-5}, {least}, {greatest}, {1, 2}, {-2, -1}, {-1, 0, 1}, {1, 3, 7}, {0, 64, 65, 1 << 40},
		{least, greatest}, {least, least + 1}, {greatest - 1, greatest}, {least, -1, 0, 1, greatest},
	} {
		if e := Check(s); e != api.OK {
			t.Errorf("Check(%v) = %d; want %d", s, e, api.OK)
		}
	}
}

// P9.1: what is wrong stands in front, in the middle, or at the end.
func TestListsThatAreNoSets(t *testing.T) {
	for _, l := range [][]int{
		{3, 1}, {1, 1}, {0, 0}, {1, 3, 2}, {2, 1, 3}, {1, 1, 2}, {1, 2, 2}, {1, 2, 3, 3, 4}, {1, 2, 4, 3, 5}, {3, 2, 1},
		{0, -1}, {-1, -2}, {1, 2, 1}, {1, 5, 2, 6}, {7, 7, 7},
		{greatest, least}, {least, least}, {greatest, greatest}, {least + 1, least}, {greatest, greatest - 1},
		{least, 0, least}, {least, greatest, 0}, {0, greatest, least}, {1, least},
	} {
		if e := Check(l); e != api.ErrArg {
			t.Errorf("Check(%v) = %d; want %d", l, e, api.ErrArg)
		}
	}
}

// P9.2: below the least number, at each, between two, at the greatest, and beyond it.
func TestHas(t *testing.T) {
	for _, x := range []struct {
		s       []int
		in, out []int
	}{
		{nil, nil, []int{0, 1, -1, least, greatest}},
		{[]int{}, nil, []int{0, 1, -1, least, greatest}},
		{[]int{0}, []int{0}, []int{-1, 1, least, greatest}},
		{[]int{5}, []int{5}, []int{0, 4, 6, -5}},
		{[]int{1, 3, 7}, []int{1, 3, 7}, []int{0, 2, 4, 5, 6, 8, -1, -3, 1<<32 + 1, least, greatest}},
		{[]int{-7, -1, 4}, []int{-7, -1, 4}, []int{-8, -6, -2, 0, 1, 3, 5, 7}},
		{[]int{least, 0, greatest}, []int{least, 0, greatest}, []int{least + 1, -1, 1, greatest - 1}},
		{[]int{7, 3, 1}, []int{1, 3, 7}, []int{0, 2, 4, 8}},
		{[]int{3, 1, 3}, []int{1, 3}, []int{0, 2, 4}},
		{[]int{5, 9, 1, 7, 3}, []int{1, 3, 5, 7, 9}, []int{0, 2, 4, 6, 8, 10}},
		{[]int{greatest, least, greatest}, []int{least, greatest}, []int{0, -1, 1}},
	} {
		for _, n := range x.in {
			if !Has(x.s, n) {
				t.Errorf("Has(%v, %d) is false", x.s, n)
			}
		}
		for _, n := range x.out {
			if Has(x.s, n) {
				t.Errorf("Has(%v, %d) is true", x.s, n)
			}
		}
	}
}

// P9.2
func TestWithin(t *testing.T) {
	for _, x := range []struct {
		a, b []int
		want bool
	}{
		{nil, nil, true},
		{nil, []int{}, true},
		{[]int{}, nil, true},
		{nil, []int{1, 2}, true},
		{[]int{}, []int{1, 2}, true},
		{[]int{0}, nil, false},
		{[]int{1, 2}, nil, false},
		{[]int{1, 2}, []int{}, false},
		{[]int{1, 3, 7}, []int{1, 3, 7}, true},
		{[]int{1}, []int{1, 3, 7}, true},
		{[]int{3}, []int{1, 3, 7}, true},
		{[]int{7}, []int{1, 3, 7}, true},
		{[]int{1, 7}, []int{1, 3, 7}, true},
		{[]int{1, 3, 7}, []int{1, 7}, false},
		{[]int{0, 1}, []int{1, 3, 7}, false},
		{[]int{1, 2}, []int{1, 3, 7}, false},
		{[]int{2, 3}, []int{1, 3, 7}, false},
		{[]int{7, 8}, []int{1, 3, 7}, false},
		{[]int{0}, []int{1, 3, 7}, false},
		{[]int{2, 4}, []int{1, 3, 7}, false},
		{[]int{7, 1}, []int{1, 3, 7}, true},
		{[]int{7, 1, 7, 7, 1}, []int{3, 7, 1, 3}, true},
		{[]int{1, 1, 1, 1}, []int{1}, true},
		{[]int{1, 1, 2, 1}, []int{1}, false},
		{[]int{3, 7, 1}, []int{7, 3, 1}, true},
		{[]int{-1}, []int{1}, false},
		{[]int{0}, []int{1 << 32}, false},
		{[]int{least, greatest}, []int{greatest, 0, least}, true},
		{[]int{least, greatest}, []int{least, greatest - 1}, false},
		{[]int{least}, []int{greatest}, false},
	} {
		if got := Within(x.a, x.b); got != x.want {
			t.Errorf("Within(%v, %v) = %v; want %v", x.a, x.b, got, x.want)
		}
	}
}

// P9.2: each line is asked both ways round.
func TestUnion(t *testing.T) {
	for _, x := range []struct{ a, b, want []int }{
		{nil, nil, nil},
		{nil, []int{}, nil},
		{[]int{}, []int{}, nil},
		{nil, []int{1, 3}, []int{1, 3}},
		{[]int{}, []int{1, 3}, []int{1, 3}},
		{nil, []int{3, 1, 3}, []int{1, 3}},
		{[]int{1, 3, 7}, []int{1, 3, 7}, []int{1, 3, 7}},
		{[]int{1, 3, 7}, []int{2, 3}, []int{1, 2, 3, 7}},
		{[]int{1, 3}, []int{3}, []int{1, 3}},
		{[]int{1, 2}, []int{3, 4}, []int{1, 2, 3, 4}},
		{[]int{1, 3, 5}, []int{0, 2, 4, 6}, []int{0, 1, 2, 3, 4, 5, 6}},
		{[]int{5}, []int{5}, []int{5}},
		{[]int{7, 3, 1}, []int{3, 2}, []int{1, 2, 3, 7}},
		{[]int{3, 1, 3}, []int{1, 1}, []int{1, 3}},
		{[]int{2, 2, 2}, []int{2, 2}, []int{2}},
		{[]int{-1, 1}, []int{0}, []int{-1, 0, 1}},
		{[]int{least, greatest}, []int{0}, []int{least, 0, greatest}},
		{[]int{greatest}, []int{least}, []int{least, greatest}},
		{[]int{greatest, least}, []int{greatest - 1, least + 1, least}, []int{least, least + 1, greatest - 1, greatest}},
	} {
		wantList(t, "Union", Union(x.a, x.b), x.want)
		wantList(t, "Union, the other way round", Union(x.b, x.a), x.want)
	}
}

// P9.3: below the least number, at each, between two, at the greatest, and beyond it; 0 may be a number, and none.
func TestAbove(t *testing.T) {
	for _, x := range []struct {
		s           []int
		n, want     int
		thereIsSome bool
	}{
		{nil, 0, 0, false},
		{nil, least, 0, false},
		{[]int{}, -1, 0, false},
		{[]int{}, greatest, 0, false},
		{[]int{1, 3}, 1, 3, true},
		{[]int{1, 3, 7}, least, 1, true},
		{[]int{1, 3, 7}, -4, 1, true},
		{[]int{1, 3, 7}, 0, 1, true},
		{[]int{1, 3, 7}, 1, 3, true},
		{[]int{1, 3, 7}, 2, 3, true},
		{[]int{1, 3, 7}, 3, 7, true},
		{[]int{1, 3, 7}, 4, 7, true},
		{[]int{1, 3, 7}, 6, 7, true},
		{[]int{1, 3, 7}, 7, 0, false},
		{[]int{1, 3, 7}, 8, 0, false},
		{[]int{1, 3, 7}, greatest, 0, false},
		{[]int{0}, -1, 0, true},
		{[]int{0}, 0, 0, false},
		{[]int{-3, 0, 5}, -4, -3, true},
		{[]int{-3, 0, 5}, -3, 0, true},
		{[]int{-3, 0, 5}, -1, 0, true},
		{[]int{-3, 0, 5}, 0, 5, true},
		{[]int{-3, -1}, -2, -1, true},
		{[]int{-3, -1}, -1, 0, false},
		{[]int{-3, -1}, 0, 0, false},
		{[]int{7, 3, 1}, 0, 1, true},
		{[]int{7, 3, 1}, 1, 3, true},
		{[]int{7, 3, 1}, 7, 0, false},
		{[]int{3, 1, 3}, 0, 1, true},
		{[]int{3, 1, 3}, 1, 3, true},
		{[]int{3, 1, 3}, 3, 0, false},
		{[]int{5, 9, 1, 7, 3}, 3, 5, true},
		{[]int{9, 1, 7, 3, 5}, 4, 5, true},
		{[]int{least, greatest}, least, greatest, true},
		{[]int{least, greatest}, greatest - 1, greatest, true},
		{[]int{least, greatest}, greatest, 0, false},
		{[]int{least}, least, 0, false},
		{[]int{greatest}, least, greatest, true},
		{[]int{least + 1, least}, least, least + 1, true},
		{[]int{greatest, 1, greatest}, 0, 1, true},
	} {
		if n, ok := Above(x.s, x.n); n != x.want || ok != x.thereIsSome {
			t.Errorf("Above(%v, %d) = %d, %v; want %d, %v", x.s, x.n, n, ok, x.want, x.thereIsSome)
		}
	}
}

// The chapter's example.
func TestExample(t *testing.T) {
	s := Set(3, 1, 3)
	wantList(t, "Set(3, 1, 3)", s, []int{1, 3})
	if n, ok := Above(s, 1); n != 3 || !ok {
		t.Errorf("Above(%v, 1) = %d, %v; want 3, true", s, n, ok)
	}
}
