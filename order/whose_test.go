package order

import (
	"slices"
	"testing"
)

// A list with room behind it: whoever appends to it writes where the test can see it.
func withRoom(l ...int) (list, all []int) {
	all = append(slices.Clone(l), 77, 77, 77, 77, 77, 77)
	return all[:len(l)], all
}

func lists() [][]int {
	return [][]int{{}, {5}, {5, 5}, {1, 3, 7}, {7, 3, 1}, {3, 1, 3}, {9, 0, -4, 9, 0}}
}

// R2: what is handed in reads as it did before, and so does what stands behind it.
func TestWhatIsHandedInStays(t *testing.T) {
	for _, x := range lists() {
		for _, y := range lists() {
			a, allA := withRoom(x...)
			b, allB := withRoom(y...)
			wasA, wasB := slices.Clone(allA), slices.Clone(allB)
			Set(a...)
			Check(a)
			Has(a, 3)
			Within(a, b)
			Union(a, b)
			Union(a, a)
			Union(b, nil)
			Union(nil, b)
			Above(a, 2)
			wantList(t, "the first list, later", allA, wasA)
			wantList(t, "the second list, later", allB, wasB)
		}
	}
}

// R2: what was told does not change when the argument is written into later, nor the other way round.
func TestWhatIsToldIsNew(t *testing.T) {
	for _, x := range lists() {
		for _, told := range []struct {
			what string
			tell func(l []int) []int
		}{
			{"Set", func(l []int) []int { return Set(l...) }},
			{"Union with itself", func(l []int) []int { return Union(l, l) }},
			{"Union with nil ahead", func(l []int) []int { return Union(nil, l) }},
			{"Union with nil behind", func(l []int) []int { return Union(l, nil) }},
			{"Union with an empty list", func(l []int) []int { return Union([]int{}, l) }},
			{"Union with others", func(l []int) []int { return Union(l, []int{2, 4}) }},
		} {
			l, all := withRoom(x...)
			got := told.tell(l)
			was := slices.Clone(got)
			fill(all, 1000)
			wantList(t, told.what+", behind a write into the list", got, was)
			wasAll := slices.Clone(all)
			fill(got[:cap(got)], 2000)
			wantList(t, "the list, behind a write into "+told.what, all, wasAll)
		}
	}
}

func fill(l []int, n int) {
	for i := range l {
		l[i] = n + i
	}
}

// R2: what a call tells is not what an earlier one told.
func TestWhatIsToldTwiceIsNotShared(t *testing.T) {
	l := []int{3, 1, 3}
	first, second := Set(l...), Set(l...)
	fill(first[:cap(first)], 1000)
	wantList(t, "Set, told again", second, []int{1, 3})
	first, second = Union(l, l), Union(l, l)
	fill(first[:cap(first)], 1000)
	wantList(t, "Union, told again", second, []int{1, 3})
	wantList(t, "Set, told once more", Set(l...), []int{1, 3})
}
