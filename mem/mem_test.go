package mem

import (
	"math"
	"slices"
	"testing"

	"tendril/api"
)

// Words at the ends of what an int holds, and around 0.
var someWords = []int{0, 1, -1, 2, 7, 4096, 1 << 50, math.MinInt, math.MinInt + 1, math.MaxInt}

// A count of words that is none.
var noCounts = []int{-1, -2, -4096, 4097, 4098, 8192, 1 << 32, 1<<32 + 5, math.MinInt, math.MinInt + 1, math.MaxInt}

// Of each length that a memory may have at New's edges, and of some that New does not make.
func someMemories() [][]int {
	return [][]int{
		{5},
		{1, 2},
		{3, 3, 3},
		someWords,
		counting(1023),
		counting(4096),
		counting(4097),
		counting(10000),
	}
}

func counting(n int) []int {
	m := make([]int, n)
	for i := range m {
		m[i] = i*i - 17
	}
	return m
}

// The first places of a memory, one in the midst, and the last ones.
func somePlaces(m []int) []int {
	places := []int{}
	for _, at := range []int{0, 1, len(m) / 2, len(m) - 2, len(m) - 1} {
		if at >= 0 && at < len(m) && !slices.Contains(places, at) {
			places = append(places, at)
		}
	}
	return places
}

// What is no place of m, those included that would be one if only some bits were looked at.
func noPlaces(m []int) []int {
	return []int{-1, -2, -len(m) - 1, len(m), len(m) + 1, 2*len(m) + 1, 1 << 32, math.MinInt, math.MinInt + 1, math.MaxInt}
}

// Written word by word, so that what is told is not held against a way of the program's own.
func changed(m []int, at, v int) []int {
	want := []int{}
	for i, w := range m {
		if i == at {
			w = v
		}
		want = append(want, w)
	}
	return want
}

func wantLoad(t *testing.T, m []int, at, v int, e api.Errno) {
	t.Helper()
	if got, gotE := Load(m, at); got != v || gotE != e {
		t.Errorf("Load of %d words, at %d = %d, %d; want %d, %d", len(m), at, got, gotE, v, e)
	}
}

func wantStore(t *testing.T, m []int, at, v int, want []int, e api.Errno) {
	t.Helper()
	was := slices.Clone(m)
	got, gotE := Store(m, at, v)
	if !slices.Equal(got, want) || gotE != e {
		t.Errorf("Store of %d words, at %d, %d: not what is asked, or error %d; want %d", len(m), at, v, gotE, e)
	}
	if !slices.Equal(m, was) {
		t.Errorf("Store of %d words, at %d, %d changed what was handed in", len(m), at, v)
	}
}

func wantCas(t *testing.T, m []int, at, old, new int, want []int, done bool, e api.Errno) {
	t.Helper()
	was := slices.Clone(m)
	got, gotDone, gotE := Cas(m, at, old, new)
	if !slices.Equal(got, want) || gotDone != done || gotE != e {
		t.Errorf("Cas of %d words, at %d, from %d to %d: not what is asked, or %v, %d; want %v, %d", len(m), at, old, new, gotDone, gotE, done, e)
	}
	if !slices.Equal(m, was) {
		t.Errorf("Cas of %d words, at %d, from %d to %d changed what was handed in", len(m), at, old, new)
	}
}

// Writes into all of what was told, up to its capacity, and asks whether what was handed in felt it; then the other way round.
func wantApart(t *testing.T, what string, m, told []int) {
	t.Helper()
	wasM := slices.Clone(m)
	for i := range told[:cap(told)] {
		told[:cap(told)][i] = -4242
	}
	if !slices.Equal(m, wasM) {
		t.Errorf("%s: what was handed in changed with what was told", what)
	}
	wasTold := slices.Clone(told)
	for i := range m {
		m[i] = 4343
	}
	if !slices.Equal(told, wasTold) {
		t.Errorf("%s: what was told changed with what was handed in", what)
	}
}

// P2.1
func TestNewIsSoManyWordsZero(t *testing.T) {
	for _, n := range []int{0, 1, 2, 3, 63, 64, 1000, 4095, 4096} {
		m, e := New(n)
		if len(m) != n || e != api.OK {
			t.Errorf("New(%d): %d words, error %d", n, len(m), e)
		}
		for at, w := range m {
			if w != 0 {
				t.Errorf("New(%d): the word at %d is %d", n, at, w)
			}
		}
	}
}

func TestNewRefusesWhatIsNoCount(t *testing.T) {
	for _, n := range noCounts {
		if m, e := New(n); len(m) != 0 || e != api.ErrArg {
			t.Errorf("New(%d): %d words, error %d", n, len(m), e)
		}
	}
}

func TestNewIsNewEachTime(t *testing.T) {
	for _, n := range []int{1, 5, 4096} {
		a, _ := New(n)
		b, _ := New(n)
		a[0], a[n-1] = 7, 8
		if b[0] != 0 || b[n-1] != 0 {
			t.Errorf("New(%d): two memories share words", n)
		}
		if c, _ := New(n); c[0] != 0 || c[n-1] != 0 {
			t.Errorf("New(%d): a later memory is not of words 0", n)
		}
	}
}

func TestLoadIsTheWordThere(t *testing.T) {
	for at, w := range someWords {
		wantLoad(t, someWords, at, w, api.OK)
	}
	wantLoad(t, counting(4096), 0, -17, api.OK)
	wantLoad(t, counting(4096), 4095, 16769008, api.OK)
	wantLoad(t, counting(4097), 4096, 16777199, api.OK)
	wantLoad(t, []int{5}, 0, 5, api.OK)
	for _, n := range []int{1, 4096} {
		m, _ := New(n)
		wantLoad(t, m, 0, 0, api.OK)
		wantLoad(t, m, n-1, 0, api.OK)
	}
}

func TestLoadLeavesTheMemory(t *testing.T) {
	for _, m := range someMemories() {
		was := slices.Clone(m)
		for _, at := range append(somePlaces(m), noPlaces(m)...) {
			Load(m, at)
		}
		if !slices.Equal(m, was) {
			t.Errorf("Load of %d words changed what was handed in", len(m))
		}
	}
}

// P2.1 and P2.2
func TestWhatIsNoPlaceIsRefused(t *testing.T) {
	empty, _ := New(0)
	for _, m := range append(someMemories(), nil, []int{}, empty) {
		for _, at := range noPlaces(m) {
			wantLoad(t, m, at, 0, api.ErrArg)
			for _, w := range someWords {
				wantStore(t, m, at, w, nil, api.ErrArg)
				wantCas(t, m, at, 0, w, nil, false, api.ErrArg)
				wantCas(t, m, at, w, w, nil, false, api.ErrArg)
			}
		}
	}
}

// A memory that is cut from a longer one has no more places than its length.
func TestPlacesAreThoseOfTheLength(t *testing.T) {
	whole := []int{1, 2, 3, 4}
	part := whole[1:3]
	wantLoad(t, part, 0, 2, api.OK)
	wantLoad(t, part, 1, 3, api.OK)
	wantLoad(t, part, 2, 0, api.ErrArg)
	wantStore(t, part, 2, 9, nil, api.ErrArg)
	wantCas(t, part, 2, 4, 9, nil, false, api.ErrArg)
	wantStore(t, part, 1, 9, []int{2, 9}, api.OK)
	wantCas(t, part, 0, 2, 9, []int{9, 3}, true, api.OK)
	if !slices.Equal(whole, []int{1, 2, 3, 4}) {
		t.Errorf("got %v", whole)
	}
}

// P2.2: what is asked is written out.
func TestStoreAndCasOfKnownMemories(t *testing.T) {
	wantStore(t, []int{1, 2}, 0, 5, []int{5, 2}, api.OK)
	wantStore(t, []int{1, 2}, 1, 5, []int{1, 5}, api.OK)
	wantStore(t, []int{1, 2}, 1, 2, []int{1, 2}, api.OK)
	wantStore(t, []int{9}, 0, -1, []int{-1}, api.OK)
	wantCas(t, []int{1, 2}, 1, 2, 5, []int{1, 5}, true, api.OK)
	wantCas(t, []int{1, 2}, 0, 1, 5, []int{5, 2}, true, api.OK)
	wantCas(t, []int{1, 2}, 0, 2, 5, []int{1, 2}, false, api.OK)
	wantCas(t, []int{1, 2}, 1, 1, 5, []int{1, 2}, false, api.OK)
	wantCas(t, []int{2, 2}, 1, 2, 5, []int{2, 5}, true, api.OK)
	// The word there is already what it is to become, but it is not old.
	wantCas(t, []int{1, 2}, 1, 5, 2, []int{1, 2}, false, api.OK)
	wantCas(t, []int{math.MinInt}, 0, math.MinInt, math.MaxInt, []int{math.MaxInt}, true, api.OK)
	wantCas(t, []int{math.MinInt}, 0, math.MaxInt, 0, []int{math.MinInt}, false, api.OK)
	wantCas(t, []int{1}, 0, 1+1<<32, 0, []int{1}, false, api.OK)
}

func TestStoreAndCasAtEachPlace(t *testing.T) {
	for _, m := range someMemories() {
		for _, at := range somePlaces(m) {
			for _, v := range someWords {
				wantStore(t, m, at, v, changed(m, at, v), api.OK)
				wantCas(t, m, at, m[at], v, changed(m, at, v), true, api.OK)
				wantCas(t, m, at, m[at]+1, v, m, false, api.OK)
			}
		}
	}
}

func TestSwapToTheSameWordIsDone(t *testing.T) {
	for _, m := range someMemories() {
		for _, at := range somePlaces(m) {
			wantCas(t, m, at, m[at], m[at], m, true, api.OK)
			wantCas(t, m, at, m[at]+1, m[at]+1, m, false, api.OK)
		}
	}
}

func TestWhatIsToldIsNew(t *testing.T) {
	for _, n := range []int{1, 2, 3, 64, 4096} {
		for _, at := range somePlaces(counting(n)) {
			m := counting(n)
			told, _ := Store(m, at, 5)
			wantApart(t, "Store", m, told)

			m = counting(n)
			told, _ = Store(m, at, m[at])
			wantApart(t, "Store of the word that is there", m, told)

			m = counting(n)
			told, _, _ = Cas(m, at, m[at], 5)
			wantApart(t, "Cas that is done", m, told)

			m = counting(n)
			told, _, _ = Cas(m, at, m[at], m[at])
			wantApart(t, "Cas to the same word", m, told)

			m = counting(n)
			told, _, _ = Cas(m, at, m[at]+1, 5)
			wantApart(t, "Cas that is not done", m, told)
		}
	}
}

// Room behind a memory's length is its owner's too.
func TestRoomBehindTheLengthIsLeft(t *testing.T) {
	room := []int{1, 2, 3, 4, 5, 6, 7, 8}
	m := room[:2]
	a, _ := Store(m, 0, 9)
	b, _, _ := Cas(m, 0, 1, 9)
	c, _, _ := Cas(m, 0, 7, 9)
	for _, told := range [][]int{a, b, c} {
		_ = append(told, 99, 99)
		told[:cap(told)][0] = 99
	}
	if !slices.Equal(room, []int{1, 2, 3, 4, 5, 6, 7, 8}) {
		t.Errorf("got %v", room)
	}
}

func TestWhatWasToldStays(t *testing.T) {
	m, _ := New(3)
	a, _ := Store(m, 0, 1)
	b, _ := Store(a, 1, 2)
	c, _, _ := Cas(b, 0, 1, 3)
	d, _, _ := Cas(c, 0, 1, 4)
	for i, x := range []struct{ got, want []int }{
		{m, []int{0, 0, 0}},
		{a, []int{1, 0, 0}},
		{b, []int{1, 2, 0}},
		{c, []int{3, 2, 0}},
		{d, []int{3, 2, 0}},
	} {
		if !slices.Equal(x.got, x.want) {
			t.Errorf("%d: got %v, want %v", i, x.got, x.want)
		}
	}
}

// P2.3
func TestWhatWasStoredIsLoadedAndOthersStay(t *testing.T) {
	for _, m := range someMemories() {
		for _, at := range somePlaces(m) {
			for _, v := range someWords {
				stored, _ := Store(m, at, v)
				swapped, _, _ := Cas(m, at, m[at], v)
				for i := range m {
					want := m[i]
					if i == at {
						want = v
					}
					wantLoad(t, stored, i, want, api.OK)
					wantLoad(t, swapped, i, want, api.OK)
				}
			}
		}
	}
}

func TestOfTwoSwapsOneAloneIsDone(t *testing.T) {
	for _, m := range someMemories() {
		for _, at := range somePlaces(m) {
			old := m[at]
			for _, v := range someWords {
				if v == old {
					continue
				}
				first, done, e := Cas(m, at, old, v)
				if !done || e != api.OK {
					t.Errorf("the first swap at %d, from %d to %d: %v, %d", at, old, v, done, e)
				}
				wantCas(t, first, at, old, v+1, first, false, api.OK)
				wantCas(t, first, at, old, v, first, false, api.OK)
				wantCas(t, first, at, v, old, m, true, api.OK)
			}
		}
	}
}
