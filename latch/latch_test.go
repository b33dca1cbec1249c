package latch

import (
	"math"
	"testing"

	"tendril/api"
)

const top = 4611686018427387904 // 2^62

// What the five calls tell of one word.
type told struct {
	check   api.Errno
	held    bool
	try     int
	ok      bool
	free    int
	e       api.Errno
	version int
}

func tellAll(w int) told {
	var x told
	x.check, x.held, x.version = Check(w), Held(w), Version(w)
	x.try, x.ok = Try(w)
	x.free, x.e = Free(w)
	return x
}

func want(t *testing.T, w int, x told) {
	t.Helper()
	if got := tellAll(w); got != x {
		t.Errorf("of %d told %+v; want %+v", w, got, x)
	}
}

// What the chapter says of each kind of word; which kind a word is of is known to the test that asks.
func ofFree(w, version int) told {
	return told{try: w + 1, ok: true, e: api.ErrNone, version: version}
}

func ofHeld(w, version int) told {
	return told{held: true, try: w, free: w + 1, version: version}
}

func ofNone(w int) told {
	return told{check: api.ErrArg, try: w, e: api.ErrArg, version: -1}
}

// P8.1, P8.2: the numbers are written out, so that no rule of the program's own is held against itself.
func TestKnownLatches(t *testing.T) {
	for _, x := range []struct {
		w int
		told
	}{
		{0, told{api.OK, false, 1, true, 0, api.ErrNone, 0}},
		{1, told{api.OK, true, 1, false, 2, api.OK, 0}},
		{2, told{api.OK, false, 3, true, 0, api.ErrNone, 1}},
		{3, told{api.OK, true, 3, false, 4, api.OK, 1}},
		{4, told{api.OK, false, 5, true, 0, api.ErrNone, 2}},
		{5, told{api.OK, true, 5, false, 6, api.OK, 2}},
		{6, told{api.OK, false, 7, true, 0, api.ErrNone, 3}},
		{1000, told{api.OK, false, 1001, true, 0, api.ErrNone, 500}},
		{1001, told{api.OK, true, 1001, false, 1002, api.OK, 500}},
		{2147483647, told{api.OK, true, 2147483647, false, 2147483648, api.OK, 1073741823}},
		{2147483648, told{api.OK, false, 2147483649, true, 0, api.ErrNone, 1073741824}},
		{4294967295, told{api.OK, true, 4294967295, false, 4294967296, api.OK, 2147483647}},
		{4294967296, told{api.OK, false, 4294967297, true, 0, api.ErrNone, 2147483648}},
		{9007199254740993, told{api.OK, true, 9007199254740993, false, 9007199254740994, api.OK, 4503599627370496}},
		{4611686018427387902, told{api.OK, false, 4611686018427387903, true, 0, api.ErrNone, 2305843009213693951}},
		{4611686018427387903, told{api.OK, true, 4611686018427387903, false, 4611686018427387904, api.OK, 2305843009213693951}},
		{4611686018427387904, told{api.OK, false, 4611686018427387904, false, 0, api.ErrNone, 2305843009213693952}},
		{4611686018427387905, told{api.ErrArg, false, 4611686018427387905, false, 0, api.ErrArg, -1}},
		{-1, told{api.ErrArg, false, -1, false, 0, api.ErrArg, -1}},
	} {
		want(t, x.w, x.told)
	}
}

// P8.1, P8.2: latches of versions that follow on each other, up to the last ones that can be held.
func TestLatchesOfManyVersions(t *testing.T) {
	for _, from := range []int{0, 1<<15 - 50, 1<<30 - 50, 1<<31 - 50, 1<<32 - 50, 1<<52 - 50, 1<<61 - 100} {
		for version := from; version < from+100; version++ {
			want(t, 2*version, ofFree(2*version, version))
			want(t, 2*version+1, ofHeld(2*version+1, version))
		}
	}
}

// The greatest latch may be, but is no longer tried: what comes behind it may not be.
func TestTheLastLatch(t *testing.T) {
	want(t, top, told{try: top, e: api.ErrNone, version: 1 << 61})
}

func TestWordsThatMayNotBe(t *testing.T) {
	for _, from := range []int{-300, -1<<31 - 150, -1<<32 - 150, -1<<62 - 150, math.MinInt, top + 1, 5 << 60, math.MaxInt - 299} {
		for i := range 300 {
			want(t, from+i, ofNone(from+i))
		}
	}
	want(t, math.MaxInt, ofNone(math.MaxInt))
	want(t, math.MaxInt-1, ofNone(math.MaxInt-1))
	want(t, math.MinInt+1, ofNone(math.MinInt+1))
}

// R6
func TestTheSameAgain(t *testing.T) {
	for _, w := range []int{0, 1, 2, 3, 4, 5, top - 1, top, top + 1, -1, math.MinInt, math.MaxInt} {
		first := tellAll(w)
		for range 3 {
			want(t, w, first)
		}
	}
}

// The chapter's example.
func TestTriedAndFreed(t *testing.T) {
	w, ok := Try(4)
	if w != 5 || !ok || !Held(w) || Version(w) != 2 {
		t.Fatalf("Try(4) = %d, %v; want 5, true, held, of the version 2", w, ok)
	}
	w, e := Free(w)
	if w != 6 || e != api.OK || Held(w) || Version(w) != 3 {
		t.Fatalf("Free(5) = %d, %d; want 6, %d, not held, of the version 3", w, e, api.OK)
	}
}

// P8.2, P8.3
func TestTriedTwice(t *testing.T) {
	for _, w := range []int{0, 2, 4, 1 << 31, 1 << 40, top - 2} {
		held, ok := Try(w)
		if !ok {
			t.Fatalf("Try(%d) tells false", w)
		}
		for range 3 {
			if again, ok := Try(held); again != held || ok {
				t.Errorf("Try(%d) = %d, %v; want %d, false", held, again, ok, held)
			}
		}
	}
}

func TestFreedTwice(t *testing.T) {
	for _, w := range []int{1, 3, 5, 1<<31 + 1, 1<<40 + 1, top - 1} {
		free, e := Free(w)
		if e != api.OK {
			t.Fatalf("Free(%d): error %d", w, e)
		}
		for range 3 {
			if again, e := Free(free); again != 0 || e != api.ErrNone {
				t.Errorf("Free(%d) = %d, %d; want 0, %d", free, again, e, api.ErrNone)
			}
		}
	}
}

func TestFreedAndTriedAgain(t *testing.T) {
	for _, w := range []int{1, 3, 5, 1<<31 + 1, 1<<40 + 1, top - 3} {
		free, e := Free(w)
		held, ok := Try(free)
		if e != api.OK || !ok || held != w+2 || !Held(held) || Version(held) != Version(w)+1 {
			t.Errorf("%d freed is %d, %d, and tried again %d, %v; want %d, held", w, free, e, held, ok, w+2)
		}
	}
}

// Once freed for the last time, nobody can latch it again.
func TestFreedForTheLastTime(t *testing.T) {
	w, e := Free(top - 1)
	if w != top || e != api.OK || Check(w) != api.OK {
		t.Fatalf("Free(%d) = %d, %d; want %d, %d", top-1, w, e, top, api.OK)
	}
	if again, ok := Try(w); again != top || ok {
		t.Errorf("Try(%d) = %d, %v; want %d, false", w, again, ok, top)
	}
}

// P8.1: the version is how often it was freed, counted here one by one.
func TestVersionCountsHowOftenItWasFreed(t *testing.T) {
	w := 0
	for freed := range 100000 {
		if Version(w) != freed || Held(w) {
			t.Fatalf("%d is of the version %d, held %v, freed %d times", w, Version(w), Held(w), freed)
		}
		held, ok := Try(w)
		if !ok || !Held(held) || Version(held) != freed {
			t.Fatalf("Try(%d) = %d, %v, of the version %d; freed %d times", w, held, ok, Version(held), freed)
		}
		next, e := Free(held)
		if e != api.OK {
			t.Fatalf("Free(%d): error %d", held, e)
		}
		w = next
	}
}

// A latch that some threads try and free, with all that was of it till now.
type play struct {
	w       int
	holder  int
	was     []int
	wasHeld []bool
}

const nobody = -1

func (p play) with(w, holder int) play {
	p.was = append(append([]int{}, p.was...), w)
	p.wasHeld = append(append([]bool{}, p.wasHeld...), holder != nobody)
	p.w, p.holder = w, holder
	return p
}

// One thread tries, whoever holds the latch: it must be told true just if nobody does, and the latch can go on.
func (p play) tried(t *testing.T, thread int) play {
	w, ok := Try(p.w)
	if ok && p.holder != nobody {
		t.Errorf("%v: the thread %d latches what %d holds", p.was, thread, p.holder)
	}
	if !ok && p.holder == nobody && p.w != top {
		t.Errorf("%v: the thread %d is told false, and nobody holds it", p.was, thread)
	}
	if !ok && w != p.w {
		t.Errorf("%v: the thread %d is told false, and %d", p.was, thread, w)
	}
	if ok {
		return p.with(w, thread)
	}
	return p.with(w, p.holder)
}

// Only who holds the latch frees it: the word does not tell who that is, so Free cannot ask.
func (p play) freed(t *testing.T) play {
	w, e := Free(p.w)
	if p.holder == nobody {
		if w != 0 || e != api.ErrNone {
			t.Errorf("%v: Free tells %d, %d of what nobody holds", p.was, w, e)
		}
		return p.with(p.w, nobody)
	}
	if e != api.OK {
		t.Errorf("%v: the thread %d can't free what it holds: error %d", p.was, p.holder, e)
	}
	return p.with(w, nobody)
}

// The word tells whether somebody holds it, never goes down, and if it is the same and was not held, it was not in between.
func (p play) wantTrue(t *testing.T) {
	t.Helper()
	if Check(p.w) != api.OK || Held(p.w) != (p.holder != nobody) {
		t.Errorf("%v: held %v, Check %d; the holder is %d", p.was, Held(p.w), Check(p.w), p.holder)
	}
	for i, w := range p.was {
		if w > p.w {
			t.Errorf("%v: it was greater", p.was)
		}
		if w == p.w && !p.wasHeld[i] {
			p.wantNotHeldFrom(t, i)
		}
	}
}

func (p play) wantNotHeldFrom(t *testing.T, from int) {
	t.Helper()
	for _, held := range p.wasHeld[from:] {
		if held {
			t.Errorf("%v: the same word as at %d, but held in between", p.was, from)
		}
	}
}

// P8.3: all that three threads can do with a latch in some calls.
func TestWhoTriesIsAlone(t *testing.T) {
	for _, from := range []int{0, 4, 1<<31 - 2, 1<<32 - 2, top - 4, top - 2, top} {
		goOn(t, play{}.with(from, nobody), 6)
	}
}

func goOn(t *testing.T, p play, calls int) {
	t.Helper()
	p.wantTrue(t)
	if calls == 0 || t.Failed() {
		return
	}
	for thread := range 3 {
		goOn(t, p.tried(t, thread), calls-1)
	}
	goOn(t, p.freed(t), calls-1)
}

// P8.3: who only looks reads the word ahead and behind; whatever is done in between, the same free word means that nobody was there.
func TestTheSameFreeWordLater(t *testing.T) {
	for _, from := range []int{0, 6, 1 << 40, top - 8} {
		p := play{}.with(from, nobody)
		for call := range 60 {
			if call%5 == 3 || call%7 == 2 {
				p = p.freed(t)
			} else {
				p = p.tried(t, call%3)
			}
			p.wantTrue(t)
		}
	}
}
