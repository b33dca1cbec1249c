package era

import (
	"math"
	"math/big"
	"slices"
	"testing"

	"tendril/api"
)

const last = 1 << 60

// Numbers at the ends of what an int holds, and around the edges that the chapter names.
var someInts = []int{-3, -2, -1, 0, 1, 2, 3, 4, 5, 63, 64, 65, 1 << 32, 1<<32 + 1, last - 2, last - 1, last, last + 1, math.MinInt, math.MinInt + 1, math.MaxInt - 1, math.MaxInt}

// Threads of which there are none in an era of n, those included that would be one if only some bits were looked at.
func noThreads(n int) []int {
	return []int{-1, -2, -n, -n - 1, n, n + 1, n + 64, 1 << 32, 1<<32 + n - 1, math.MinInt, math.MinInt + 1, math.MaxInt - 1, math.MaxInt}
}

func same(a, b api.Era) bool {
	return a.Now == b.Now && slices.Equal(a.Pins, b.Pins)
}

// Written element by element, so that it is not the program's own way.
func copied(e api.Era) api.Era {
	pins := []int{}
	for _, pin := range e.Pins {
		pins = append(pins, pin)
	}
	return api.Era{Now: e.Now, Pins: pins}
}

func with(e api.Era, t, pin int) api.Era {
	f := copied(e)
	f.Pins[t] = pin
	return f
}

func at(now int, pins ...int) api.Era {
	return api.Era{Now: now, Pins: pins}
}

func many(now, n, pin int) api.Era {
	return api.Era{Now: now, Pins: slices.Repeat([]int{pin}, n)}
}

// The chapter's words on whole numbers that have no end.
func mayBeByTheWords(e api.Era) bool {
	now := big.NewInt(int64(e.Now))
	end := new(big.Int).Exp(big.NewInt(2), big.NewInt(60), nil)
	if now.Sign() < 0 || now.Cmp(end) > 0 || len(e.Pins) < 1 || len(e.Pins) > 64 {
		return false
	}
	ahead := new(big.Int).Sub(now, big.NewInt(1))
	for _, n := range e.Pins {
		pin := big.NewInt(int64(n))
		if n != -1 && pin.Cmp(now) != 0 && (pin.Cmp(ahead) != 0 || ahead.Sign() < 0) {
			return false
		}
	}
	return true
}

// 64 threads, one after the other not pinned, pinned in Now, and in the epoch ahead of it.
func full(now int) api.Era {
	e := api.Era{Now: now}
	for t := range 64 {
		e.Pins = append(e.Pins, []int{-1, now, now - 1}[t%3])
	}
	return e
}

func someEras() []api.Era {
	eras := []api.Era{
		at(0, -1), at(0, 0), at(0, -1, 0), at(0, 0, -1), at(0, 0, 0), at(0, -1, -1),
		many(0, 64, -1), many(0, 64, 0), full(0),
	}
	for _, now := range []int{1, 2, 3, 7, 64, 1 << 32, last - 1, last} {
		eras = append(eras,
			at(now, -1), at(now, now), at(now, now-1),
			at(now, -1, -1, -1), at(now, now, now, now), at(now, now-1, now-1, now-1),
			at(now, -1, now, now-1), at(now, now-1, -1, now), at(now, now, now-1, -1),
			at(now, now, now, now-1), at(now, now-1, -1, -1), at(now, now, -1, now),
			many(now, 64, -1), many(now, 64, now), many(now, 64, now-1),
			many(now, 63, -1), full(now),
		)
	}
	return eras
}

// Every way in which an era may not be, each one fault away from an era that may.
func badEras() []api.Era {
	bad := []api.Era{{}, {Pins: []int{}}, {Now: 3}, {Now: last, Pins: []int{}}, {Now: -1}, {Now: math.MaxInt}}
	for _, now := range []int{-1, -2, -64, last + 1, last + 2, 1 << 61, math.MinInt, math.MinInt + 1, math.MaxInt - 1, math.MaxInt} {
		bad = append(bad, at(now, -1), at(now, now), at(now, now-1), at(now, -1, now), at(now, 0), many(now, 64, -1))
	}
	for _, now := range []int{0, 1, 2, 3, 64, last - 1, last} {
		for _, n := range []int{65, 66, 128, 1 << 16} {
			bad = append(bad, many(now, n, -1), many(now, n, now))
		}
		for _, pin := range slices.Concat(someInts, []int{now - 3, now - 2, now + 1, now + 2, -now - 1}) {
			if pin == -1 || pin == now || pin == now-1 {
				continue
			}
			bad = append(bad, at(now, pin), at(now, pin, -1), at(now, -1, pin), at(now, now, pin, now), with(full(now), 0, pin), with(full(now), 63, pin))
		}
	}
	return bad
}

func wantNew(t *testing.T, threads int, want api.Era, e api.Errno) {
	t.Helper()
	if got, gotE := New(threads); !same(got, want) || gotE != e {
		t.Errorf("New(%d) = %v, %d; want %v, %d", threads, got, gotE, want, e)
	}
}

func wantCheck(t *testing.T, e api.Era, want api.Errno) {
	t.Helper()
	was := copied(e)
	if got := Check(e); got != want {
		t.Errorf("Check(%v) = %d; want %d", was, got, want)
	}
	if !same(e, was) {
		t.Errorf("Check changed %v to %v", was, e)
	}
}

func wantPin(t *testing.T, e api.Era, thread int, want api.Era, f api.Errno) {
	t.Helper()
	was := copied(e)
	got, gotF := Pin(e, thread)
	if !same(got, want) || gotF != f {
		t.Errorf("Pin(%v, %d) = %v, %d; want %v, %d", was, thread, got, gotF, want, f)
	}
	wantApart(t, e, was, got)
}

func wantUnpin(t *testing.T, e api.Era, thread int, want api.Era, f api.Errno) {
	t.Helper()
	was := copied(e)
	got, gotF := Unpin(e, thread)
	if !same(got, want) || gotF != f {
		t.Errorf("Unpin(%v, %d) = %v, %d; want %v, %d", was, thread, got, gotF, want, f)
	}
	wantApart(t, e, was, got)
}

func wantTurn(t *testing.T, e, want api.Era, ok bool) {
	t.Helper()
	was := copied(e)
	got, gotOk := Turn(e)
	if !same(got, want) || gotOk != ok {
		t.Errorf("Turn(%v) = %v, %v; want %v, %v", was, got, gotOk, want, ok)
	}
	wantApart(t, e, was, got)
}

func wantSafe(t *testing.T, e api.Era, want int) {
	t.Helper()
	was := copied(e)
	if got := Safe(e); got != want {
		t.Errorf("Safe(%v) = %d; want %d", was, got, want)
	}
	if !same(e, was) {
		t.Errorf("Safe changed %v to %v", was, e)
	}
}

// R2: what was handed in is as it was, and neither changes when the other's whole memory, also what is behind its length, is written over.
func wantApart(t *testing.T, e, was, got api.Era) {
	t.Helper()
	if !same(e, was) {
		t.Errorf("the era that was handed in, %v, was changed to %v", was, e)
		return
	}
	told := copied(got)
	spoil(got.Pins)
	if !same(e, was) {
		t.Errorf("what was told of %v shares memory with it", was)
		return
	}
	copy(got.Pins, told.Pins)
	spoil(e.Pins)
	if !same(got, told) {
		t.Errorf("what was told of %v changed when that was written into", was)
	}
	copy(e.Pins, was.Pins)
}

func spoil(list []int) {
	for i := range list[:cap(list)] {
		list[:cap(list)][i] = -987654321
	}
}

// P6.1
func TestNew(t *testing.T) {
	for n := 1; n <= 64; n++ {
		want := api.Era{}
		for range n {
			want.Pins = append(want.Pins, -1)
		}
		wantNew(t, n, want, api.OK)
		got, _ := New(n)
		wantCheck(t, got, api.OK)
		wantSafe(t, got, -2)
		spoil(got.Pins)
		wantNew(t, n, want, api.OK)
	}
}

func TestNewOfNoCount(t *testing.T) {
	for _, n := range []int{0, -1, -2, -64, 65, 66, 128, 1024, 1 << 32, 1<<32 + 1, last, math.MinInt, math.MinInt + 1, math.MaxInt - 1, math.MaxInt} {
		wantNew(t, n, api.Era{}, api.ErrArg)
	}
}

func TestCheckOfErasThatMayBe(t *testing.T) {
	for _, e := range someEras() {
		wantCheck(t, e, api.OK)
	}
	for n := 1; n <= 64; n++ {
		wantCheck(t, many(0, n, -1), api.OK)
		wantCheck(t, many(9, n, 8), api.OK)
	}
}

func TestCheckAtTheEdges(t *testing.T) {
	for _, x := range []struct {
		e    api.Era
		want api.Errno
	}{
		{at(0, -1), api.OK}, {at(0, 0), api.OK}, {at(0, -2), api.ErrArg}, {at(0, 1), api.ErrArg},
		{at(1, -1), api.OK}, {at(1, 0), api.OK}, {at(1, 1), api.OK}, {at(1, 2), api.ErrArg},
		{at(2, -1), api.OK}, {at(2, 0), api.ErrArg}, {at(2, 1), api.OK}, {at(2, 2), api.OK}, {at(2, 3), api.ErrArg},
		{at(last-1, -1), api.OK}, {at(last-1, last-3), api.ErrArg}, {at(last-1, last-2), api.OK}, {at(last-1, last-1), api.OK}, {at(last-1, last), api.ErrArg},
		{at(last, -1), api.OK}, {at(last, last-2), api.ErrArg}, {at(last, last-1), api.OK}, {at(last, last), api.OK}, {at(last, last+1), api.ErrArg},
		{at(last+1, -1), api.ErrArg}, {at(last+1, last), api.ErrArg}, {at(last+1, last+1), api.ErrArg},
		{at(-1, -1), api.ErrArg}, {at(-1, -2), api.ErrArg}, {at(-1, 0), api.ErrArg},
		{many(0, 0, -1), api.ErrArg}, {many(0, 1, -1), api.OK}, {many(0, 64, -1), api.OK}, {many(0, 65, -1), api.ErrArg},
		{at(math.MinInt, math.MaxInt), api.ErrArg}, {at(math.MaxInt, math.MaxInt-1), api.ErrArg},
	} {
		wantCheck(t, x.e, x.want)
	}
}

func TestCheckOfAllSmallEras(t *testing.T) {
	for now := -2; now <= 4; now++ {
		for a := -3; a <= 6; a++ {
			checkByTheWords(t, at(now, a))
			for b := -3; b <= 6; b++ {
				checkByTheWords(t, at(now, a, b))
			}
		}
	}
	for _, now := range someInts {
		checkByTheWords(t, at(now))
		for _, pin := range slices.Concat(someInts, []int{now - 2, now - 1, now, now + 1}) {
			checkByTheWords(t, at(now, pin))
			checkByTheWords(t, with(many(now, 64, -1), 63, pin))
		}
	}
}

func checkByTheWords(t *testing.T, e api.Era) {
	t.Helper()
	want := api.ErrArg
	if mayBeByTheWords(e) {
		want = api.OK
	}
	wantCheck(t, e, want)
}

// What stands in front of all promises: ErrArg, also where Unpin would find a thread that is not pinned, and at threads of which there are none.
func TestErasThatMayNotBe(t *testing.T) {
	for _, e := range badEras() {
		if mayBeByTheWords(e) {
			t.Fatalf("%v may be", e)
		}
		wantCheck(t, e, api.ErrArg)
		for _, thread := range []int{0, 1, 2, 63, 64, 65, -1, len(e.Pins) - 1, len(e.Pins), math.MinInt, math.MaxInt} {
			wantPin(t, e, thread, api.Era{}, api.ErrArg)
			wantUnpin(t, e, thread, api.Era{}, api.ErrArg)
		}
		wantTurn(t, e, api.Era{}, false)
		wantSafe(t, e, -1)
	}
}

// P6.2
func TestPin(t *testing.T) {
	for _, e := range someEras() {
		for thread, pin := range e.Pins {
			if pin == -1 {
				wantPin(t, e, thread, with(e, thread, e.Now), api.OK)
				continue
			}
			wantPin(t, e, thread, api.Era{}, api.ErrArg)
		}
		for _, thread := range noThreads(len(e.Pins)) {
			wantPin(t, e, thread, api.Era{}, api.ErrArg)
		}
	}
}

func TestPinAtTheEdges(t *testing.T) {
	wantPin(t, at(0, -1), 0, at(0, 0), api.OK)
	wantPin(t, at(0, 0), 0, api.Era{}, api.ErrArg)
	wantPin(t, at(1, 0, -1), 1, at(1, 0, 1), api.OK)
	wantPin(t, at(1, 0, -1), 0, api.Era{}, api.ErrArg)
	wantPin(t, at(last, -1, last-1), 0, at(last, last, last-1), api.OK)
	wantPin(t, at(last, -1, last-1), 1, api.Era{}, api.ErrArg)
	wantPin(t, many(5, 64, -1), 0, with(many(5, 64, -1), 0, 5), api.OK)
	wantPin(t, many(5, 64, -1), 63, with(many(5, 64, -1), 63, 5), api.OK)
	wantPin(t, many(5, 64, -1), 64, api.Era{}, api.ErrArg)
	wantPin(t, many(5, 64, -1), -1, api.Era{}, api.ErrArg)
}

func TestUnpin(t *testing.T) {
	for _, e := range someEras() {
		for thread, pin := range e.Pins {
			if pin != -1 {
				wantUnpin(t, e, thread, with(e, thread, -1), api.OK)
				continue
			}
			wantUnpin(t, e, thread, api.Era{}, api.ErrNone)
		}
		for _, thread := range noThreads(len(e.Pins)) {
			wantUnpin(t, e, thread, api.Era{}, api.ErrArg)
		}
	}
}

func TestUnpinAtTheEdges(t *testing.T) {
	wantUnpin(t, at(0, 0), 0, at(0, -1), api.OK)
	wantUnpin(t, at(0, -1), 0, api.Era{}, api.ErrNone)
	wantUnpin(t, at(1, 0, 1), 0, at(1, -1, 1), api.OK)
	wantUnpin(t, at(1, 0, 1), 1, at(1, 0, -1), api.OK)
	wantUnpin(t, at(last, last, last-1), 1, at(last, last, -1), api.OK)
	wantUnpin(t, many(5, 64, 4), 0, with(many(5, 64, 4), 0, -1), api.OK)
	wantUnpin(t, many(5, 64, 4), 63, with(many(5, 64, 4), 63, -1), api.OK)
	wantUnpin(t, many(5, 64, -1), 63, api.Era{}, api.ErrNone)
	wantUnpin(t, many(5, 64, -1), 64, api.Era{}, api.ErrArg)
	wantUnpin(t, many(5, 64, -1), -1, api.Era{}, api.ErrArg)
}

func TestUnpinOfPin(t *testing.T) {
	for _, e := range someEras() {
		for thread, pin := range e.Pins {
			if pin != -1 {
				continue
			}
			pinned, _ := Pin(e, thread)
			wantPin(t, pinned, thread, api.Era{}, api.ErrArg)
			wantUnpin(t, pinned, thread, e, api.OK)
		}
	}
}

// P6.3
func TestTurn(t *testing.T) {
	for _, e := range someEras() {
		want, ok := copied(e), true
		for _, pin := range e.Pins {
			ok = ok && (pin == -1 || pin == e.Now)
		}
		ok = ok && e.Now != last
		if ok {
			want.Now = e.Now + 1
		}
		wantTurn(t, e, want, ok)
	}
}

func TestTurnAtTheEdges(t *testing.T) {
	for _, now := range []int{0, 1, 2, 64, last - 2, last - 1} {
		wantTurn(t, at(now, -1), at(now+1, -1), true)
		wantTurn(t, at(now, now), at(now+1, now), true)
		wantTurn(t, many(now, 64, -1), many(now+1, 64, -1), true)
		wantTurn(t, many(now, 64, now), many(now+1, 64, now), true)
		wantTurn(t, at(now, now, -1, now), at(now+1, now, -1, now), true)
	}
	for _, now := range []int{1, 2, 64, last - 1, last} {
		wantTurn(t, at(now, now-1), at(now, now-1), false)
		for thread := range 64 {
			for _, others := range []api.Era{many(now, 64, -1), many(now, 64, now)} {
				wantTurn(t, with(others, thread, now-1), with(others, thread, now-1), false)
			}
		}
	}
	for _, pins := range [][]int{{-1}, {last}, {last - 1}, {last, -1, last - 1}, {-1, -1}, {last, last}} {
		wantTurn(t, at(last, pins...), at(last, pins...), false)
	}
	wantTurn(t, many(last, 64, -1), many(last, 64, -1), false)
	wantTurn(t, many(last, 64, last), many(last, 64, last), false)
}

func TestSafe(t *testing.T) {
	for _, e := range someEras() {
		wantSafe(t, e, e.Now-2)
	}
	for _, x := range []struct{ now, safe int }{{0, -2}, {1, -1}, {2, 0}, {3, 1}, {last - 1, last - 3}, {last, last - 2}} {
		wantSafe(t, at(x.now, -1), x.safe)
		wantSafe(t, at(x.now, x.now), x.safe)
		wantSafe(t, at(x.now, x.now-1, -1), x.safe)
	}
}

func TestExample(t *testing.T) {
	e, _ := New(1)
	e, _ = Pin(e, 0)
	e, first := Turn(e)
	e, second := Turn(e)
	if !first || second || e.Now != 1 || !slices.Equal(e.Pins, []int{0}) {
		t.Errorf("got %v, %v, %v", first, second, e)
	}
}

// R2: the room behind a handed-in list is not the program's to write into either.
func TestNothingIsWrittenBehindTheList(t *testing.T) {
	for _, e := range slices.Concat(someEras(), badEras()) {
		room := make([]int, len(e.Pins)+100)
		copy(room, e.Pins)
		f := api.Era{Now: e.Now, Pins: room[:len(e.Pins)]}
		Check(f)
		Safe(f)
		Turn(f)
		for _, thread := range []int{0, len(e.Pins) - 1, len(e.Pins)} {
			Pin(f, thread)
			Unpin(f, thread)
		}
		if !slices.Equal(room[:len(e.Pins)], e.Pins) || slices.Max(room[len(e.Pins):]) != 0 || slices.Min(room[len(e.Pins):]) != 0 {
			t.Errorf("the list of %v was written into: %v", e, room)
		}
	}
}

// What a way through calls has been: when each thread was pinned, by Now, and in which epochs something was retired that a thread may see: since it was pinned, or ahead of that in its epoch.
type way struct {
	era   api.Era
	since []int
	seen  [][]int
	here  []int
}

func begin(e api.Era) way {
	w := way{era: e, since: make([]int, len(e.Pins)), seen: make([][]int, len(e.Pins))}
	for thread := range w.since {
		w.since[thread] = -1
	}
	return w
}

func (w way) clone() way {
	seen := [][]int{}
	for _, list := range w.seen {
		seen = append(seen, slices.Clone(list))
	}
	return way{era: copied(w.era), since: slices.Clone(w.since), seen: seen, here: slices.Clone(w.here)}
}

func (w way) pinned(thread int, e api.Era) way {
	v := w.clone()
	v.era, v.since[thread], v.seen[thread] = e, w.era.Now, slices.Clone(w.here)
	return v
}

func (w way) unpinned(thread int, e api.Era) way {
	v := w.clone()
	v.era, v.since[thread], v.seen[thread] = e, -1, nil
	return v
}

func (w way) turned(e api.Era) way {
	v := w.clone()
	v.era, v.here = e, nil
	return v
}

func (w way) retired() way {
	v := w.clone()
	v.here = append(v.here, w.era.Now)
	for thread, since := range v.since {
		if since != -1 {
			v.seen[thread] = append(v.seen[thread], w.era.Now)
		}
	}
	return v
}

// P6.4
func wantUnseen(t *testing.T, w way) {
	t.Helper()
	wantCheck(t, w.era, api.OK)
	for thread, since := range w.since {
		if w.era.Pins[thread] != since {
			t.Fatalf("thread %d was pinned in %d: %v", thread, since, w.era)
		}
		if since == -1 {
			continue
		}
		if w.era.Now < since || w.era.Now-since > 1 {
			t.Fatalf("thread %d was pinned in %d, and the epoch is %d", thread, since, w.era.Now)
		}
		for _, when := range w.seen[thread] {
			if when <= Safe(w.era) {
				t.Fatalf("thread %d may see what was retired in %d, and %d is safe", thread, when, Safe(w.era))
			}
		}
	}
}

// P6.4, of all that can come of eras of 1 to 3 threads in some calls, from the first epoch on and close to the last one.
func TestWhatFollows(t *testing.T) {
	for _, x := range []struct{ threads, calls int }{{1, 9}, {2, 8}, {3, 7}} {
		for _, now := range []int{0, 1, 5, last - 2, last} {
			follow(t, begin(many(now, x.threads, -1)), x.calls)
		}
	}
}

func follow(t *testing.T, w way, calls int) {
	t.Helper()
	wantUnseen(t, w)
	if calls == 0 || t.Failed() {
		return
	}
	for thread := range w.since {
		if e, f := Pin(w.era, thread); f == api.OK {
			follow(t, w.pinned(thread, e), calls-1)
		}
		if e, f := Unpin(w.era, thread); f == api.OK {
			follow(t, w.unpinned(thread, e), calls-1)
		}
	}
	if e, ok := Turn(w.era); ok {
		follow(t, w.turned(e), calls-1)
	}
	if len(w.here) == 0 {
		follow(t, w.retired(), calls-1)
	}
}

// P6.4, on a long way with 64 threads, each of which comes and goes in a rhythm of its own.
func TestALongWay(t *testing.T) {
	e, _ := New(64)
	w, turns := begin(e), 0
	for step := range 20000 {
		thread := step * 29 % 64
		if e, f := Unpin(w.era, thread); f == api.OK && step%3 != 0 {
			w = w.unpinned(thread, e)
		} else if e, f := Pin(w.era, thread); f == api.OK && step%5 == 0 {
			w = w.pinned(thread, e)
		}
		if e, ok := Turn(w.era); ok {
			w = w.turned(e)
			turns++
		}
		if len(w.here) == 0 {
			w = w.retired()
		}
		wantUnseen(t, w)
	}
	if turns < 100 || turns > 19000 || w.era.Now != turns {
		t.Errorf("%d turns, and %d", turns, w.era.Now)
	}
}

// That a thread sees nothing any longer is told as soon as it may be: with nobody pinned behind two turns.
func TestTwoTurnsAreEnough(t *testing.T) {
	for _, now := range []int{0, 1, 9, last - 2} {
		e := at(now, -1, -1)
		e, a := Turn(e)
		wantSafe(t, e, now-1)
		e, b := Turn(e)
		wantSafe(t, e, now)
		if !a || !b {
			t.Errorf("from %d: %v, %v", now, a, b)
		}
	}
}

// R6
func TestTheSameAgain(t *testing.T) {
	for _, e := range someEras() {
		a, okA := Turn(e)
		b, okB := Turn(e)
		if !same(a, b) || okA != okB {
			t.Errorf("Turn is not the same again of %v", e)
		}
		for thread := range e.Pins {
			a, fa := Pin(e, thread)
			b, fb := Pin(e, thread)
			c, fc := Unpin(e, thread)
			d, fd := Unpin(e, thread)
			if !same(a, b) || fa != fb || !same(c, d) || fc != fd {
				t.Errorf("not the same again of %v, %d", e, thread)
			}
		}
	}
}
