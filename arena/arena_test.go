package arena

import (
	"math"
	"slices"
	"testing"

	"tendril/api"
)

func wantNew(t *testing.T, c api.Cfg, threads int) {
	t.Helper()
	want := api.Shared{}
	for i, n := range []int{c.Nodes, c.Edges, c.Props} {
		for slot := range n {
			want.Pools[i].Gens = append(want.Pools[i].Gens, 0)
			want.Pools[i].States = append(want.Pools[i].States, 0)
			want.Pools[i].When = append(want.Pools[i].When, 0)
			want.Pools[i].Free = append(want.Pools[i].Free, slot)
		}
	}
	for range threads {
		want.Era.Pins = append(want.Era.Pins, -1)
	}
	got, e := New(c, threads)
	if !same(got, want) || e != api.OK {
		t.Fatalf("New(%v, %d) = %v, %d; want %v", c, threads, got, e, want)
	}
	wantCheck(t, got, api.OK)
	again, _ := New(c, threads)
	wantApart(t, again, want, got)
}

func wantNoNew(t *testing.T, c api.Cfg, threads int) {
	t.Helper()
	if got, e := New(c, threads); !same(got, api.Shared{}) || e != api.ErrArg {
		t.Errorf("New(%v, %d) = %v, %d; want none, %d", c, threads, got, e, api.ErrArg)
	}
}

func fieldsOf(c *api.Cfg) [5]*int {
	return [5]*int{&c.Nodes, &c.Edges, &c.Props, &c.Ids, &c.EdgeIds}
}

// P7.1
func TestNew(t *testing.T) {
	plain := api.Cfg{Nodes: 2, Edges: 1, Props: 3, Ids: 4, EdgeIds: 5}
	for threads := 1; threads <= 64; threads++ {
		wantNew(t, plain, threads)
	}
	for _, threads := range []int{1, 2, 64} {
		wantNew(t, api.Cfg{Nodes: 1, Edges: 1, Props: 1, Ids: 1, EdgeIds: 1}, threads)
		wantNew(t, api.Cfg{Nodes: 64, Edges: 64, Props: 64, Ids: 64, EdgeIds: 64}, threads)
		for i := range fieldsOf(&plain) {
			for _, n := range []int{1, 2, 63, 64} {
				c := plain
				*fieldsOf(&c)[i] = n
				wantNew(t, c, threads)
			}
		}
	}
}

func TestNewOfNoConfiguration(t *testing.T) {
	for i := range 5 {
		for _, n := range append([]int{0, -1, -64, 65, 66, 128, 1 << 32, 1<<32 + 1}, ends...) {
			c := api.Cfg{Nodes: 2, Edges: 1, Props: 3, Ids: 4, EdgeIds: 5}
			*fieldsOf(&c)[i] = n
			for _, threads := range []int{1, 2, 64, 0, 65, -1, math.MinInt, math.MaxInt} {
				wantNoNew(t, c, threads)
			}
		}
	}
	wantNoNew(t, api.Cfg{}, 1)
}

func TestNewOfNoThreads(t *testing.T) {
	for _, c := range []api.Cfg{{Nodes: 1, Edges: 1, Props: 1, Ids: 1, EdgeIds: 1}, {Nodes: 64, Edges: 64, Props: 64, Ids: 64, EdgeIds: 64}} {
		for _, threads := range append([]int{0, -1, -64, 65, 66, 128, 1 << 32, 1<<32 + 1}, ends...) {
			wantNoNew(t, c, threads)
		}
	}
}

func TestCheckOfArenasThatMayBe(t *testing.T) {
	for _, s := range someArenas() {
		wantCheck(t, s, api.OK)
	}
}

func TestCheckLooksAtPoolsAndEraAlone(t *testing.T) {
	for _, list := range [][]int{nil, {}, {0}, {-1, math.MinInt, math.MaxInt}, make([]int, 100000)} {
		wantCheck(t, with(mixed(), func(c *api.Shared) { c.Mem = list }), api.OK)
		wantCheck(t, with(mixed(), func(c *api.Shared) { c.Latches = list }), api.OK)
		wantCheck(t, api.Shared{Mem: list, Latches: list}, api.ErrArg)
	}
}

// What stands in front of all promises: also at kinds, references and threads of which there are none, where a pool is full, and where a thread is not pinned.
func TestArenasThatMayNotBe(t *testing.T) {
	for _, s := range badArenas() {
		wantCheck(t, s, api.ErrArg)
		for _, which := range []int{1, 2, 3, 0, 4, -1, math.MinInt, math.MaxInt} {
			wantTake(t, s, which, api.Shared{}, 0, api.ErrArg)
			for _, r := range []int{0, 1, 2, ref(0, 4), ref(1, 5), -1, math.MinInt, math.MaxInt} {
				wantRetire(t, s, which, r, api.Shared{}, api.ErrArg)
				wantGen(t, s, which, r, 0, 0, api.ErrArg)
			}
		}
		for _, thread := range []int{0, 1, 2, 63, 64, -1, math.MinInt, math.MaxInt} {
			wantPin(t, s, thread, api.Shared{}, api.ErrArg)
			wantEnd(t, s, thread, api.Shared{}, api.ErrArg)
		}
		wantTurn(t, s, api.Shared{}, false)
	}
}

// P7.2
func TestTake(t *testing.T) {
	s := mixed()
	for _, x := range []struct{ which, slot, ref int }{{1, 4, 9221}, {3, 1, 7170}, {1, 0, 1}} {
		want := with(s, func(c *api.Shared) {
			c.Pools[x.which-1].Free = c.Pools[x.which-1].Free[1:]
			c.Pools[x.which-1].States[x.slot] = 1
		})
		wantTake(t, s, x.which, want, x.ref, api.OK)
		s = want
	}
	for which := 1; which <= 3; which++ {
		wantTake(t, s, which, api.Shared{}, 0, api.ErrFull)
	}
	wantTake(t, mixed(), 2, api.Shared{}, 0, api.ErrFull)
}

func TestTakeOfNoKind(t *testing.T) {
	for _, which := range noKinds {
		wantTake(t, mixed(), which, api.Shared{}, 0, api.ErrArg)
		wantTake(t, single(0, 0, 0), which, api.Shared{}, 0, api.ErrArg)
		wantTake(t, single(1, 0, 0), which, api.Shared{}, 0, api.ErrArg)
	}
}

func TestTakeByTheWords(t *testing.T) {
	for _, s := range someArenas() {
		for which := 0; which <= 4; which++ {
			want, r, e := takeByTheWords(s, which)
			wantTake(t, s, which, want, r, e)
		}
	}
}

func TestTakeOfTheLastSlot(t *testing.T) {
	for _, n := range []int{1, 64} {
		for which := 1; which <= 3; which++ {
			s, _ := New(api.Cfg{Nodes: n, Edges: n, Props: n, Ids: 1, EdgeIds: 1}, 1)
			for slot := range n {
				told, r, e := Take(s, which)
				if r != slot+1 || e != api.OK || len(told.Pools[which-1].Free) != n-1-slot {
					t.Fatalf("Take(%v, %d) = %v, %d, %d", s, which, told, r, e)
				}
				s = told
			}
			wantTake(t, s, which, api.Shared{}, 0, api.ErrFull)
			for other := 1; other <= 3; other++ {
				if _, r, e := Take(s, other); other != which && (r != 1 || e != api.OK) {
					t.Errorf("of the kind %d: %d, %d", other, r, e)
				}
			}
		}
	}
}

func TestRetire(t *testing.T) {
	wantRetire(t, mixed(), 1, 5122, with(mixed(), func(c *api.Shared) { c.Pools[0].States[1], c.Pools[0].When[1] = 2, 4 }), api.OK)
	wantRetire(t, mixed(), 2, 4097, with(mixed(), func(c *api.Shared) { c.Pools[1].States[0], c.Pools[1].When[0] = 2, 4 }), api.OK)
	wantRetire(t, mixed(), 3, 3, with(mixed(), func(c *api.Shared) { c.Pools[2].States[2], c.Pools[2].When[2] = 2, 4 }), api.OK)
	for _, now := range []int{0, 1, 2, lastTime - 1, lastTime} {
		for which := 1; which <= 3; which++ {
			s := withEraOf(single(1, 8, 0), now, now, -1)
			wantRetire(t, s, which, 8193, with(s, func(c *api.Shared) { c.Pools[which-1].States[0], c.Pools[which-1].When[0] = 2, now }), api.OK)
		}
	}
}

func TestRetireAndGenOfNoKind(t *testing.T) {
	for _, which := range noKinds {
		for _, r := range []int{1, 5122, 4097, 3, 0, -1, math.MinInt, math.MaxInt} {
			wantRetire(t, mixed(), which, r, api.Shared{}, api.ErrArg)
			wantGen(t, mixed(), which, r, 0, 0, api.ErrArg)
		}
		wantRetire(t, single(1, 0, 0), which, 1, api.Shared{}, api.ErrArg)
		wantGen(t, single(1, 0, 0), which, 1, 0, 0, api.ErrArg)
	}
}

func TestRetireAndGenOfNoReference(t *testing.T) {
	for _, s := range []api.Shared{mixed(), full(7), single(1, 0, 0), single(0, 0, 0), single(2, 0, 0)} {
		for which := 1; which <= 3; which++ {
			for _, r := range noRefs(len(s.Pools[which-1].Gens)) {
				wantRetire(t, s, which, r, api.Shared{}, api.ErrArg)
				wantGen(t, s, which, r, 0, 0, api.ErrArg)
			}
		}
	}
}

// A reference of one kind's slot that another kind has not, or has in another state.
func TestKindsAreApart(t *testing.T) {
	wantRetire(t, mixed(), 2, ref(2, 0), api.Shared{}, api.ErrArg)
	wantGen(t, mixed(), 2, ref(2, 0), 0, 0, api.ErrArg)
	wantRetire(t, mixed(), 1, ref(4, 0), api.Shared{}, api.ErrNone)
	wantGen(t, mixed(), 1, ref(4, 0), 9, 0, api.OK)
	wantRetire(t, mixed(), 3, ref(4, 0), api.Shared{}, api.ErrArg)
	wantGen(t, mixed(), 3, ref(4, 0), 0, 0, api.ErrArg)
	wantRetire(t, mixed(), 1, ref(2, 2), api.Shared{}, api.ErrNone)
}

func TestRetireAndGenByTheWords(t *testing.T) {
	for _, s := range someArenas() {
		for which := 1; which <= 3; which++ {
			p := s.Pools[which-1]
			for _, slot := range []int{0, 1, 2, len(p.Gens) - 1, len(p.Gens)} {
				gens := []int{0, 1, lastGen}
				if slot < len(p.Gens) {
					gens = gensAround(p.Gens[slot])
				}
				for _, gen := range gens {
					want, e := retireByTheWords(s, which, ref(slot, gen))
					wantRetire(t, s, which, ref(slot, gen), want, e)
					now, state, e := genByTheWords(s, which, ref(slot, gen))
					wantGen(t, s, which, ref(slot, gen), now, state, e)
				}
			}
		}
	}
}

func TestGen(t *testing.T) {
	s := mixed()
	for i, p := range s.Pools {
		for slot := range p.Gens {
			// An earlier generation and a later one name the same slot, as it is now.
			for _, gen := range gensAround(p.Gens[slot]) {
				wantGen(t, s, i+1, ref(slot, gen), p.Gens[slot], p.States[slot], api.OK)
			}
		}
	}
	wantGen(t, s, 1, 1, 0, 0, api.OK)
	wantGen(t, s, 1, 2, 5, 1, api.OK)
	wantGen(t, s, 1, 3, 2, 2, api.OK)
	wantGen(t, s, 1, 1<<50-1020, lastGen, 2, api.OK)
	wantGen(t, s, 2, 1, 4, 1, api.OK)
	wantGen(t, s, 2, 2, 6, 2, api.OK)
	wantGen(t, s, 3, 1, lastGen-1, 2, api.OK)
	wantGen(t, s, 3, 2, 7, 0, api.OK)
	wantGen(t, full(3), 3, ref(63, 0), 189, 2, api.OK)
}

// P7.3
func TestPin(t *testing.T) {
	wantPin(t, mixed(), 0, withEraOf(mixed(), 4, 4, 4, -1), api.OK)
	wantPin(t, mixed(), 2, withEraOf(mixed(), 4, -1, 4, 4), api.OK)
	wantPin(t, mixed(), 1, api.Shared{}, api.ErrArg)
	wantPin(t, withEraOf(mixed(), 4, -1, 3), 1, api.Shared{}, api.ErrArg)
	wantPin(t, withEraOf(mixed(), 4, -1, 3), 0, withEraOf(mixed(), 4, 4, 3), api.OK)
	wantPin(t, withEraOf(mixed(), 0, -1, 0), 0, withEraOf(mixed(), 0, 0, 0), api.OK)
	wantPin(t, withEraOf(mixed(), 0, -1, 0), 1, api.Shared{}, api.ErrArg)
	wantPin(t, withEraOf(mixed(), lastTime, -1), 0, withEraOf(mixed(), lastTime, lastTime), api.OK)
	wantPin(t, full(6), 63, with(full(6), func(c *api.Shared) { c.Era.Pins[63] = 6 }), api.OK)
	for _, s := range []api.Shared{mixed(), full(6), single(1, 0, 0)} {
		for _, thread := range noThreads(len(s.Era.Pins)) {
			wantPin(t, s, thread, api.Shared{}, api.ErrArg)
			wantEnd(t, s, thread, api.Shared{}, api.ErrArg)
		}
	}
}

func TestPinTurnAndEndByTheWords(t *testing.T) {
	for _, s := range someArenas() {
		want, ok := turnByTheWords(s)
		wantTurn(t, s, want, ok)
		n := len(s.Era.Pins)
		for _, thread := range []int{0, 1, 2, n - 1, n, -1} {
			want, e := pinByTheWords(s, thread)
			wantPin(t, s, thread, want, e)
			want, e = endByTheWords(s, thread)
			wantEnd(t, s, thread, want, e)
		}
	}
}

// At Now 5 what was retired up to 3 is freed, in the order of the slots, behind those that are free; the last generation is not.
func TestTurn(t *testing.T) {
	want := mixed()
	want.Era.Now = 5
	want.Pools[0] = api.Pool{Gens: []int{0, 5, 3, lastGen, 9}, States: []int{0, 1, 0, 2, 0}, When: []int{0, 0, 0, 0, 0}, Free: []int{4, 0, 2}}
	want.Pools[2] = api.Pool{Gens: []int{lastGen, 7, 0}, States: []int{0, 0, 1}, When: []int{0, 0, 0}, Free: []int{1, 0}}
	wantTurn(t, mixed(), want, true)
	again := copied(want)
	wantTurn(t, again, again, false)
	free := withEraOf(want, 5, -1, -1, -1)
	last := withEraOf(free, 6, -1, -1, -1)
	last.Pools[1] = api.Pool{Gens: []int{4, 7}, States: []int{1, 0}, When: []int{0, 0}, Free: []int{1}}
	wantTurn(t, free, last, true)
}

// Which epochs are safe is asked of the era behind the turn: at Now 0 and 1 only what was retired ahead of all epochs.
func TestTurnAtTheEdges(t *testing.T) {
	for _, x := range []struct {
		now, when int
		freed     bool
	}{
		{0, -1, true}, {0, 0, false}, {0, 1, false}, {0, math.MinInt, true}, {0, math.MaxInt, false},
		{1, -1, true}, {1, 0, true}, {1, 1, false}, {2, 0, true}, {2, 1, true}, {2, 2, false},
		{lastTime - 1, lastTime - 2, true}, {lastTime - 1, lastTime - 1, false}, {lastTime - 1, lastTime, false}, {lastTime - 1, math.MaxInt, false},
	} {
		s := withEraOf(single(2, 3, x.when), x.now, -1, x.now)
		want := withEraOf(single(2, 3, x.when), x.now+1, -1, x.now)
		if x.freed {
			want = withEraOf(single(0, 4, 0), x.now+1, -1, x.now)
		}
		wantTurn(t, s, want, true)
	}
	for _, when := range []int{math.MinInt, -1, 0, lastTime - 2, lastTime, math.MaxInt} {
		for _, pins := range somePins(lastTime) {
			s := withEraOf(single(2, 3, when), lastTime, pins...)
			wantTurn(t, s, s, false)
		}
	}
	for _, now := range []int{1, 2, 5, lastTime - 1} {
		s := withEraOf(single(2, 3, math.MinInt), now, -1, now-1, now)
		wantTurn(t, s, s, false)
	}
}

func TestEnd(t *testing.T) {
	turned, _ := turnByTheWords(mixed())
	wantEnd(t, mixed(), 1, withEraOf(turned, 5, -1, -1, -1), api.OK)
	wantEnd(t, mixed(), 0, api.Shared{}, api.ErrNone)
	wantEnd(t, mixed(), 2, api.Shared{}, api.ErrNone)
	wantEnd(t, mixed(), 3, api.Shared{}, api.ErrArg)
	wantEnd(t, mixed(), -1, api.Shared{}, api.ErrArg)
	// Another one that is behind holds the epoch up; the one that goes does not.
	wantEnd(t, withEraOf(mixed(), 4, 3, 4), 1, withEraOf(mixed(), 4, 3, -1), api.OK)
	wantEnd(t, withEraOf(mixed(), 4, 3, 4), 0, withEraOf(turned, 5, -1, 4), api.OK)
	wantEnd(t, withEraOf(mixed(), 4, 3, 3), 0, withEraOf(mixed(), 4, -1, 3), api.OK)
	wantEnd(t, withEraOf(single(2, 1, 0), 0, 0), 0, withEraOf(single(2, 1, 0), 1, -1), api.OK)
	wantEnd(t, withEraOf(single(2, 1, 0), 1, 0), 0, withEraOf(single(0, 2, 0), 2, -1), api.OK)
	wantEnd(t, withEraOf(single(2, 1, 0), 1, 1), 0, withEraOf(single(0, 2, 0), 2, -1), api.OK)
	for _, pin := range []int{lastTime - 1, lastTime} {
		wantEnd(t, withEraOf(single(2, 1, 0), lastTime, pin), 0, withEraOf(single(2, 1, 0), lastTime, -1), api.OK)
	}
	last := with(full(6), func(c *api.Shared) { c.Era.Pins[63] = 5 })
	want, _ := turnByTheWords(full(6))
	wantEnd(t, last, 63, want, api.OK)
	wantEnd(t, last, 62, api.Shared{}, api.ErrNone)
	wantEnd(t, last, 64, api.Shared{}, api.ErrArg)
}

// Words and latches are handed on as they are, whatever stands there, by each call that tells no error.
func TestMemAndLatchesAreAsTheyWere(t *testing.T) {
	for _, list := range [][]int{nil, {}, {0}, {-1, math.MinInt, math.MaxInt}, slices.Repeat([]int{3}, 5000)} {
		s := mixed()
		s.Mem, s.Latches = list, append(slices.Clone(list), 5)
		want := copied(s)
		taken, _, a := Take(s, 1)
		retired, b := Retire(s, 2, 4097)
		pinned, c := Pin(s, 0)
		turned, ok := Turn(s)
		still, not := Turn(withEraOf(s, 4, 3))
		ended, d := End(s, 1)
		if a != api.OK || b != api.OK || c != api.OK || !ok || not || d != api.OK {
			t.Fatalf("got %d, %d, %d, %v, %v, %d", a, b, c, ok, not, d)
		}
		for i, told := range []api.Shared{taken, retired, pinned, turned, still, ended} {
			if !slices.Equal(told.Mem, want.Mem) || !slices.Equal(told.Latches, want.Latches) {
				t.Errorf("call %d told %v, %v; want %v, %v", i, told.Mem, told.Latches, want.Mem, want.Latches)
			}
		}
		if !same(s, want) {
			t.Errorf("got %v; want %v", s, want)
		}
	}
}

// R2: the room behind a handed-in list is not the program's to write into either.
func TestNothingIsWrittenBehindTheLists(t *testing.T) {
	for _, s := range someArenas() {
		rooms := [][]int{}
		roomy := func(list []int) []int {
			room := append(listCopied(list), make([]int, 100)...)
			rooms = append(rooms, room)
			return room[:len(list)]
		}
		r := api.Shared{Mem: roomy(s.Mem), Latches: roomy(s.Latches)}
		for i, p := range s.Pools {
			r.Pools[i] = api.Pool{Gens: roomy(p.Gens), States: roomy(p.States), When: roomy(p.When), Free: roomy(p.Free)}
		}
		r.Era = api.Era{Now: s.Era.Now, Pins: roomy(s.Era.Pins)}
		for which := 1; which <= 3; which++ {
			Take(r, which)
			Retire(r, which, ref(0, s.Pools[which-1].Gens[0]))
		}
		Turn(r)
		for thread := range s.Era.Pins {
			Pin(r, thread)
			End(r, thread)
		}
		if !same(r, s) {
			t.Fatalf("%v was changed to %v", s, r)
		}
		for _, room := range rooms {
			if behind := room[len(room)-100:]; slices.Max(behind) != 0 || slices.Min(behind) != 0 {
				t.Fatalf("behind a list of %v was written: %v", s, room)
			}
		}
	}
}

// R2: lists, and whole pools, that share memory in what is handed in share none in what is told.
func TestListsThatShareMemory(t *testing.T) {
	zeros, ones := []int{0}, []int{1}
	free := api.Pool{Gens: zeros, States: zeros, When: zeros, Free: zeros}
	s := api.Shared{Mem: zeros, Latches: zeros, Pools: [3]api.Pool{free, free, free}, Era: api.Era{Pins: zeros}}
	taken, r, e := Take(s, 2)
	want := api.Shared{Mem: []int{0}, Latches: []int{0}, Pools: single(0, 0, 0).Pools, Era: api.Era{Pins: []int{0}}}
	want.Pools[1] = api.Pool{Gens: []int{0}, States: []int{1}, When: []int{0}}
	if !same(taken, want) || r != 1 || e != api.OK || zeros[0] != 0 {
		t.Fatalf("got %v, %d, %d; want %v", taken, r, e, want)
	}
	live := api.Pool{Gens: ones, States: ones, When: []int{0}}
	s = api.Shared{Pools: [3]api.Pool{live, live, live}, Era: api.Era{Now: 1, Pins: ones}}
	retired, e := Retire(s, 3, ref(0, 1))
	want = api.Shared{Pools: single(1, 1, 0).Pools, Era: api.Era{Now: 1, Pins: []int{1}}}
	want.Pools[2] = api.Pool{Gens: []int{1}, States: []int{2}, When: []int{1}}
	if !same(retired, want) || e != api.OK || ones[0] != 1 {
		t.Fatalf("got %v, %d; want %v", retired, e, want)
	}
}

// R6
func TestTheSameAgain(t *testing.T) {
	for _, s := range someArenas() {
		a, ra, ea := Take(s, 1)
		b, rb, eb := Take(s, 1)
		c, okC := Turn(s)
		d, okD := Turn(s)
		f, ef := End(s, 0)
		g, eg := End(s, 0)
		if !same(a, b) || ra != rb || ea != eb || !same(c, d) || okC != okD || !same(f, g) || ef != eg {
			t.Errorf("not the same again of %v", s)
		}
	}
}
