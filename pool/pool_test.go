package pool

import (
	"math"
	"slices"
	"testing"

	"tendril/api"
)

const lastGen = 1<<40 - 1

// Numbers at the ends of what an int holds, and around 0.
var someInts = []int{0, 1, -1, 2, 3, 7, 64, 1 << 40, 1 << 50, math.MinInt, math.MinInt + 1, math.MaxInt - 1, math.MaxInt}

func same(a, b api.Pool) bool {
	return slices.Equal(a.Gens, b.Gens) && slices.Equal(a.States, b.States) && slices.Equal(a.When, b.When) && slices.Equal(a.Free, b.Free)
}

func isNone(p api.Pool) bool {
	return len(p.Gens)+len(p.States)+len(p.When)+len(p.Free) == 0
}

// Written element by element, so that it is not the program's own way.
func copied(p api.Pool) api.Pool {
	list := func(from []int) []int {
		to := []int{}
		for _, v := range from {
			to = append(to, v)
		}
		return to
	}
	return api.Pool{Gens: list(p.Gens), States: list(p.States), When: list(p.When), Free: list(p.Free)}
}

func with(p api.Pool, change func(q *api.Pool)) api.Pool {
	q := copied(p)
	change(&q)
	return q
}

// A slot of each state, two of those that may be freed and one that may not, and free slots that are out of order.
func mixed() api.Pool {
	return api.Pool{
		Gens:   []int{0, 5, lastGen, 7, 2, lastGen, lastGen - 1, 0},
		States: []int{0, 1, 2, 2, 0, 1, 2, 0},
		When:   []int{0, 0, 3, 4, 0, 0, 2, 0},
		Free:   []int{7, 0, 4},
	}
}

// 64 slots: of i, one after the other, free, live, retired in i.
func full() api.Pool {
	p := api.Pool{}
	for i := range 64 {
		p.Gens = append(p.Gens, i*i)
		p.States = append(p.States, i%3)
		when := 0
		if i%3 == 2 {
			when = i
		}
		p.When = append(p.When, when)
		if i%3 == 0 {
			p.Free = append([]int{i}, p.Free...)
		}
	}
	return p
}

func somePools() []api.Pool {
	return []api.Pool{
		{Gens: []int{0}, States: []int{0}, When: []int{0}, Free: []int{0}},
		{Gens: []int{0}, States: []int{1}, When: []int{0}},
		{Gens: []int{0}, States: []int{1}, When: []int{0}, Free: []int{}},
		{Gens: []int{0}, States: []int{2}, When: []int{0}},
		{Gens: []int{1}, States: []int{2}, When: []int{math.MaxInt}},
		{Gens: []int{1}, States: []int{2}, When: []int{math.MinInt}},
		{Gens: []int{lastGen}, States: []int{0}, When: []int{0}, Free: []int{0}},
		{Gens: []int{lastGen}, States: []int{1}, When: []int{0}},
		{Gens: []int{lastGen}, States: []int{2}, When: []int{-3}},
		{Gens: []int{lastGen - 1}, States: []int{2}, When: []int{-3}},
		{Gens: []int{0, 0, 0}, States: []int{2, 2, 2}, When: []int{3, 1, 2}},
		{Gens: []int{4, 0, 9}, States: []int{0, 0, 0}, When: []int{0, 0, 0}, Free: []int{2, 0, 1}},
		mixed(),
		full(),
	}
}

// Every way in which a pool may not be, each one fault away from a pool that may.
func badPools() []api.Pool {
	bad := []api.Pool{
		{},
		{Gens: []int{}, States: []int{}, When: []int{}, Free: []int{}},
		{Gens: []int{0}},
		{States: []int{0}},
		{When: []int{0}},
		{Free: []int{0}},
		{States: []int{1, 1}, When: []int{0, 0}},
		sized(65),
		sized(1000),
	}
	for _, p := range []api.Pool{mixed(), full()} {
		bad = append(bad, wrongLengths(p)...)
		bad = append(bad, wrongNumbers(p)...)
		bad = append(bad, wrongFree(p)...)
	}
	return bad
}

func sized(n int) api.Pool {
	return api.Pool{Gens: make([]int, n), States: slices.Repeat([]int{1}, n), When: make([]int, n)}
}

func wrongLengths(p api.Pool) []api.Pool {
	last := len(p.Gens) - 1
	return []api.Pool{
		with(p, func(q *api.Pool) { q.Gens = append(q.Gens, 0) }),
		with(p, func(q *api.Pool) { q.States = append(q.States, 1) }),
		with(p, func(q *api.Pool) { q.When = append(q.When, 0) }),
		with(p, func(q *api.Pool) { q.Gens = q.Gens[:last] }),
		with(p, func(q *api.Pool) { q.States = q.States[:last] }),
		with(p, func(q *api.Pool) { q.When = q.When[:last] }),
		with(p, func(q *api.Pool) { q.Gens = nil }),
		with(p, func(q *api.Pool) { q.States = nil }),
		with(p, func(q *api.Pool) { q.When = nil }),
		with(p, func(q *api.Pool) { q.Gens, q.States = q.Gens[:last], q.States[:last] }),
		with(p, func(q *api.Pool) { q.Gens, q.When = q.Gens[:last], q.When[:last] }),
	}
}

func wrongNumbers(p api.Pool) []api.Pool {
	bad := []api.Pool{}
	for slot := range p.Gens {
		for _, gen := range []int{-1, -2, lastGen + 1, lastGen + 2, math.MinInt, math.MaxInt} {
			bad = append(bad, with(p, func(q *api.Pool) { q.Gens[slot] = gen }))
		}
		for _, state := range []int{-1, 3, 4, 1 << 32, 1<<32 + 1, math.MinInt, math.MaxInt} {
			bad = append(bad, with(p, func(q *api.Pool) { q.States[slot] = state }))
		}
		if p.States[slot] == api.RetiredS {
			continue
		}
		for _, when := range []int{1, -1, 1 << 32, math.MinInt, math.MaxInt} {
			bad = append(bad, with(p, func(q *api.Pool) { q.When[slot] = when }))
		}
	}
	return bad
}

func wrongFree(p api.Pool) []api.Pool {
	n := len(p.Gens)
	bad := []api.Pool{
		with(p, func(q *api.Pool) { q.Free = nil }),
		with(p, func(q *api.Pool) { q.Free = append(q.Free, make([]int, 10000)...) }),
	}
	for slot, state := range p.States {
		// One twice that is free, and one that is not free at all, are both wrong behind the others.
		bad = append(bad, with(p, func(q *api.Pool) { q.Free = append(q.Free, slot) }))
		if state != api.FreeS {
			bad = append(bad, with(p, func(q *api.Pool) { q.Free[0] = slot }))
		}
	}
	for i := range p.Free {
		bad = append(bad, with(p, func(q *api.Pool) { q.Free = slices.Delete(q.Free, i, i+1) }))
		other := p.Free[(i+1)%len(p.Free)]
		bad = append(bad, with(p, func(q *api.Pool) { q.Free[i] = other }))
	}
	for _, none := range []int{-1, -n, n, n + 1, n + 64, 1 << 32, math.MinInt, math.MaxInt} {
		bad = append(bad, with(p, func(q *api.Pool) { q.Free = append(q.Free, none) }))
		bad = append(bad, with(p, func(q *api.Pool) { q.Free[0] = none }))
	}
	return bad
}

func wantTake(t *testing.T, p, want api.Pool, ref int, e api.Errno) {
	t.Helper()
	was := copied(p)
	got, gotRef, gotE := Take(p)
	if !same(got, want) || gotRef != ref || gotE != e {
		t.Errorf("Take(%v) = %v, %d, %d; want %v, %d, %d", was, got, gotRef, gotE, want, ref, e)
	}
	wantApart(t, p, was, got)
}

func wantRetire(t *testing.T, p api.Pool, ref, when int, want api.Pool, e api.Errno) {
	t.Helper()
	was := copied(p)
	got, gotE := Retire(p, ref, when)
	if !same(got, want) || gotE != e {
		t.Errorf("Retire(%v, %d, %d) = %v, %d; want %v, %d", was, ref, when, got, gotE, want, e)
	}
	wantApart(t, p, was, got)
}

func wantReclaim(t *testing.T, p api.Pool, upto int, want api.Pool, n int) {
	t.Helper()
	was := copied(p)
	got, gotN := Reclaim(p, upto)
	if !same(got, want) || gotN != n {
		t.Errorf("Reclaim(%v, %d) = %v, %d; want %v, %d", was, upto, got, gotN, want, n)
	}
	wantApart(t, p, was, got)
}

func wantCount(t *testing.T, p api.Pool, live, retired, free int) {
	t.Helper()
	was := copied(p)
	a, b, c := Count(p)
	if a != live || b != retired || c != free {
		t.Errorf("Count(%v) = %d, %d, %d; want %d, %d, %d", was, a, b, c, live, retired, free)
	}
	if !same(p, was) {
		t.Errorf("Count changed %v to %v", was, p)
	}
}

func wantCheck(t *testing.T, p api.Pool, e api.Errno) {
	t.Helper()
	was := copied(p)
	if got := Check(p); got != e {
		t.Errorf("Check(%v) = %d; want %d", was, got, e)
	}
	if !same(p, was) {
		t.Errorf("Check changed %v to %v", was, p)
	}
}

// What was handed in is as it was; and each list's whole memory, also what is behind its length, is written over in turn, and no other list changes.
func wantApart(t *testing.T, p, was, got api.Pool) {
	t.Helper()
	if !same(p, was) {
		t.Errorf("the pool that was handed in, %v, was changed to %v", was, p)
		return
	}
	spoil(got.Gens, got.States, got.When, got.Free)
	if !same(p, was) {
		t.Errorf("what was told of %v shares memory with it", was)
	}
	told := [][]int{got.Gens, got.States, got.When, got.Free}
	for i, list := range told {
		clear(list[:cap(list)])
		for j, other := range told {
			if j != i {
				spoil(other)
			}
		}
		if slices.Contains(list[:cap(list)], spoiled) {
			t.Errorf("two lists of what was told of %v share memory", was)
		}
	}
}

const spoiled = -987654321

func spoil(lists ...[]int) {
	for _, list := range lists {
		for i := range list[:cap(list)] {
			list[:cap(list)][i] = spoiled
		}
	}
}

// With room behind each list, so that an append that does not copy would write into the handed-in memory.
func roomy(p api.Pool) (api.Pool, [][]int) {
	room := [][]int{}
	list := func(from []int) []int {
		long := make([]int, len(from)+100)
		copy(long, from)
		room = append(room, long)
		return long[:len(from)]
	}
	q := api.Pool{Gens: list(p.Gens), States: list(p.States), When: list(p.When), Free: list(p.Free)}
	return q, room
}

// P5.1
func TestNew(t *testing.T) {
	for n := 1; n <= 64; n++ {
		want := api.Pool{}
		for slot := 0; slot < n; slot++ {
			want.Gens = append(want.Gens, 0)
			want.States = append(want.States, 0)
			want.When = append(want.When, 0)
			want.Free = append(want.Free, slot)
		}
		got, e := New(n)
		if !same(got, want) || e != api.OK {
			t.Errorf("New(%d) = %v, %d", n, got, e)
		}
		wantCheck(t, got, api.OK)
		wantCount(t, got, 0, 0, n)
		wantApart(t, want, copied(want), got)
		if again, _ := New(n); !same(again, want) {
			t.Errorf("New(%d) again = %v", n, again)
		}
	}
}

func TestNewOfNoSize(t *testing.T) {
	for _, n := range []int{0, 65, -1, -64, 66, 128, 1024, 1 << 32, 1<<32 + 1, math.MinInt, math.MinInt + 1, math.MaxInt} {
		if p, e := New(n); !isNone(p) || e != api.ErrArg {
			t.Errorf("New(%d) = %v, %d", n, p, e)
		}
	}
}

func TestCheckOfPoolsThatMayBe(t *testing.T) {
	for _, p := range somePools() {
		wantCheck(t, p, api.OK)
	}
	wantCheck(t, sized(1), api.OK)
	wantCheck(t, sized(64), api.OK)
	for _, gen := range []int{0, 1, lastGen - 1, lastGen} {
		for _, state := range []int{0, 1, 2} {
			p := api.Pool{Gens: []int{gen}, States: []int{state}, When: []int{0}}
			if state == 0 {
				p.Free = []int{0}
			}
			wantCheck(t, p, api.OK)
		}
	}
	for _, when := range someInts {
		wantCheck(t, api.Pool{Gens: []int{0}, States: []int{2}, When: []int{when}}, api.OK)
	}
}

func TestCheckOfFreeInAnyOrder(t *testing.T) {
	p := api.Pool{Gens: []int{0, 0, 0}, States: []int{0, 0, 0}, When: []int{0, 0, 0}}
	for a := -1; a <= 3; a++ {
		for b := -1; b <= 3; b++ {
			for c := -1; c <= 3; c++ {
				p.Free = []int{a, b, c}
				sorted := slices.Sorted(slices.Values(p.Free))
				want := api.ErrArg
				if slices.Equal(sorted, []int{0, 1, 2}) {
					want = api.OK
				}
				wantCheck(t, p, want)
			}
		}
	}
}

func TestCount(t *testing.T) {
	wantCount(t, mixed(), 2, 3, 3)
	wantCount(t, full(), 21, 21, 22)
	wantCount(t, sized(64), 64, 0, 0)
	wantCount(t, api.Pool{Gens: []int{1}, States: []int{2}, When: []int{5}}, 0, 1, 0)
	wantCount(t, api.Pool{Gens: []int{1}, States: []int{1}, When: []int{0}}, 1, 0, 0)
	wantCount(t, api.Pool{Gens: []int{1}, States: []int{0}, When: []int{0}, Free: []int{0}}, 0, 0, 1)
}

// What stands in front of all promises: also where Take would find Free empty, or Retire a reference that is none.
func TestPoolsThatMayNotBe(t *testing.T) {
	for _, p := range badPools() {
		wantCheck(t, p, api.ErrArg)
		wantCount(t, p, 0, 0, 0)
		wantTake(t, p, api.Pool{}, 0, api.ErrArg)
		for _, ref := range []int{-1, 0, 1, 2, 5122, 1025, math.MinInt, math.MaxInt} {
			wantRetire(t, p, ref, 9, api.Pool{}, api.ErrArg)
		}
		for _, upto := range []int{math.MinInt, 0, 3, math.MaxInt} {
			wantReclaim(t, p, upto, api.Pool{}, 0)
		}
	}
}

// P5.2
func TestTake(t *testing.T) {
	p := mixed()
	for _, x := range []struct{ slot, ref int }{{7, 8}, {0, 1}, {4, 2053}} {
		want := with(p, func(q *api.Pool) {
			q.Free = q.Free[1:]
			q.States[x.slot] = 1
		})
		wantTake(t, p, want, x.ref, api.OK)
		p = want
		wantCheck(t, p, api.OK)
	}
	wantTake(t, p, api.Pool{}, 0, api.ErrFull)
}

func TestTakeAtTheEdges(t *testing.T) {
	one := func(gen int) api.Pool {
		return api.Pool{Gens: []int{gen}, States: []int{0}, When: []int{0}, Free: []int{0}}
	}
	for _, x := range []struct{ gen, ref int }{{0, 1}, {1, 1025}, {2, 2049}, {lastGen - 1, 1<<50 - 2047}, {lastGen, 1<<50 - 1023}} {
		want := api.Pool{Gens: []int{x.gen}, States: []int{1}, When: []int{0}}
		wantTake(t, one(x.gen), want, x.ref, api.OK)
		wantTake(t, want, api.Pool{}, 0, api.ErrFull)
	}
	p := sized(64)
	p.Gens[63], p.States[63], p.Free = lastGen, 0, []int{63}
	wantTake(t, p, with(p, func(q *api.Pool) { q.States[63], q.Free = 1, nil }), 1<<50-960, api.OK)
	wantTake(t, sized(64), api.Pool{}, 0, api.ErrFull)
}

func TestTakeOfAll(t *testing.T) {
	p, _ := New(64)
	for slot := range 64 {
		q, ref, e := Take(p)
		if ref != slot+1 || e != api.OK || len(q.Free) != 63-slot {
			t.Fatalf("take %d told %d, %d, %v", slot, ref, e, q)
		}
		p = q
	}
	wantTake(t, p, api.Pool{}, 0, api.ErrFull)
}

func TestRetire(t *testing.T) {
	for _, when := range someInts {
		wantRetire(t, mixed(), 5122, when, with(mixed(), func(q *api.Pool) { q.States[1], q.When[1] = 2, when }), api.OK)
		wantRetire(t, mixed(), 1<<50-1018, when, with(mixed(), func(q *api.Pool) { q.States[5], q.When[5] = 2, when }), api.OK)
	}
	last := with(sized(64), func(q *api.Pool) { q.States[63], q.When[63] = 2, 3 })
	wantRetire(t, sized(64), 64, 3, last, api.OK)
	wantRetire(t, sized(1), 1, 3, api.Pool{Gens: []int{0}, States: []int{2}, When: []int{3}}, api.OK)
}

func TestRetireOfNoReferenceOfItsSlots(t *testing.T) {
	none := []int{0, -1, -5122, 1<<50 + 1, 1<<50 + 2, 1 << 60, math.MinInt, math.MinInt + 1, math.MaxInt}
	for _, p := range somePools() {
		n := len(p.Gens)
		beyond := []int{1<<50 - 1023 + n, 1 << 50}
		for _, gen := range []int{0, 1, 5} {
			beyond = append(beyond, 1024*gen+n+1, 1024*gen+n+2, 1024*gen+1024)
		}
		for _, ref := range slices.Concat(none, beyond) {
			for _, when := range []int{0, 1, math.MinInt} {
				wantRetire(t, p, ref, when, api.Pool{}, api.ErrArg)
			}
		}
	}
}

func TestRetireOfNoLiveSlotOrAnotherGeneration(t *testing.T) {
	for _, p := range somePools() {
		for slot, state := range p.States {
			for _, gen := range []int{0, 1, p.Gens[slot] - 1, p.Gens[slot], p.Gens[slot] + 1, lastGen - 1, lastGen} {
				if gen < 0 || gen > lastGen || state == api.LiveS && gen == p.Gens[slot] {
					continue
				}
				wantRetire(t, p, 1+1024*gen+slot, 4, api.Pool{}, api.ErrNone)
			}
		}
	}
}

// P5.3
func TestReclaim(t *testing.T) {
	free6 := with(mixed(), func(q *api.Pool) {
		q.Gens[6], q.States[6], q.When[6], q.Free = lastGen, 0, 0, []int{7, 0, 4, 6}
	})
	free36 := with(mixed(), func(q *api.Pool) {
		q.Gens[6], q.States[6], q.When[6] = lastGen, 0, 0
		q.Gens[3], q.States[3], q.When[3], q.Free = 8, 0, 0, []int{7, 0, 4, 3, 6}
	})
	for _, upto := range []int{math.MinInt, -1, 0, 1} {
		wantReclaim(t, mixed(), upto, mixed(), 0)
	}
	wantReclaim(t, mixed(), 2, free6, 1)
	wantReclaim(t, mixed(), 3, free6, 1)
	wantReclaim(t, mixed(), 4, free36, 2)
	wantReclaim(t, mixed(), 5, free36, 2)
	wantReclaim(t, mixed(), math.MaxInt, free36, 2)
	wantReclaim(t, free36, math.MaxInt, free36, 0)
}

func TestReclaimInOrderOfSlots(t *testing.T) {
	p := api.Pool{Gens: []int{3, 1, 2}, States: []int{2, 2, 2}, When: []int{9, 8, 7}}
	wantReclaim(t, p, 9, api.Pool{Gens: []int{4, 2, 3}, States: []int{0, 0, 0}, When: []int{0, 0, 0}, Free: []int{0, 1, 2}}, 3)
	wantReclaim(t, p, 8, api.Pool{Gens: []int{3, 2, 3}, States: []int{2, 0, 0}, When: []int{9, 0, 0}, Free: []int{1, 2}}, 2)
	wantReclaim(t, p, 7, api.Pool{Gens: []int{3, 1, 3}, States: []int{2, 2, 0}, When: []int{9, 8, 0}, Free: []int{2}}, 1)
	wantReclaim(t, p, 6, p, 0)
}

func TestReclaimWhenAtTheEnds(t *testing.T) {
	for _, when := range someInts {
		for _, upto := range someInts {
			p := api.Pool{Gens: []int{6}, States: []int{2}, When: []int{when}}
			if when > upto {
				wantReclaim(t, p, upto, p, 0)
				continue
			}
			wantReclaim(t, p, upto, api.Pool{Gens: []int{7}, States: []int{0}, When: []int{0}, Free: []int{0}}, 1)
		}
	}
}

func TestReclaimAtTheLastGeneration(t *testing.T) {
	for _, slot := range []int{0, 1, 63} {
		for _, gen := range []int{0, 1, lastGen - 2, lastGen - 1, lastGen} {
			p := sized(64)
			p.Gens[slot], p.States[slot], p.When[slot] = gen, 2, 5
			if gen == lastGen {
				wantReclaim(t, p, 5, p, 0)
				wantReclaim(t, p, math.MaxInt, p, 0)
				continue
			}
			want := with(p, func(q *api.Pool) {
				q.Gens[slot], q.States[slot], q.When[slot], q.Free = gen+1, 0, 0, []int{slot}
			})
			wantReclaim(t, p, 5, want, 1)
			wantReclaim(t, p, 4, p, 0)
			wantReclaim(t, p, 6, want, 1)
		}
	}
}

func TestReclaimOf64(t *testing.T) {
	for _, upto := range []int{-1, 0, 1, 2, 3, 32, 61, 62, 63, math.MaxInt} {
		want, n := full(), 0
		for slot := 2; slot < 64; slot += 3 {
			if slot <= upto {
				want.Gens[slot], want.States[slot], want.When[slot] = slot*slot+1, 0, 0
				want.Free = append(want.Free, slot)
				n++
			}
		}
		wantReclaim(t, full(), upto, want, n)
	}
}

// R2: the room behind a handed-in list is not the program's to write into either.
func TestNothingIsWrittenBehindTheLists(t *testing.T) {
	for _, p := range somePools() {
		q, room := roomy(p)
		Take(q)
		Reclaim(q, math.MaxInt)
		for slot, gen := range q.Gens {
			Retire(q, 1+1024*gen+slot, 8)
		}
		Check(q)
		Count(q)
		for i, list := range [][]int{p.Gens, p.States, p.When, p.Free} {
			if !slices.Equal(room[i][:len(list)], list) || slices.Max(room[i][len(list):]) != 0 || slices.Min(room[i][len(list):]) != 0 {
				t.Errorf("list %d of %v was written into: %v", i, p, room[i])
			}
		}
	}
}

// R2: lists that share memory in what is handed in share none in what is told.
func TestListsThatShareMemory(t *testing.T) {
	zeros := []int{0}
	p := api.Pool{Gens: zeros, States: zeros, When: zeros, Free: zeros}
	wantTake(t, p, api.Pool{Gens: []int{0}, States: []int{1}, When: []int{0}}, 1, api.OK)
	wantReclaim(t, p, 5, api.Pool{Gens: []int{0}, States: []int{0}, When: []int{0}, Free: []int{0}}, 0)
	twos := []int{2}
	p = api.Pool{Gens: twos, States: twos, When: twos}
	wantReclaim(t, p, 2, api.Pool{Gens: []int{3}, States: []int{0}, When: []int{0}, Free: []int{0}}, 1)
	live := []int{1}
	p = api.Pool{Gens: live, States: live, When: []int{0}}
	wantRetire(t, p, 1025, 6, api.Pool{Gens: []int{1}, States: []int{2}, When: []int{6}}, api.OK)
}

func TestExample(t *testing.T) {
	p, _ := New(1)
	p, a, _ := Take(p)
	p, _ = Retire(p, a, 3)
	p, n := Reclaim(p, 3)
	_, b, e := Take(p)
	if a != 1 || n != 1 || b != 1025 || e != api.OK {
		t.Errorf("got %d, %d, %d, %d", a, n, b, e)
	}
}

// P5.4, of all that can come of pools of 1 to 3 slots in some calls: all slots are live, retired or free, and no reference is told twice.
func TestWhatFollows(t *testing.T) {
	for n := 1; n <= 3; n++ {
		p, _ := New(n)
		follow(t, p, n, 0, 7, nil)
		for slot := range p.Gens {
			p.Gens[slot] = lastGen - slot
		}
		follow(t, p, n, 0, 7, nil)
	}
}

func follow(t *testing.T, p api.Pool, n, now, depth int, told []int) {
	t.Helper()
	wantCheck(t, p, api.OK)
	if live, retired, free := Count(p); live+retired+free != n || free != len(p.Free) || live != times(p.States, 1) || retired != times(p.States, 2) {
		t.Fatalf("Count(%v) = %d, %d, %d", p, live, retired, free)
	}
	if depth == 0 {
		return
	}
	if q, ref, e := Take(p); e == api.OK {
		if slices.Contains(told, ref) {
			t.Fatalf("%d was told twice: %v", ref, told)
		}
		follow(t, q, n, now, depth-1, append(slices.Clone(told), ref))
	}
	for _, ref := range told {
		if q, e := Retire(p, ref, now); e == api.OK {
			follow(t, q, n, now+1, depth-1, told)
		}
	}
	for _, upto := range []int{now - 2, now} {
		if q, freed := Reclaim(p, upto); freed > 0 {
			follow(t, q, n, now, depth-1, told)
		}
	}
}

func times(list []int, v int) int {
	n := 0
	for _, w := range list {
		if w == v {
			n++
		}
	}
	return n
}

// P5.4, on a long way: a slot goes round and round until its last generation, and is never given out again.
func TestRoundAndRound(t *testing.T) {
	p, _ := New(2)
	p.Gens = []int{lastGen - 3, 0}
	told := map[int]bool{}
	for round := range 500 {
		q, ref, e := Take(p)
		if e != api.OK || told[ref] {
			t.Fatalf("round %d: %d, %d of %v", round, ref, e, p)
		}
		told[ref] = true
		q, e = Retire(q, ref, round)
		if e != api.OK {
			t.Fatalf("round %d: %d", round, e)
		}
		if _, e := Retire(q, ref, round); e != api.ErrNone {
			t.Fatalf("round %d: retired twice: %d", round, e)
		}
		p, _ = Reclaim(q, round)
	}
	live, retired, free := Count(p)
	if live != 0 || retired != 1 || free != 1 || p.Gens[0] != lastGen || p.Gens[1] != 496 {
		t.Errorf("got %v", p)
	}
}

// R6
func TestTheSameAgain(t *testing.T) {
	for _, p := range somePools() {
		a, ra, ea := Take(p)
		b, rb, eb := Take(p)
		c, nc := Reclaim(p, 4)
		d, nd := Reclaim(p, 4)
		if !same(a, b) || ra != rb || ea != eb || !same(c, d) || nc != nd {
			t.Errorf("not the same again of %v", p)
		}
	}
}
