package arena

import (
	"math"
	"slices"
	"testing"

	"tendril/api"
)

const (
	lastGen  = 1<<40 - 1
	lastTime = 1 << 60
)

// Numbers at the ends of what an int holds, and around 0.
var ends = []int{math.MinInt, math.MinInt + 1, math.MaxInt - 1, math.MaxInt}

// Numbers that are no kind, those included that would be one if only some bits were looked at.
var noKinds = []int{0, 4, -1, -2, -3, 5, 7, 64, 1 << 32, 1<<32 + 1, 1<<32 + 3, 1 << 60, math.MinInt, math.MinInt + 1, math.MinInt + 2, math.MaxInt - 1, math.MaxInt}

func ref(slot, gen int) int {
	return 1 + 1024*gen + slot
}

func samePool(a, b api.Pool) bool {
	return slices.Equal(a.Gens, b.Gens) && slices.Equal(a.States, b.States) && slices.Equal(a.When, b.When) && slices.Equal(a.Free, b.Free)
}

func same(a, b api.Shared) bool {
	for i := range a.Pools {
		if !samePool(a.Pools[i], b.Pools[i]) {
			return false
		}
	}
	return slices.Equal(a.Mem, b.Mem) && slices.Equal(a.Latches, b.Latches) && a.Era.Now == b.Era.Now && slices.Equal(a.Era.Pins, b.Era.Pins)
}

// Written element by element, so that it is not the program's own way.
func listCopied(from []int) []int {
	to := []int{}
	for _, v := range from {
		to = append(to, v)
	}
	return to
}

func copied(s api.Shared) api.Shared {
	c := api.Shared{Mem: listCopied(s.Mem), Latches: listCopied(s.Latches)}
	for i, p := range s.Pools {
		c.Pools[i] = api.Pool{Gens: listCopied(p.Gens), States: listCopied(p.States), When: listCopied(p.When), Free: listCopied(p.Free)}
	}
	c.Era = api.Era{Now: s.Era.Now, Pins: listCopied(s.Era.Pins)}
	return c
}

func with(s api.Shared, change func(c *api.Shared)) api.Shared {
	c := copied(s)
	change(&c)
	return c
}

func withPoolAt(s api.Shared, i int, p api.Pool) api.Shared {
	return with(s, func(c *api.Shared) { c.Pools[i] = p })
}

func withEraOf(s api.Shared, now int, pins ...int) api.Shared {
	return with(s, func(c *api.Shared) { c.Era = api.Era{Now: now, Pins: pins} })
}

// Slots of all states, free ones out of order, some of the last generation, retired ones from long ago up to Now, and a pool that is full.
func mixed() api.Shared {
	return api.Shared{
		Mem:     []int{7, -1, 5},
		Latches: []int{8, 3},
		Pools: [3]api.Pool{
			{Gens: []int{0, 5, 2, lastGen, 9}, States: []int{0, 1, 2, 2, 0}, When: []int{0, 0, 3, 0, 0}, Free: []int{4, 0}},
			{Gens: []int{4, 6}, States: []int{1, 2}, When: []int{0, 4}},
			{Gens: []int{lastGen - 1, 7, 0}, States: []int{2, 0, 1}, When: []int{2, 0, 0}, Free: []int{1}},
		},
		Era: api.Era{Now: 4, Pins: []int{-1, 4, -1}},
	}
}

// 64 slots of each kind: one after the other free, live and retired, the free ones backwards; and 64 threads that are not pinned.
func full(now int) api.Shared {
	s := api.Shared{Mem: []int{1, 1}, Era: api.Era{Now: now, Pins: slices.Repeat([]int{-1}, 64)}}
	for i := range s.Pools {
		for slot := range 64 {
			state, when := (slot+i)%3, 0
			if state == 2 {
				when = now - slot%4
			}
			if state == 0 {
				s.Pools[i].Free = append([]int{slot}, s.Pools[i].Free...)
			}
			s.Pools[i].Gens = append(s.Pools[i].Gens, slot*(i+1))
			s.Pools[i].States = append(s.Pools[i].States, state)
			s.Pools[i].When = append(s.Pools[i].When, when)
		}
	}
	return s
}

// A slot of each kind, all three in one state.
func single(state, gen, when int) api.Shared {
	s := api.Shared{Latches: []int{2}, Era: api.Era{Pins: []int{-1}}}
	for i := range s.Pools {
		s.Pools[i] = api.Pool{Gens: []int{gen}, States: []int{state}, When: []int{when}}
		if state == 0 {
			s.Pools[i].Free = []int{0}
		}
	}
	return s
}

func somePins(now int) [][]int {
	pins := [][]int{{-1}, {now}, {-1, now}, {now, -1, now}, slices.Repeat([]int{-1}, 64), slices.Repeat([]int{now}, 64)}
	if now == 0 {
		return pins
	}
	behind := slices.Repeat([]int{-1}, 64)
	behind[63] = now - 1
	return append(pins, []int{now - 1}, []int{now - 1, -1}, []int{-1, now, now - 1}, []int{now - 1, now - 1}, behind)
}

func someArenas() []api.Shared {
	bases := []api.Shared{
		mixed(), full(0), full(9), single(0, 0, 0), single(0, lastGen, 0), single(1, 0, 0), single(1, lastGen, 0),
		single(2, 3, math.MinInt), single(2, 3, -2), single(2, 3, -1), single(2, 0, 0), single(2, 3, 1), single(2, 3, lastTime), single(2, lastGen, 0), single(2, lastGen-1, 0), single(2, 3, math.MaxInt),
	}
	all := []api.Shared{}
	for _, s := range bases {
		for _, now := range []int{0, 1, 2, 3, 5, lastTime - 1, lastTime} {
			for _, pins := range somePins(now) {
				all = append(all, withEraOf(s, now, pins...))
			}
		}
	}
	return append(all, bases...)
}

func badPools() []api.Pool {
	one := func(gen, state, when int, free ...int) api.Pool {
		return api.Pool{Gens: []int{gen}, States: []int{state}, When: []int{when}, Free: free}
	}
	live := func(n int) api.Pool {
		return api.Pool{Gens: make([]int, n), States: slices.Repeat([]int{1}, n), When: make([]int, n)}
	}
	return []api.Pool{
		{}, {Gens: []int{}, States: []int{}, When: []int{}, Free: []int{}},
		{Gens: []int{0}}, {States: []int{1}}, {When: []int{0}}, {Free: []int{0}},
		{Gens: []int{0, 0}, States: []int{1}, When: []int{0}}, {Gens: []int{0}, States: []int{1, 1}, When: []int{0}}, {Gens: []int{0}, States: []int{1}, When: []int{0, 0}},
		{Gens: []int{0}, States: []int{1}}, {Gens: []int{0}, When: []int{0}}, {States: []int{1}, When: []int{0}},
		live(65), live(1000),
		one(-1, 1, 0), one(lastGen+1, 1, 0), one(math.MinInt, 1, 0), one(math.MaxInt, 1, 0),
		one(0, -1, 0), one(0, 3, 0), one(0, math.MinInt, 0), one(0, math.MaxInt, 0),
		one(0, 1, 1), one(0, 1, -1), one(0, 0, 1, 0), one(0, 0, math.MinInt, 0),
		one(0, 0, 0), one(0, 0, 0, 0, 0), one(0, 0, 0, 1), one(0, 0, 0, -1), one(0, 1, 0, 0), one(0, 2, 0, 0), one(0, 0, 0, math.MinInt), one(0, 0, 0, math.MaxInt),
	}
}

func badEras() []api.Era {
	bad := []api.Era{{}, {Pins: []int{}}, {Now: 3}, {Pins: slices.Repeat([]int{-1}, 65)}, {Now: 3, Pins: slices.Repeat([]int{3}, 1000)}}
	for _, now := range append([]int{-1, -2, lastTime + 1}, ends...) {
		bad = append(bad, api.Era{Now: now, Pins: []int{-1}}, api.Era{Now: now, Pins: []int{now}})
	}
	for _, now := range []int{0, 1, 2, 3, lastTime} {
		for _, pin := range append([]int{-2, now - 3, now + 1}, ends...) {
			if pin != -1 {
				bad = append(bad, api.Era{Now: now, Pins: []int{pin}}, api.Era{Now: now, Pins: []int{-1, now, pin}})
			}
		}
	}
	return bad
}

// Arenas with one part that may not be, in each of the four places.
func badArenas() []api.Shared {
	bad := []api.Shared{{}, {Mem: []int{1}, Latches: []int{1}}}
	for _, s := range []api.Shared{mixed(), full(6), single(1, 0, 0)} {
		for i := range s.Pools {
			for _, p := range badPools() {
				bad = append(bad, withPoolAt(s, i, p))
			}
		}
		for _, e := range badEras() {
			bad = append(bad, withEraOf(s, e.Now, e.Pins...))
		}
	}
	return bad
}

// Threads of which there are none among n.
func noThreads(n int) []int {
	return append([]int{-1, -2, -n, -n - 1, n, n + 1, n + 64, 1 << 32, 1<<32 + n - 1}, ends...)
}

// Numbers that are no reference of a slot in a pool of n: no references at all, and those of slots that there are not.
func noRefs(n int) []int {
	none := append([]int{0, -1, -2, -1024, 1<<50 + 1, 1<<50 + 2, 1 << 60}, ends...)
	for _, gen := range []int{0, 1, 5, lastGen} {
		none = append(none, ref(n, gen), ref(n+1, gen), ref(1023, gen))
	}
	return none
}

// Generations around the one that a slot has.
func gensAround(gen int) []int {
	all := []int{}
	for _, g := range []int{0, 1, gen - 1, gen, gen + 1, lastGen - 1, lastGen} {
		if g >= 0 && g <= lastGen {
			all = append(all, g)
		}
	}
	return all
}

func listsOf(s api.Shared) [][]int {
	lists := [][]int{}
	for _, p := range s.Pools {
		lists = append(lists, p.Gens, p.States, p.When, p.Free)
	}
	return append(lists, s.Era.Pins)
}

func spoil(list []int) {
	for i := range list[:cap(list)] {
		list[:cap(list)][i] = -987654321
	}
}

func restore(lists, was [][]int) {
	for i := range lists {
		copy(lists[i], was[i])
	}
}

// R2: what was handed in is as it was, and no list of pools and eras changes when another one's whole memory, also what is behind its length, is written over.
func wantApart(t *testing.T, s, was, got api.Shared) {
	t.Helper()
	if !same(s, was) {
		t.Fatalf("what was handed in, %v, was changed to %v", was, s)
	}
	told := copied(got)
	for i, list := range listsOf(got) {
		spoil(list)
		if !same(s, was) {
			t.Fatalf("the list %d of what was told of %v shares memory with it", i, was)
		}
		copy(list, listsOf(told)[i])
		if !same(got, told) {
			t.Fatalf("the list %d of what was told of %v shares memory with another one", i, was)
		}
	}
	for _, list := range listsOf(s) {
		spoil(list)
	}
	if !same(got, told) {
		t.Fatalf("what was told of %v changed when that was written into", was)
	}
	restore(listsOf(s), listsOf(was))
}
