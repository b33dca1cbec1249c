package arena

import (
	"fmt"
	"maps"
	"slices"
	"testing"

	"tendril/api"
)

// A slot of a kind.
type spot struct{ which, slot int }

// What a way through calls has been: which references are live, which threads may see each slot that is retired, as they are pinned since it was retired, or since its epoch, and which references were told.
type way struct {
	s    api.Shared
	live []api.Access
	seen map[spot][]int
	told map[api.Access]bool
}

func begin(s api.Shared) way {
	return way{s: s, seen: map[spot][]int{}, told: map[api.Access]bool{}}
}

func (w way) clone(s api.Shared) way {
	v := way{s: s, live: slices.Clone(w.live), seen: map[spot][]int{}, told: maps.Clone(w.told)}
	for at, threads := range w.seen {
		v.seen[at] = slices.Clone(threads)
	}
	return v
}

// P7.4: nobody may see the slot that is taken.
func (w way) taken(t *testing.T, s api.Shared, which, r int) way {
	t.Helper()
	at, name := spot{which, (r - 1) % 1024}, api.Access{Which: which, Ref: r}
	if len(w.seen[at]) != 0 {
		t.Fatalf("%v is taken, and threads %v may see it: %v", at, w.seen[at], w.s)
	}
	if w.told[name] {
		t.Fatalf("%v was told twice: %v", name, w.s)
	}
	v := w.clone(s)
	v.live, v.told[name] = append(v.live, name), true
	return v
}

func (w way) retired(s api.Shared, i int) way {
	v := w.clone(s)
	v.live = slices.Delete(v.live, i, i+1)
	at := spot{w.live[i].Which, (w.live[i].Ref - 1) % 1024}
	v.seen[at] = nil
	for thread, pin := range s.Era.Pins {
		if pin != -1 {
			v.seen[at] = append(v.seen[at], thread)
		}
	}
	return v
}

func (w way) pinned(s api.Shared, thread int) way {
	v := w.clone(s)
	for i, p := range s.Pools {
		for slot, state := range p.States {
			if state == api.RetiredS && p.When[slot] == s.Era.Now {
				v.seen[spot{i + 1, slot}] = append(v.seen[spot{i + 1, slot}], thread)
			}
		}
	}
	return v
}

func (w way) ended(s api.Shared, thread int) way {
	v := w.clone(s)
	for at, threads := range v.seen {
		v.seen[at] = slices.DeleteFunc(threads, func(other int) bool { return other == thread })
	}
	return v
}

// What somebody may see is not free; all slots are in one of the states; and the arena may be.
func (w way) wantHeld(t *testing.T) {
	t.Helper()
	wantCheck(t, w.s, api.OK)
	for at, threads := range w.seen {
		if p := w.s.Pools[at.which-1]; len(threads) != 0 && p.States[at.slot] != api.RetiredS {
			t.Fatalf("%v is in the state %d, and threads %v may see it: %v", at, p.States[at.slot], threads, w.s)
		}
	}
	for _, name := range w.live {
		if gen, state, e := Gen(w.s, name.Which, name.Ref); gen != (name.Ref-1)/1024 || state != api.LiveS || e != api.OK {
			t.Fatalf("%v is live, and Gen tells %d, %d, %d: %v", name, gen, state, e, w.s)
		}
	}
}

// P7.4, of all that can come of small arenas in some calls, from the first epoch on and close to the last one.
func TestWhatFollows(t *testing.T) {
	for _, x := range []struct{ slots, threads, calls int }{{1, 1, 12}, {1, 2, 10}, {2, 2, 9}, {1, 3, 8}} {
		for _, now := range []int{0, 1, 5, lastTime - 3, lastTime} {
			s, e := New(api.Cfg{Nodes: 1, Edges: x.slots, Props: 1, Ids: 1, EdgeIds: 1}, x.threads)
			if e != api.OK {
				t.Fatal(e)
			}
			s.Era.Now = now
			follow(t, begin(s), []int{api.EdgeR}, x.calls, map[string]int{})
		}
	}
	s, _ := New(api.Cfg{Nodes: 1, Edges: 1, Props: 1, Ids: 1, EdgeIds: 1}, 1)
	follow(t, begin(s), []int{api.NodeR, api.EdgeR, api.PropR}, 9, map[string]int{})
}

func follow(t *testing.T, w way, kinds []int, calls int, met map[string]int) {
	t.Helper()
	key := fmt.Sprint(w)
	if met[key] > calls {
		return
	}
	met[key] = calls + 1
	w.wantHeld(t)
	if calls == 0 {
		return
	}
	for _, which := range kinds {
		if s, r, e := Take(w.s, which); e == api.OK {
			follow(t, w.taken(t, s, which, r), kinds, calls-1, met)
		} else if e != api.ErrFull {
			t.Fatalf("Take(%v, %d) told %d", w.s, which, e)
		}
	}
	for i, name := range w.live {
		s, e := Retire(w.s, name.Which, name.Ref)
		if e != api.OK {
			t.Fatalf("Retire(%v, %v) told %d", w.s, name, e)
		}
		follow(t, w.retired(s, i), kinds, calls-1, met)
	}
	for thread := range w.s.Era.Pins {
		if s, e := Pin(w.s, thread); e == api.OK {
			follow(t, w.pinned(s, thread), kinds, calls-1, met)
		}
		if s, e := End(w.s, thread); e == api.OK {
			follow(t, w.ended(s, thread), kinds, calls-1, met)
		}
	}
	if s, ok := Turn(w.s); ok {
		follow(t, w.clone(s), kinds, calls-1, met)
	}
}

// P7.4, on a long way with 64 threads and 64 slots of each kind, each of which comes and goes in a rhythm of its own; slots are given out again and again on it.
func TestALongWay(t *testing.T) {
	s, _ := New(api.Cfg{Nodes: 64, Edges: 3, Props: 17, Ids: 1, EdgeIds: 1}, 64)
	w := begin(s)
	for step := range 6000 {
		thread, which := step*29%64, 1+step%3
		if s, e := End(w.s, thread); e == api.OK && step%3 != 0 {
			w = w.ended(s, thread)
		} else if s, e := Pin(w.s, thread); e == api.OK && step%7 == 0 {
			w = w.pinned(s, thread)
		}
		if s, r, e := Take(w.s, which); e == api.OK {
			w = w.taken(t, s, which, r)
		}
		if i := step * 13 % 5; i < len(w.live) && step%2 == 0 {
			s, _ := Retire(w.s, w.live[i].Which, w.live[i].Ref)
			w = w.retired(s, i)
		}
		w.wantHeld(t)
	}
	if w.s.Era.Now < 30 || len(w.told) < 500 {
		t.Errorf("the epoch is %d, and %d were told", w.s.Era.Now, len(w.told))
	}
}

func stateOf(t *testing.T, s api.Shared, which, r int) int {
	t.Helper()
	_, state, e := Gen(s, which, r)
	if e != api.OK {
		t.Fatalf("Gen(%v, %d, %d) told %d", s, which, r, e)
	}
	return state
}

// The chapter's example, for each kind and from several epochs on: free behind two turns, not behind one, and then of the next generation.
func TestFreeBehindTwoTurns(t *testing.T) {
	for which := 1; which <= 3; which++ {
		for _, now := range []int{0, 1, 2, 9, lastTime - 2} {
			s := withEraOf(single(0, 0, 0), now, -1, -1)
			s, r, _ := Take(s, which)
			s, e := Retire(s, which, r)
			s, first := Turn(s)
			held := stateOf(t, s, which, r)
			s, second := Turn(s)
			_, next, f := Take(s, which)
			if r != 1 || e != api.OK || !first || held != api.RetiredS || !second || stateOf(t, s, which, r) != api.FreeS || next != 1025 || f != api.OK {
				t.Errorf("of the kind %d, from %d on: %d, %d, %v, %d, %v, %d, %d: %v", which, now, r, e, first, held, second, next, f, s)
			}
		}
		for _, now := range []int{lastTime - 1, lastTime} {
			s := withEraOf(single(1, 0, 0), now, -1)
			s, _ = Retire(s, which, 1)
			for range 3 {
				s, _ = Turn(s)
			}
			if stateOf(t, s, which, 1) != api.RetiredS || s.Era.Now != lastTime {
				t.Errorf("of the kind %d, from %d on: %v", which, now, s)
			}
		}
	}
}

// Who was pinned when a slot was retired, in Now or in the epoch ahead of it, holds it as long as it is pinned, however often others come and go.
func TestHeldWhilePinnedSince(t *testing.T) {
	for which := 1; which <= 3; which++ {
		for _, pin := range []int{4, 5} {
			s := withEraOf(single(1, 0, 0), 5, pin, -1)
			s, e := Retire(s, which, 1)
			for range 10 {
				s, _ = Turn(s)
				s, _ = Pin(s, 1)
				s, _ = End(s, 1)
				if _, _, f := Take(s, which); e != api.OK || f != api.ErrFull || stateOf(t, s, which, 1) != api.RetiredS || s.Era.Pins[0] != pin || s.Era.Now != pin+1 {
					t.Fatalf("of the kind %d, pinned in %d: %d, %d, %v", which, pin, e, f, s)
				}
			}
			s, e = End(s, 0)
			s, _ = Turn(s)
			if _, r, f := Take(s, which); e != api.OK || r != 1025 || f != api.OK {
				t.Errorf("of the kind %d, pinned in %d: %d, %d, %d, %v", which, pin, e, r, f, s)
			}
		}
	}
}
