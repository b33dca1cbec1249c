package arena

import (
	"testing"

	"tendril/api"
)

// What the chapters' words ask of arenas that may be, worked out here without the layers below.

func kindByTheWords(which int) bool {
	return which == 1 || which == 2 || which == 3
}

func takeByTheWords(s api.Shared, which int) (api.Shared, int, api.Errno) {
	if !kindByTheWords(which) {
		return api.Shared{}, 0, 1
	}
	if len(s.Pools[which-1].Free) == 0 {
		return api.Shared{}, 0, 3
	}
	slot := s.Pools[which-1].Free[0]
	return with(s, func(c *api.Shared) {
		c.Pools[which-1].Free = c.Pools[which-1].Free[1:]
		c.Pools[which-1].States[slot] = 1
	}), ref(slot, s.Pools[which-1].Gens[slot]), 0
}

func genByTheWords(s api.Shared, which, r int) (gen, state int, e api.Errno) {
	if !kindByTheWords(which) || r < 1 || r > 1<<50 || (r-1)%1024 >= len(s.Pools[which-1].Gens) {
		return 0, 0, 1
	}
	slot := (r - 1) % 1024
	return s.Pools[which-1].Gens[slot], s.Pools[which-1].States[slot], 0
}

func retireByTheWords(s api.Shared, which, r int) (api.Shared, api.Errno) {
	gen, state, e := genByTheWords(s, which, r)
	if e != 0 {
		return api.Shared{}, 1
	}
	if state != 1 || gen != (r-1)/1024 {
		return api.Shared{}, 2
	}
	return with(s, func(c *api.Shared) {
		c.Pools[which-1].States[(r-1)%1024] = 2
		c.Pools[which-1].When[(r-1)%1024] = s.Era.Now
	}), 0
}

func pinByTheWords(s api.Shared, thread int) (api.Shared, api.Errno) {
	if thread < 0 || thread >= len(s.Era.Pins) || s.Era.Pins[thread] != -1 {
		return api.Shared{}, 1
	}
	return with(s, func(c *api.Shared) { c.Era.Pins[thread] = s.Era.Now }), 0
}

func turnByTheWords(s api.Shared) (api.Shared, bool) {
	told := copied(s)
	if s.Era.Now == lastTime {
		return told, false
	}
	for _, pin := range s.Era.Pins {
		if pin != -1 && pin != s.Era.Now {
			return told, false
		}
	}
	told.Era.Now = s.Era.Now + 1
	for i := range told.Pools {
		p := &told.Pools[i]
		for slot := range p.Gens {
			if p.States[slot] == 2 && p.When[slot] <= told.Era.Now-2 && p.Gens[slot] < lastGen {
				p.Gens[slot], p.States[slot], p.When[slot] = p.Gens[slot]+1, 0, 0
				p.Free = append(p.Free, slot)
			}
		}
	}
	return told, true
}

func endByTheWords(s api.Shared, thread int) (api.Shared, api.Errno) {
	if thread < 0 || thread >= len(s.Era.Pins) {
		return api.Shared{}, 1
	}
	if s.Era.Pins[thread] == -1 {
		return api.Shared{}, 2
	}
	told, _ := turnByTheWords(with(s, func(c *api.Shared) { c.Era.Pins[thread] = -1 }))
	return told, 0
}

func wantTake(t *testing.T, s api.Shared, which int, want api.Shared, r int, e api.Errno) {
	t.Helper()
	was := copied(s)
	got, gotR, gotE := Take(s, which)
	if !same(got, want) || gotR != r || gotE != e {
		t.Fatalf("Take(%v, %d) = %v, %d, %d; want %v, %d, %d", was, which, got, gotR, gotE, want, r, e)
	}
	wantApart(t, s, was, got)
}

func wantRetire(t *testing.T, s api.Shared, which, r int, want api.Shared, e api.Errno) {
	t.Helper()
	was := copied(s)
	got, gotE := Retire(s, which, r)
	if !same(got, want) || gotE != e {
		t.Fatalf("Retire(%v, %d, %d) = %v, %d; want %v, %d", was, which, r, got, gotE, want, e)
	}
	wantApart(t, s, was, got)
}

func wantPin(t *testing.T, s api.Shared, thread int, want api.Shared, e api.Errno) {
	t.Helper()
	was := copied(s)
	got, gotE := Pin(s, thread)
	if !same(got, want) || gotE != e {
		t.Fatalf("Pin(%v, %d) = %v, %d; want %v, %d", was, thread, got, gotE, want, e)
	}
	wantApart(t, s, was, got)
}

func wantTurn(t *testing.T, s, want api.Shared, ok bool) {
	t.Helper()
	was := copied(s)
	got, gotOk := Turn(s)
	if !same(got, want) || gotOk != ok {
		t.Fatalf("Turn(%v) = %v, %v; want %v, %v", was, got, gotOk, want, ok)
	}
	wantApart(t, s, was, got)
}

func wantEnd(t *testing.T, s api.Shared, thread int, want api.Shared, e api.Errno) {
	t.Helper()
	was := copied(s)
	got, gotE := End(s, thread)
	if !same(got, want) || gotE != e {
		t.Fatalf("End(%v, %d) = %v, %d; want %v, %d", was, thread, got, gotE, want, e)
	}
	wantApart(t, s, was, got)
}

func wantGen(t *testing.T, s api.Shared, which, r, gen, state int, e api.Errno) {
	t.Helper()
	was := copied(s)
	gotGen, gotState, gotE := Gen(s, which, r)
	if gotGen != gen || gotState != state || gotE != e {
		t.Fatalf("Gen(%v, %d, %d) = %d, %d, %d; want %d, %d, %d", was, which, r, gotGen, gotState, gotE, gen, state, e)
	}
	if !same(s, was) {
		t.Fatalf("Gen changed %v to %v", was, s)
	}
}

func wantCheck(t *testing.T, s api.Shared, e api.Errno) {
	t.Helper()
	was := copied(s)
	if got := Check(s); got != e {
		t.Fatalf("Check(%v) = %d; want %d", was, got, e)
	}
	if !same(s, was) {
		t.Fatalf("Check changed %v to %v", was, s)
	}
}
