package pool

import (
	"slices"

	"tendril/api"
	"tendril/tag"
)

func mayBe(p api.Pool) bool {
	n := len(p.Gens)
	// The lengths are asked first: all else looks into the lists by the slots of Gens.
	if !isSize(n) || len(p.States) != n || len(p.When) != n {
		return false
	}
	for slot := range n {
		if !slotMayBe(p, slot) {
			return false
		}
	}
	return freeMayBe(p)
}

func isSize(n int) bool {
	return n >= 1 && n <= api.MaxCap
}

func isSlot(p api.Pool, slot int) bool {
	return slot >= 0 && slot < len(p.Gens)
}

// Which generations there are is tag's to say.
func isGen(slot, gen int) bool {
	_, e := tag.Pack(slot, gen)
	return e == api.OK
}

func slotMayBe(p api.Pool, slot int) bool {
	if !isGen(slot, p.Gens[slot]) {
		return false
	}
	switch p.States[slot] {
	case api.FreeS, api.LiveS:
		return p.When[slot] == 0
	case api.RetiredS:
		return true
	}
	return false
}

// Free is all slots that are free, each once: as each is struck off when it is met, none may be met again, and none be left.
func freeMayBe(p api.Pool) bool {
	left := slices.Clone(p.States)
	for _, slot := range p.Free {
		if !isSlot(p, slot) || left[slot] != api.FreeS {
			return false
		}
		left[slot] = api.LiveS
	}
	return !slices.Contains(left, api.FreeS)
}

// What is told shares no memory with what was handed in: whoever handed it in may write into it later.
func fresh(p api.Pool) api.Pool {
	return api.Pool{Gens: slices.Clone(p.Gens), States: slices.Clone(p.States), When: slices.Clone(p.When), Free: slices.Clone(p.Free)}
}
