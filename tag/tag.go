// Package tag is layer 1: see shared/doc/01-tag.md.
package tag

import "tendril/api"

const (
	slots = 1 << api.SlotBits
	gens  = 1 << 40
	// References start at 1, because 0 refers to nothing; so the last one is just this many.
	lastRef = slots * gens
)

// Pack tells the reference of a slot and its generation.
func Pack(slot, gen int) (int, api.Errno) {
	if slot < 0 || slot >= slots || gen < 0 || gen >= gens {
		return 0, api.ErrArg
	}
	return 1 + slots*gen + slot, api.OK
}

// Unpack tells which slot and generation a reference is of.
func Unpack(ref int) (slot, gen int, e api.Errno) {
	if ref < 1 || ref > lastRef {
		return 0, 0, api.ErrArg
	}
	return (ref - 1) % slots, (ref - 1) / slots, api.OK
}

// Next tells the reference of the same slot, of the next generation.
func Next(ref int) (int, api.Errno) {
	slot, gen, e := Unpack(ref)
	if e != api.OK {
		return 0, e
	}
	// The last generation has none after it, and that is Pack's error too.
	return Pack(slot, gen+1)
}
