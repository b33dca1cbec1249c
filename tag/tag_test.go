package tag

import (
	"math"
	"testing"

	"tendril/api"
)

const (
	lastSlot = 1023
	lastGen  = 1<<40 - 1
)

// Around every edge, and some in between.
var (
	someSlots = []int{0, 1, 2, 3, 511, 512, 513, 1022, 1023}
	someGens  = []int{0, 1, 2, 3, 1023, 1024, 1025, 1<<22 - 1, 1 << 22, 1<<31 - 1, 1 << 31, 1<<32 + 7, lastGen - 1, lastGen}
	noSlots   = []int{-1, -2, -1024, 1024, 1025, 2048, 1 << 40, math.MinInt, math.MinInt + 1, math.MaxInt}
	noGens    = []int{-1, -2, -1024, 1 << 40, 1<<40 + 1, 1 << 53, 1 << 54, 1 << 55, math.MinInt, math.MinInt + 1, math.MaxInt}
	noRefs    = []int{0, -1, -2, -1023, -1024, -1025, 1<<50 + 1, 1<<50 + 1024, 1 << 51, math.MinInt, math.MinInt + 1, math.MaxInt}
)

func wantPack(t *testing.T, slot, gen, ref int, e api.Errno) {
	t.Helper()
	if got, gotE := Pack(slot, gen); got != ref || gotE != e {
		t.Errorf("Pack(%d, %d) = %d, %d; want %d, %d", slot, gen, got, gotE, ref, e)
	}
}

func wantUnpack(t *testing.T, ref, slot, gen int, e api.Errno) {
	t.Helper()
	if s, g, gotE := Unpack(ref); s != slot || g != gen || gotE != e {
		t.Errorf("Unpack(%d) = %d, %d, %d; want %d, %d, %d", ref, s, g, gotE, slot, gen, e)
	}
}

func wantNext(t *testing.T, ref, next int, e api.Errno) {
	t.Helper()
	if got, gotE := Next(ref); got != next || gotE != e {
		t.Errorf("Next(%d) = %d, %d; want %d, %d", ref, got, gotE, next, e)
	}
}

// P1.1: the numbers are written out, so that no rule of the program's own is held against itself.
func TestPackAndUnpackKnownReferences(t *testing.T) {
	for _, x := range []struct{ slot, gen, ref int }{
		{0, 0, 1},
		{1, 0, 2},
		{1023, 0, 1024},
		{0, 1, 1025},
		{1023, 1, 2048},
		{3, 2, 2052},
		{7, 1000, 1024008},
		{0, lastGen, 1125899906841601},
		{1022, lastGen, 1125899906842623},
		{1023, lastGen, 1125899906842624},
		{1023, lastGen - 1, 1125899906841600},
	} {
		wantPack(t, x.slot, x.gen, x.ref, api.OK)
		wantUnpack(t, x.ref, x.slot, x.gen, api.OK)
	}
}

func TestPackRefusesWhatIsNone(t *testing.T) {
	for _, slot := range noSlots {
		for _, gen := range append(append([]int{}, someGens...), noGens...) {
			wantPack(t, slot, gen, 0, api.ErrArg)
		}
	}
	for _, gen := range noGens {
		for _, slot := range someSlots {
			wantPack(t, slot, gen, 0, api.ErrArg)
		}
	}
}

func TestUnpackRefusesWhatRefersToNothing(t *testing.T) {
	for _, ref := range noRefs {
		wantUnpack(t, ref, 0, 0, api.ErrArg)
	}
}

// P1.2
func TestNextIsOfTheSameSlot(t *testing.T) {
	for _, x := range []struct{ ref, next int }{
		{1, 1025},
		{2, 1026},
		{1024, 2048},
		{1025, 2049},
		{2052, 3076},
		{1125899906840577, 1125899906841601},
		{1125899906841600, 1125899906842624},
	} {
		wantNext(t, x.ref, x.next, api.OK)
	}
	for _, slot := range someSlots {
		for _, gen := range someGens[:len(someGens)-1] {
			next, e := Next(1 + 1024*gen + slot)
			if e != api.OK {
				t.Errorf("slot %d, generation %d: error %d", slot, gen, e)
			}
			wantUnpack(t, next, slot, gen+1, api.OK)
		}
	}
}

func TestNextRefusesTheLastGeneration(t *testing.T) {
	for slot := range lastSlot + 1 {
		wantNext(t, 1125899906841601+slot, 0, api.ErrArg)
	}
}

func TestNextRefusesWhatRefersToNothing(t *testing.T) {
	for _, ref := range noRefs {
		wantNext(t, ref, 0, api.ErrArg)
	}
}

// P1.3
func TestPackedIsUnpacked(t *testing.T) {
	for slot := range lastSlot + 1 {
		for _, gen := range someGens {
			ref, e := Pack(slot, gen)
			if e != api.OK {
				t.Fatalf("Pack(%d, %d): error %d", slot, gen, e)
			}
			wantUnpack(t, ref, slot, gen, api.OK)
		}
	}
}

func TestUnpackedIsPacked(t *testing.T) {
	for _, from := range []int{1, 1 << 20, 1 << 31, 1 << 40, 1<<50 - 3000} {
		for ref := from; ref <= from+3000; ref++ {
			slot, gen, e := Unpack(ref)
			if e != api.OK {
				t.Fatalf("Unpack(%d): error %d", ref, e)
			}
			wantPack(t, slot, gen, ref, api.OK)
		}
	}
}

func TestNoTwoAreTheSameAndNoneIsZero(t *testing.T) {
	seen := map[int][2]int{}
	for slot := range lastSlot + 1 {
		for _, gen := range someGens {
			ref, _ := Pack(slot, gen)
			if ref == 0 {
				t.Errorf("Pack(%d, %d) is 0", slot, gen)
			}
			if other, ok := seen[ref]; ok {
				t.Errorf("%v and %v are both %d", other, [2]int{slot, gen}, ref)
			}
			seen[ref] = [2]int{slot, gen}
		}
	}
}
