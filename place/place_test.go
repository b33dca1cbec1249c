package place

import (
	"math"
	"slices"
	"testing"

	"tendril/api"
)

// What stands at a word, as the document has it.
type thing struct {
	what, n, field int
}

// Lists the words of a memory one by one, in the document's order, so that what is told is not held against a way of the program's own.
func listed(c api.Cfg) []thing {
	words := []thing{{0, 1, 0}, {0, 2, 0}}
	for id := 1; id <= c.Ids; id++ {
		words = append(words, thing{4, id, 0})
	}
	for id := 1; id <= c.EdgeIds; id++ {
		words = append(words, thing{5, id, 0})
	}
	for slot := 0; slot < c.Nodes; slot++ {
		words = append(words, thing{1, slot, 0}, thing{1, slot, 1}, thing{1, slot, 2}, thing{1, slot, 3})
	}
	for slot := 0; slot < c.Edges; slot++ {
		words = append(words, thing{2, slot, 0}, thing{2, slot, 1}, thing{2, slot, 2}, thing{2, slot, 3}, thing{2, slot, 4})
	}
	for slot := 0; slot < c.Props; slot++ {
		words = append(words, thing{3, slot, 0}, thing{3, slot, 1}, thing{3, slot, 2})
	}
	return words
}

func numbers(c *api.Cfg) [5]*int {
	return [5]*int{&c.Nodes, &c.Edges, &c.Props, &c.Ids, &c.EdgeIds}
}

// Each number at 1 and at 64 with all others so, then each at others alone, then all of them unlike.
func someCfgs() []api.Cfg {
	cfgs := []api.Cfg{
		{Nodes: 2, Edges: 2, Props: 1, Ids: 2, EdgeIds: 1},
		{Nodes: 3, Edges: 5, Props: 7, Ids: 11, EdgeIds: 13},
		{Nodes: 61, Edges: 17, Props: 2, Ids: 31, EdgeIds: 4},
	}
	for bits := range 32 {
		c := api.Cfg{}
		for i, n := range numbers(&c) {
			*n = 1 + 63*(bits>>i&1)
		}
		cfgs = append(cfgs, c)
	}
	for i := range 5 {
		for _, n := range []int{2, 10, 63} {
			c := api.Cfg{Nodes: 6, Edges: 7, Props: 8, Ids: 9, EdgeIds: 10}
			*numbers(&c)[i] = n
			cfgs = append(cfgs, c)
		}
	}
	return cfgs
}

// What is no count of anything, those included that would be one if only some bits were looked at, and those whose words would be few if numbers went round.
var noCounts = []int{0, -1, -2, -63, -64, -65, 65, 66, 128, 1024, 1 << 32, 1<<32 + 1, 1 << 61, 1<<61 + 1, 1 << 62, 1<<62 + 1, math.MinInt, math.MinInt + 1, math.MinInt + 2, math.MaxInt - 1, math.MaxInt}

func noCfgs() []api.Cfg {
	cfgs := []api.Cfg{{}}
	for _, ok := range []api.Cfg{
		{Nodes: 1, Edges: 1, Props: 1, Ids: 1, EdgeIds: 1},
		{Nodes: 2, Edges: 3, Props: 4, Ids: 5, EdgeIds: 6},
		{Nodes: 64, Edges: 64, Props: 64, Ids: 64, EdgeIds: 64},
	} {
		for _, bad := range noCounts {
			for i := range 5 {
				c := ok
				*numbers(&c)[i] = bad
				cfgs = append(cfgs, c)
			}
			cfgs = append(cfgs, api.Cfg{Nodes: bad, Edges: bad, Props: bad, Ids: bad, EdgeIds: bad})
		}
	}
	return cfgs
}

// What lies outside of first to last, near and as far as an int goes; those included that come back in if they are multiplied by a length and go round.
func outside(first, last int) []int {
	out := []int{}
	for _, n := range []int{
		first - 1, first - 2, first - 64, first - 1000, last + 1, last + 2, last + 64, last + 1000,
		1<<32 + first, 1<<61 + first, 1<<62 + first, -1<<61 + first, -1<<62 + first,
		math.MinInt, math.MinInt + 1, math.MinInt + first, math.MaxInt - 1, math.MaxInt,
	} {
		if (n < first || n > last) && !slices.Contains(out, n) {
			out = append(out, n)
		}
	}
	return out
}

func wantNode(t *testing.T, c api.Cfg, id, at int, e api.Errno) {
	t.Helper()
	if got, gotE := Node(c, id); got != at || gotE != e {
		t.Errorf("Node(%v, %d) = %d, %d; want %d, %d", c, id, got, gotE, at, e)
	}
}

func wantEdge(t *testing.T, c api.Cfg, id, at int, e api.Errno) {
	t.Helper()
	if got, gotE := Edge(c, id); got != at || gotE != e {
		t.Errorf("Edge(%v, %d) = %d, %d; want %d, %d", c, id, got, gotE, at, e)
	}
}

func wantField(t *testing.T, c api.Cfg, which, slot, field, at int, e api.Errno) {
	t.Helper()
	if got, gotE := Field(c, which, slot, field); got != at || gotE != e {
		t.Errorf("Field(%v, %d, %d, %d) = %d, %d; want %d, %d", c, which, slot, field, got, gotE, at, e)
	}
}

func wantWhere(t *testing.T, c api.Cfg, at int, x thing, e api.Errno) {
	t.Helper()
	if what, n, field, gotE := Where(c, at); what != x.what || n != x.n || field != x.field || gotE != e {
		t.Errorf("Where(%v, %d) = %d, %d, %d, %d; want %v, %d", c, at, what, n, field, gotE, x, e)
	}
}

// P3.1
func TestCheckLetsInWhatMayBe(t *testing.T) {
	for _, c := range someCfgs() {
		if e := Check(c); e != api.OK {
			t.Errorf("Check(%v) = %d", c, e)
		}
	}
}

func TestCheckRefusesWhatMayNotBe(t *testing.T) {
	for _, c := range noCfgs() {
		if e := Check(c); e != api.ErrArg {
			t.Errorf("Check(%v) = %d", c, e)
		}
	}
}

// The sizes are written out.
func TestSizeOfKnownConfigurations(t *testing.T) {
	for _, x := range []struct {
		c    api.Cfg
		size int
	}{
		{api.Cfg{Nodes: 1, Edges: 1, Props: 1, Ids: 1, EdgeIds: 1}, 16},
		{api.Cfg{Nodes: 2, Edges: 2, Props: 1, Ids: 2, EdgeIds: 1}, 26},
		{api.Cfg{Nodes: 64, Edges: 1, Props: 1, Ids: 1, EdgeIds: 1}, 268},
		{api.Cfg{Nodes: 1, Edges: 64, Props: 1, Ids: 1, EdgeIds: 1}, 331},
		{api.Cfg{Nodes: 1, Edges: 1, Props: 64, Ids: 1, EdgeIds: 1}, 205},
		{api.Cfg{Nodes: 1, Edges: 1, Props: 1, Ids: 64, EdgeIds: 1}, 79},
		{api.Cfg{Nodes: 1, Edges: 1, Props: 1, Ids: 1, EdgeIds: 64}, 79},
		{api.Cfg{Nodes: 64, Edges: 64, Props: 64, Ids: 64, EdgeIds: 64}, 898},
	} {
		if got := Size(x.c); got != x.size {
			t.Errorf("Size(%v) = %d; want %d", x.c, got, x.size)
		}
	}
}

func TestSizeIsHowManyWordsThereAre(t *testing.T) {
	for _, c := range someCfgs() {
		if got, want := Size(c), len(listed(c)); got != want {
			t.Errorf("Size(%v) = %d; want %d", c, got, want)
		}
	}
}

func TestNewIsZeroButTheFirstTwo(t *testing.T) {
	for _, c := range someCfgs() {
		want := make([]int, len(listed(c)))
		want[0], want[1] = 1, 1
		if m, e := New(c); !slices.Equal(m, want) || e != api.OK {
			t.Errorf("New(%v) = %v, %d", c, m, e)
		}
	}
}

func TestNewIsNewEachTime(t *testing.T) {
	for _, c := range someCfgs() {
		a, _ := New(c)
		b, _ := New(c)
		was := slices.Clone(b)
		for i := range a[:cap(a)] {
			a[:cap(a)][i] = 77
		}
		if !slices.Equal(b, was) {
			t.Errorf("New(%v): two memories share words", c)
		}
		if d, _ := New(c); !slices.Equal(d, was) {
			t.Errorf("New(%v): a later memory is another one", c)
		}
	}
}

func TestSizeAndNewRefuseWhatMayNotBe(t *testing.T) {
	for _, c := range noCfgs() {
		if got := Size(c); got != 0 {
			t.Errorf("Size(%v) = %d", c, got)
		}
		if m, e := New(c); len(m) != 0 || e != api.ErrArg {
			t.Errorf("New(%v) = %v, %d", c, m, e)
		}
	}
}

// P3.2 and P3.3: the words are written out, at the first and the last place of each part of the memory.
func TestKnownWords(t *testing.T) {
	small := api.Cfg{Nodes: 1, Edges: 1, Props: 1, Ids: 1, EdgeIds: 1}
	mixed := api.Cfg{Nodes: 3, Edges: 5, Props: 7, Ids: 11, EdgeIds: 13}
	great := api.Cfg{Nodes: 64, Edges: 64, Props: 64, Ids: 64, EdgeIds: 64}
	for _, x := range []struct {
		c  api.Cfg
		at int
		is thing
	}{
		{small, 0, thing{0, 1, 0}}, {small, 1, thing{0, 2, 0}},
		{small, 2, thing{4, 1, 0}}, {small, 3, thing{5, 1, 0}},
		{small, 4, thing{api.NodeR, 0, api.NodeId}}, {small, 7, thing{api.NodeR, 0, api.NodeProp}},
		{small, 8, thing{api.EdgeR, 0, api.EdgeId}}, {small, 12, thing{api.EdgeR, 0, api.EdgeIn}},
		{small, 13, thing{api.PropR, 0, api.PropKey}}, {small, 15, thing{api.PropR, 0, api.PropNext}},

		{mixed, 0, thing{0, 1, 0}}, {mixed, 1, thing{0, 2, 0}},
		{mixed, 2, thing{4, 1, 0}}, {mixed, 12, thing{4, 11, 0}},
		{mixed, 13, thing{5, 1, 0}}, {mixed, 25, thing{5, 13, 0}},
		{mixed, 26, thing{api.NodeR, 0, api.NodeId}}, {mixed, 31, thing{api.NodeR, 1, api.NodeOut}}, {mixed, 37, thing{api.NodeR, 2, api.NodeProp}},
		{mixed, 38, thing{api.EdgeR, 0, api.EdgeId}}, {mixed, 50, thing{api.EdgeR, 2, api.EdgeDst}}, {mixed, 62, thing{api.EdgeR, 4, api.EdgeIn}},
		{mixed, 63, thing{api.PropR, 0, api.PropKey}}, {mixed, 73, thing{api.PropR, 3, api.PropVal}}, {mixed, 83, thing{api.PropR, 6, api.PropNext}},

		{great, 0, thing{0, 1, 0}}, {great, 1, thing{0, 2, 0}},
		{great, 2, thing{4, 1, 0}}, {great, 65, thing{4, 64, 0}},
		{great, 66, thing{5, 1, 0}}, {great, 129, thing{5, 64, 0}},
		{great, 130, thing{api.NodeR, 0, api.NodeId}}, {great, 385, thing{api.NodeR, 63, api.NodeProp}},
		{great, 386, thing{api.EdgeR, 0, api.EdgeId}}, {great, 705, thing{api.EdgeR, 63, api.EdgeIn}},
		{great, 706, thing{api.PropR, 0, api.PropKey}}, {great, 897, thing{api.PropR, 63, api.PropNext}},
	} {
		wantWhere(t, x.c, x.at, x.is, api.OK)
		wantAt(t, x.c, x.is, x.at)
	}
}

// The document's example.
func TestTheFirstNodesRecordBeginsBehindTheDirectory(t *testing.T) {
	for _, c := range someCfgs() {
		c.Ids, c.EdgeIds = 2, 1
		wantField(t, c, api.NodeR, 0, api.NodeId, 5, api.OK)
	}
}

func wantAt(t *testing.T, c api.Cfg, x thing, at int) {
	t.Helper()
	switch x.what {
	case 4:
		wantNode(t, c, x.n, at, api.OK)
	case 5:
		wantEdge(t, c, x.n, at, api.OK)
	case api.NodeR, api.EdgeR, api.PropR:
		wantField(t, c, x.what, x.n, x.field, at, api.OK)
	}
}

// P3.2
func TestEachThingStandsWhereItIsListed(t *testing.T) {
	for _, c := range someCfgs() {
		for at, x := range listed(c) {
			wantAt(t, c, x, at)
		}
	}
}

func TestNodeAndEdgeRefuseWhatIsNoNumber(t *testing.T) {
	for _, c := range someCfgs() {
		for _, id := range outside(1, c.Ids) {
			wantNode(t, c, id, 0, api.ErrArg)
		}
		for _, id := range outside(1, c.EdgeIds) {
			wantEdge(t, c, id, 0, api.ErrArg)
		}
	}
}

// How many slots of each kind there are, and of how many fields.
func kinds(c api.Cfg) []struct{ which, slots, fields int } {
	return []struct{ which, slots, fields int }{{1, c.Nodes, 4}, {2, c.Edges, 5}, {3, c.Props, 3}}
}

// 0, 4 and 5 are what Where tells of what is no record: with a number that such a thing has, too.
func TestFieldRefusesWhatIsNoKind(t *testing.T) {
	for _, c := range someCfgs() {
		for _, which := range outside(1, 3) {
			for _, slot := range []int{-1, 0, 1, 2, 64} {
				for _, field := range []int{-1, 0, 1, 2, 5} {
					wantField(t, c, which, slot, field, 0, api.ErrArg)
				}
			}
		}
	}
}

func TestFieldRefusesWhatIsNoSlot(t *testing.T) {
	for _, c := range someCfgs() {
		for _, k := range kinds(c) {
			for _, slot := range outside(0, k.slots-1) {
				for _, field := range append(outside(0, k.fields-1), 0, 1, k.fields-1) {
					wantField(t, c, k.which, slot, field, 0, api.ErrArg)
				}
			}
		}
	}
}

func TestFieldRefusesWhatIsNoField(t *testing.T) {
	for _, c := range someCfgs() {
		for _, k := range kinds(c) {
			for _, field := range outside(0, k.fields-1) {
				for _, slot := range []int{0, k.slots / 2, k.slots - 1} {
					wantField(t, c, k.which, slot, field, 0, api.ErrArg)
				}
			}
		}
	}
}

func TestNodeEdgeAndFieldRefuseWhatMayNotBe(t *testing.T) {
	for _, c := range noCfgs() {
		for _, n := range []int{0, 1, 2, 64, 65, -1, math.MinInt, math.MaxInt} {
			wantNode(t, c, n, 0, api.ErrArg)
			wantEdge(t, c, n, 0, api.ErrArg)
			for which := 0; which <= 5; which++ {
				for _, field := range []int{-1, 0, 2, 5} {
					wantField(t, c, which, n, field, 0, api.ErrArg)
				}
			}
		}
	}
}

// P3.3
func TestWhereIsWhatIsListed(t *testing.T) {
	for _, c := range someCfgs() {
		for at, x := range listed(c) {
			wantWhere(t, c, at, x, api.OK)
		}
	}
}

func TestWhereRefusesWhatIsNoWord(t *testing.T) {
	for _, c := range someCfgs() {
		for _, at := range outside(0, len(listed(c))-1) {
			wantWhere(t, c, at, thing{}, api.ErrArg)
		}
	}
}

func TestWhereRefusesWhatMayNotBe(t *testing.T) {
	for _, c := range noCfgs() {
		for _, at := range []int{0, 1, 2, 3, 15, 64, 897, 898, -1, math.MinInt, math.MaxInt} {
			wantWhere(t, c, at, thing{}, api.ErrArg)
		}
	}
}

// P3.4: each word is one thing's.
func TestNoTwoWordsAreTheSameThings(t *testing.T) {
	for _, c := range someCfgs() {
		seen := map[thing]int{}
		for at := range Size(c) {
			what, n, field, e := Where(c, at)
			if e != api.OK {
				t.Errorf("Where(%v, %d): error %d", c, at, e)
			}
			x := thing{what, n, field}
			if other, ok := seen[x]; ok {
				t.Errorf("%v: %d and %d are both %v", c, other, at, x)
			}
			seen[x] = at
			wantAt(t, c, x, at)
		}
		for _, x := range listed(c) {
			if _, ok := seen[x]; !ok {
				t.Errorf("%v: %v has no word", c, x)
			}
		}
	}
}

// P3.4: each thing has one word, and the first two are nothing else's.
func TestEachThingHasAWordOfItsOwn(t *testing.T) {
	for _, c := range someCfgs() {
		owners := make([]int, Size(c))
		owners[0], owners[1] = 1, 1
		own := func(x thing, at int, e api.Errno) {
			if e != api.OK || at < 0 || at >= len(owners) {
				t.Fatalf("%v: %v is at %d, error %d", c, x, at, e)
			}
			owners[at]++
			wantWhere(t, c, at, x, api.OK)
		}
		for id := 1; id <= c.Ids; id++ {
			at, e := Node(c, id)
			own(thing{4, id, 0}, at, e)
		}
		for id := 1; id <= c.EdgeIds; id++ {
			at, e := Edge(c, id)
			own(thing{5, id, 0}, at, e)
		}
		for _, k := range kinds(c) {
			for slot := range k.slots {
				for field := range k.fields {
					at, e := Field(c, k.which, slot, field)
					own(thing{k.which, slot, field}, at, e)
				}
			}
		}
		for at, n := range owners {
			if n != 1 {
				t.Errorf("%v: the word %d is of %d things", c, at, n)
			}
		}
	}
}
