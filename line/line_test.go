package line

import (
	"math"
	"math/big"
	"slices"
	"testing"

	"tendril/api"
)

// Which of A, B, K and V a kind looks at, as the document has it; no entry: there is no such kind.
var looks = map[int]string{
	1: "",
	2: "AB",
	3: "A",
	4: "AKV",
	5: "AK",
	6: "A",
	7: "A",
	8: "A",
	9: "AB",
}

// What is no kind, those included that would be one if only some bits, or no sign, were looked at.
var noKinds = []int{0, 10, 11, 12, 15, 16, 17, 99, -1, -2, -9, -10, 257, 1 << 16, 1<<16 + 1, 1 << 32, 1<<32 + 1, 1<<32 + 9, 1<<62 + 4, math.MinInt, math.MinInt + 1, math.MinInt + 9, math.MaxInt - 1, math.MaxInt}

// What an operation's A, B, K and V may be.
var someNumbers = [][4]int{
	{2, 3, 4, 5},
	{0, 0, 0, 0},
	{1, -1, 7, -7},
	{-5, 64, 65, 1 << 32},
	{math.MaxInt, math.MinInt, math.MaxInt - 1, math.MinInt + 1},
	{math.MinInt, math.MaxInt, math.MinInt + 1, math.MaxInt - 1},
	{0, 1, 0, 1},
	{1, 0, 1, 0},
}

func opOf(l [5]int) api.Op {
	return api.Op{Kind: l[0], A: l[1], B: l[2], K: l[3], V: l[4]}
}

// What the document says of five numbers: those of the plain operation, and whether there is one.
func meant(l [5]int) ([5]int, bool) {
	seen, ok := looks[l[0]]
	if !ok {
		return [5]int{}, false
	}
	plain := [5]int{l[0]}
	for _, name := range seen {
		at := map[rune]int{'A': 1, 'B': 2, 'K': 3, 'V': 4}[name]
		plain[at] = l[at]
	}
	return plain, true
}

// Every kind, and what is none, with all the numbers above.
func someFives() [][5]int {
	var fives [][5]int
	for _, n := range someNumbers {
		for kind := 1; kind <= 9; kind++ {
			fives = append(fives, [5]int{kind, n[0], n[1], n[2], n[3]})
		}
		for _, kind := range noKinds {
			fives = append(fives, [5]int{kind, n[0], n[1], n[2], n[3]})
		}
	}
	return fives
}

func wantPlain(t *testing.T, o, want api.Op, ok bool) {
	t.Helper()
	if got, is := Plain(o); got != want || is != ok {
		t.Errorf("Plain(%v): got %v, %v, want %v, %v", o, got, is, want, ok)
	}
}

func wantOp(t *testing.T, l []int, want api.Op, ok bool) {
	t.Helper()
	if got, is := Op(l); got != want || is != ok {
		t.Errorf("Op(%v): got %v, %v, want %v, %v", l, got, is, want, ok)
	}
}

func wantOps(t *testing.T, l []int, want ...api.Op) {
	t.Helper()
	if got := Ops(l); !slices.Equal(got, want) {
		t.Errorf("Ops(%v): got %v, want %v", l, got, want)
	}
}

func wantWrite(t *testing.T, o []api.Op, want ...int) {
	t.Helper()
	if got := Write(o...); !slices.Equal(got, want) {
		t.Errorf("Write(%v): got %v, want %v", o, got, want)
	}
}

func wantPicks(t *testing.T, l []int, threads int, want ...int) {
	t.Helper()
	if got := Picks(l, threads); !slices.Equal(got, want) {
		t.Errorf("Picks(%v, %d): got %v, want %v", l, threads, got, want)
	}
}

// P4.1
func TestEachKindLooksAtItsNumbers(t *testing.T) {
	for _, x := range []struct{ in, want api.Op }{
		{api.Op{Kind: api.AddO, A: 2, B: 3, K: 4, V: 5}, api.Op{Kind: 1}},
		{api.Op{Kind: api.LinkO, A: 2, B: 3, K: 4, V: 5}, api.Op{Kind: 2, A: 2, B: 3}},
		{api.Op{Kind: api.CutO, A: 2, B: 3, K: 4, V: 5}, api.Op{Kind: 3, A: 2}},
		{api.Op{Kind: api.SetO, A: 2, B: 3, K: 4, V: 5}, api.Op{Kind: 4, A: 2, K: 4, V: 5}},
		{api.Op{Kind: api.DelO, A: 2, B: 3, K: 4, V: 5}, api.Op{Kind: 5, A: 2, K: 4}},
		{api.Op{Kind: api.GetO, A: 2, B: 3, K: 4, V: 5}, api.Op{Kind: 6, A: 2}},
		{api.Op{Kind: api.NearO, A: 2, B: 3, K: 4, V: 5}, api.Op{Kind: 7, A: 2}},
		{api.Op{Kind: api.DropO, A: 2, B: 3, K: 4, V: 5}, api.Op{Kind: 8, A: 2}},
		{api.Op{Kind: api.FuseO, A: 2, B: 3, K: 4, V: 5}, api.Op{Kind: 9, A: 2, B: 3}},
	} {
		wantPlain(t, x.in, x.want, true)
		wantPlain(t, x.want, x.want, true)
		wantOp(t, []int{x.in.Kind, 2, 3, 4, 5}, x.want, true)
	}
}

// P4.1
func TestNumbersAreWhateverInts(t *testing.T) {
	for _, five := range someFives() {
		plain, ok := meant(five)
		wantPlain(t, opOf(five), opOf(plain), ok)
		wantOp(t, five[:], opOf(plain), ok)
	}
}

// P4.1: each number alone, so that none is taken for another.
func TestOneNumberAlone(t *testing.T) {
	for kind := -1; kind <= 11; kind++ {
		for at := 1; at < 5; at++ {
			for _, n := range []int{1, -1, 9, math.MinInt, math.MaxInt} {
				five := [5]int{kind}
				five[at] = n
				plain, ok := meant(five)
				wantPlain(t, opOf(five), opOf(plain), ok)
				wantOp(t, five[:], opOf(plain), ok)
			}
		}
	}
}

// P4.1
func TestNoKindIsNoOperation(t *testing.T) {
	for _, kind := range noKinds {
		wantPlain(t, api.Op{Kind: kind}, api.Op{}, false)
		wantPlain(t, api.Op{Kind: kind, A: 1, B: 2, K: 3, V: 4}, api.Op{}, false)
		wantOp(t, []int{kind, 1, 2, 3, 4}, api.Op{}, false)
	}
}

// P4.1
func TestAnOperationHasFiveNumbers(t *testing.T) {
	wantOp(t, nil, api.Op{}, false)
	wantOp(t, []int{}, api.Op{}, false)
	long := []int{1, 2, 3, 4, 5, 6, 7, 8, 9, 1, 2, 3, 4, 5, 6}
	for kind := 0; kind <= 10; kind++ {
		long[0] = kind
		for n := range len(long) + 1 {
			if n != 5 {
				wantOp(t, long[:n], api.Op{}, false)
				// Numbers behind the list's end are not of the list.
				wantOp(t, long[:n:n], api.Op{}, false)
			}
		}
	}
	wantOp(t, []int{2, 1, 3, 9, 9}, api.Op{Kind: api.LinkO, A: 1, B: 3}, true)
}

// P4.2
func TestOpsCutsIntoFives(t *testing.T) {
	wantOps(t, []int{2, 1, 3, 9, 9, 7}, api.Op{Kind: api.LinkO, A: 1, B: 3})
	wantOps(t, nil)
	wantOps(t, []int{})
	wantOps(t, []int{1})
	wantOps(t, []int{1, 1, 1, 1})
	wantOps(t, []int{1, 1, 1, 1, 1}, api.Op{Kind: api.AddO})
	wantOps(t, []int{6, 1, 1, 1, 1, 6, 6, 6, 6}, api.Op{Kind: api.GetO, A: 1})
	wantOps(t, []int{6, 1, 1, 1, 1, 6, 6, 6, 6, 6}, api.Op{Kind: api.GetO, A: 1}, api.Op{Kind: api.GetO, A: 6})
}

// P4.2
func TestOpsLeavesOutWhatIsNone(t *testing.T) {
	get, set := api.Op{Kind: api.GetO, A: 3}, api.Op{Kind: api.SetO, A: 1, K: 2, V: 3}
	one, two, none := []int{6, 3, 7, 7, 7}, []int{4, 1, 9, 2, 3}, []int{10, 1, 1, 1, 1}
	wantOps(t, slices.Concat(none, one, two), get, set)
	wantOps(t, slices.Concat(one, none, two), get, set)
	wantOps(t, slices.Concat(one, two, none), get, set)
	wantOps(t, slices.Concat(two, none, none, one), set, get)
	wantOps(t, slices.Concat(none, none, one, none, two, none, one, none), get, set, get)
	wantOps(t, none)
	wantOps(t, slices.Concat(none, none))
	// What is none is five numbers all the same: what follows is not cut otherwise.
	wantOps(t, []int{0, 1, 2, 3, 4, 5, 6, 7, 8, 9}, api.Op{Kind: api.DelO, A: 6, K: 8})
	for _, kind := range noKinds {
		wantOps(t, slices.Concat([]int{kind, 1, 1, 1, 1}, one), get)
	}
}

// P4.2
func TestOpsOfLists(t *testing.T) {
	fives := someFives()
	for n := range len(fives) + 1 {
		var l []int
		var want []api.Op
		for _, five := range fives[:n] {
			l = append(l, five[:]...)
			if plain, ok := meant(five); ok {
				want = append(want, opOf(plain))
			}
		}
		for left := range 5 {
			if got := Ops(append(slices.Clone(l), []int{1, 1, 1, 1}[:left]...)); !slices.Equal(got, want) {
				t.Fatalf("Ops of %d fives, %d left over: got %v, want %v", n, left, got, want)
			}
		}
	}
}

// P4.2: whoever goes through fives may leave.
func TestFivesAreLeft(t *testing.T) {
	l := []int{1, 2, 3, 4, 5, 6, 7, 8, 9, 10, 11}
	var got []int
	for five := range fives(l) {
		got = append(got, five...)
		break
	}
	if !slices.Equal(got, l[:5]) {
		t.Errorf("got %v", got)
	}
}

// P4.2
func TestWrite(t *testing.T) {
	wantWrite(t, nil)
	wantWrite(t, []api.Op{})
	wantWrite(t, []api.Op{{Kind: api.AddO}}, 1, 0, 0, 0, 0)
	wantWrite(t, []api.Op{{Kind: api.LinkO, A: 1, B: 3, K: 9, V: 9}}, 2, 1, 3, 0, 0)
	wantWrite(t, []api.Op{{Kind: api.SetO, A: 1, B: 9, K: 2, V: 3}}, 4, 1, 0, 2, 3)
	wantWrite(t, []api.Op{{}})
	wantWrite(t, []api.Op{{Kind: 10, A: 1}, {Kind: -1}})
	wantWrite(t, []api.Op{{Kind: 12}, {Kind: api.GetO, A: 3, B: 9}, {}, {Kind: api.DelO, A: 5, B: 6, K: 7, V: 8}, {Kind: math.MinInt}},
		6, 3, 0, 0, 0, 5, 5, 0, 7, 0)
}

// P4.2
func TestWriteOfMany(t *testing.T) {
	var ops []api.Op
	var want []int
	for _, five := range someFives() {
		ops = append(ops, opOf(five))
		if plain, ok := meant(five); ok {
			want = append(want, plain[:]...)
		}
		if got := Write(ops...); !slices.Equal(got, want) {
			t.Fatalf("Write of %d: got %v, want %v", len(ops), got, want)
		}
	}
}

// P4.3
func TestPicks(t *testing.T) {
	wantPicks(t, []int{0, 4, -1, 5, -3}, 3, 0, 1, 2, 2, 0)
	wantPicks(t, []int{0, 1, 1, 0, 0, 0}, 2, 0, 1, 1, 0, 0, 0)
	wantPicks(t, []int{0, 5, -5, math.MinInt, math.MaxInt}, 1, 0, 0, 0, 0, 0)
	wantPicks(t, []int{-4, -3, -2, -1, 0, 1, 2, 3, 4}, 4, 0, 1, 2, 3, 0, 1, 2, 3, 0)
	wantPicks(t, []int{65, -65}, 64, 1, 63)
	wantPicks(t, nil, 3)
	wantPicks(t, []int{}, 1)
}

// P4.3
func TestPicksOfNoThreads(t *testing.T) {
	for _, threads := range []int{0, -1, -2, -3, -64, math.MinInt, math.MinInt + 1, -1 << 32} {
		wantPicks(t, nil, threads)
		wantPicks(t, []int{0}, threads)
		wantPicks(t, []int{0, 1, -1, math.MinInt, math.MaxInt}, threads)
	}
}

// P4.3: numbers as great and as small as can be, held against whole numbers without an end.
func TestPicksOfWhateverInts(t *testing.T) {
	l := []int{0, 1, -1, 2, -2, 7, -7, 63, -63, 64, -64, 65, -65, 1 << 32, -1 << 32, 1 << 62, -1 << 62, math.MinInt, math.MinInt + 1, math.MaxInt - 1, math.MaxInt}
	for _, threads := range []int{1, 2, 3, 5, 7, 10, 63, 64, 65, 1 << 32, 1<<32 + 1, 1 << 62, 1<<62 + 1, math.MaxInt - 1, math.MaxInt} {
		var want []int
		for _, n := range l {
			want = append(want, int(new(big.Int).Mod(big.NewInt(int64(n)), big.NewInt(int64(threads))).Int64()))
		}
		wantPicks(t, l, threads, want...)
	}
}

// P4.4
func TestWhatWasWrittenIsRead(t *testing.T) {
	var ops, plain []api.Op
	for _, five := range someFives() {
		o := opOf(five)
		ops = append(ops, o)
		p, ok := Plain(o)
		if !ok {
			wantOps(t, Write(o))
			continue
		}
		plain = append(plain, p)
		wantOps(t, Write(o), p)
		wantOp(t, Write(o), p, true)
		wantWrite(t, Ops(five[:]), Write(o)...)
	}
	if got := Ops(Write(ops...)); !slices.Equal(got, plain) {
		t.Errorf("got %v, want %v", got, plain)
	}
}

// P4.4
func TestEachNumberPicksAThread(t *testing.T) {
	l := []int{math.MinInt, math.MinInt + 1, -1 << 40, -100, -3, -2, -1, 0, 1, 2, 3, 100, 1 << 40, math.MaxInt - 1, math.MaxInt}
	for threads := 1; threads <= 64; threads++ {
		picks := Picks(l, threads)
		if len(picks) != len(l) {
			t.Fatalf("of %d threads: got %d picks, want %d", threads, len(picks), len(l))
		}
		for i, p := range picks {
			if p < 0 || p >= threads {
				t.Errorf("of %d threads: %d picks %d", threads, l[i], p)
			}
		}
		wantPicks(t, picks, threads, picks...)
	}
}

// P4.1 to P4.3: what is handed in is as it was.
func TestNothingHandedInIsChanged(t *testing.T) {
	l := []int{2, 1, 3, 9, 9, 99, 1, 1, 1, 1, 6, -3, 7, 7, 7, 2, 1}
	was := slices.Clone(l)
	Op(l[:5])
	Ops(l)
	Picks(l, 3)
	Picks(l, 0)
	if !slices.Equal(l, was) {
		t.Errorf("got %v, want %v", l, was)
	}
	ops := []api.Op{{Kind: 2, A: 1, B: 3, K: 9, V: 9}, {Kind: 99, A: 1}, {Kind: 6, A: 3, B: 7}}
	had := slices.Clone(ops)
	Write(ops...)
	// What lies behind a list's end is the caller's too.
	Write(ops[:1]...)
	if !slices.Equal(ops, had) {
		t.Errorf("got %v, want %v", ops, had)
	}
}

// P4.2, P4.3: what is told is new.
func TestWhatIsToldIsNew(t *testing.T) {
	l := []int{4, 1, 0, 2, 3, 1, 0, 0, 0, 0}
	ops, picks := Ops(l), Picks(l, 9)
	written := Write(ops...)
	for i := range l {
		l[i] = 77
	}
	want := []api.Op{{Kind: 4, A: 1, K: 2, V: 3}, {Kind: 1}}
	if !slices.Equal(ops, want) {
		t.Errorf("got %v, want %v", ops, want)
	}
	if !slices.Equal(picks, []int{4, 1, 0, 2, 3, 1, 0, 0, 0, 0}) {
		t.Errorf("got %v", picks)
	}
	ops[0], ops[1] = api.Op{Kind: 77}, api.Op{Kind: 77}
	if !slices.Equal(written, []int{4, 1, 0, 2, 3, 1, 0, 0, 0, 0}) {
		t.Errorf("got %v", written)
	}
}

// P4.3: also where every number is its own pick, and with one thread, what is told is not the list itself.
func TestPicksAreNeverTheList(t *testing.T) {
	for _, threads := range []int{1, 2, math.MaxInt} {
		l := []int{0, 0, 0}
		picks := Picks(l, threads)
		picks[0] = 5
		if l[0] != 0 {
			t.Errorf("of %d threads: the list was changed", threads)
		}
		l[1] = 5
		if picks[1] != 0 {
			t.Errorf("of %d threads: the picks were changed", threads)
		}
	}
}

// P4.1 to P4.3: the same again, whatever was asked between.
func TestTheSameAgain(t *testing.T) {
	l := []int{2, 1, 3, 9, 9, 6, 3, 0, 0, 0}
	ops, written, picks := Ops(l), Write(Ops(l)...), Picks(l, 2)
	Ops([]int{1, 0, 0, 0, 0})
	Write(api.Op{Kind: api.AddO})
	Picks([]int{5, 6, 7}, 4)
	wantOps(t, l, ops...)
	wantWrite(t, ops, written...)
	wantPicks(t, l, 2, picks...)
}
