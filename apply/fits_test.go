package apply

import (
	"testing"

	"tendril/api"
	"tendril/graph"
	"tendril/sample"
)

func wantTakes(t *testing.T, g api.Graph, o api.Op, want int) {
	t.Helper()
	if k := Takes(mixedCfg(), g, o); k != want {
		t.Errorf("Takes %v of %v is %d; want %d", o, g, k, want)
	}
}

// P11.2: a node of AddO, an edge of LinkO, a property of SetO where the key is new; another node's key is new, too.
func TestTakes(t *testing.T) {
	for _, x := range []struct {
		o    api.Op
		want int
	}{
		{api.Op{Kind: api.AddO}, 1},
		{api.Op{Kind: api.LinkO, A: 1, B: 2}, 2}, {api.Op{Kind: api.LinkO, A: 4, B: 4}, 2},
		{api.Op{Kind: api.SetO, A: 2}, 3}, {api.Op{Kind: api.SetO, A: 2, K: 9, V: 7}, 3}, {api.Op{Kind: api.SetO, A: 1, K: 5}, 3}, {api.Op{Kind: api.SetO, A: 1, K: least}, 3},
		{api.Op{Kind: api.SetO, A: 4, K: 0}, 3}, {api.Op{Kind: api.SetO, A: 4, K: greatest}, 3}, {api.Op{Kind: api.SetO, A: 4, K: least + 1}, 3},
		{api.Op{Kind: api.SetO, A: 1, K: -3}, 0}, {api.Op{Kind: api.SetO, A: 1}, 0}, {api.Op{Kind: api.SetO, A: 1, K: 9, V: 8}, 0}, {api.Op{Kind: api.SetO, A: 4, K: least, V: 1}, 0}, {api.Op{Kind: api.SetO, A: 4, K: 9, V: 7}, 0},
		{api.Op{Kind: api.CutO, A: 1}, 0}, {api.Op{Kind: api.DelO, A: 1, K: 9}, 0}, {api.Op{Kind: api.GetO, A: 1}, 0}, {api.Op{Kind: api.NearO, A: 1}, 0},
		{api.Op{Kind: api.DropO, A: 1}, 0}, {api.Op{Kind: api.FuseO, A: 1, B: 4}, 0}, {api.Op{Kind: api.FuseO, A: 2, B: 1}, 0},
	} {
		wantTakes(t, mixed(), x.o, x.want)
	}
	wantTakes(t, graph.New(), api.Op{Kind: api.AddO}, 1)
	wantTakes(t, usedUp(), api.Op{Kind: api.SetO, A: 2, K: 1}, 3)
}

// P11.2: how many records are free is not asked.
func TestTakesWhenAllAreInUse(t *testing.T) {
	c := api.Cfg{Nodes: 1, Edges: 1, Props: 1, Ids: 9, EdgeIds: 9}
	g := api.Graph{Nodes: []api.Node{sample.Node(1, 7, 7)}, Edges: sample.Edges(1, 1, 1), NextNode: 2, NextEdge: 2}
	for o, want := range map[api.Op]int{{Kind: api.AddO}: 1, {Kind: api.LinkO, A: 1, B: 1}: 2, {Kind: api.SetO, A: 1, K: 8}: 3, {Kind: api.SetO, A: 1, K: 7}: 0} {
		if k := Takes(c, g, o); k != want {
			t.Errorf("Takes %v is %d; want %d", o, k, want)
		}
	}
}

// P11.2
func TestTakesOfWhatFails(t *testing.T) {
	for _, x := range failures() {
		wantTakes(t, x.g, x.o, 0)
	}
}

func wantFits(t *testing.T, g api.Graph, o api.Op, r api.Result, want api.Graph, fits bool) {
	t.Helper()
	h, ok := Fits(mixedCfg(), g, o, r)
	if ok != fits {
		t.Errorf("Fits %v with %v is %v; want %v", o, r, ok, fits)
	}
	wantGraph(t, text("Fits ", o, " with ", r), h, want)
}

// P11.3: the graph behind it with Do's own result, the one ahead of it with any that differs in one thing.
func TestFits(t *testing.T) {
	for _, x := range deeds() {
		wantFits(t, mixed(), x.o, x.r, with(mixed(), x.does), true)
		for _, r := range sample.Others(x.r) {
			wantFits(t, mixed(), x.o, r, mixed(), false)
		}
	}
}

// P11.3: an error that was told fits, too, and leaves the graph; no other one does.
func TestFitsWithAnError(t *testing.T) {
	for _, x := range failures() {
		wantFits(t, x.g, x.o, api.Result{Err: x.e}, x.g, true)
		wantFits(t, x.g, x.o, api.Result{}, x.g, false)
		wantFits(t, x.g, x.o, api.Result{Err: x.e, Id: 1}, x.g, false)
		wantFits(t, x.g, x.o, api.Result{Err: x.e + 1}, x.g, false)
	}
	for _, kind := range noKinds {
		o := api.Op{Kind: kind, A: 1, B: 2}
		wantFits(t, mixed(), o, api.Result{Err: api.ErrArg}, mixed(), true)
		wantFits(t, mixed(), o, api.Result{Err: api.ErrNone}, mixed(), false)
		wantFits(t, mixed(), o, api.Result{Err: api.ErrFull}, mixed(), false)
		wantFits(t, mixed(), o, api.Result{}, mixed(), false)
	}
}

// P11.3: that it is full fits just where a record is taken, and leaves the graph.
func TestFitsOfFull(t *testing.T) {
	for _, x := range deeds() {
		fits := taken(mixed(), with(mixed(), x.does)) != 0
		wantFits(t, mixed(), x.o, api.Result{Err: api.ErrFull}, mixed(), fits)
		wantFits(t, mixed(), x.o, api.Result{Err: api.ErrFull, Pairs: []api.Pair{}, Out: []api.End{}, In: []api.End{}}, mixed(), fits)
		for _, r := range sample.Others(api.Result{Err: api.ErrFull}) {
			if text(r) != text(x.r) {
				wantFits(t, mixed(), x.o, r, mixed(), false)
			}
		}
	}
	for _, o := range []api.Op{{Kind: api.SetO, A: 1, K: 1}, {Kind: api.SetO, A: 2, K: 9}, {Kind: api.SetO, A: 4, K: 0, V: 5}} {
		wantFits(t, mixed(), o, api.Result{Err: api.ErrFull}, mixed(), true)
		wantFits(t, mixed(), o, api.Result{Err: api.ErrFull, Id: 1}, mixed(), false)
	}
	for _, x := range failures() {
		wantFits(t, x.g, x.o, api.Result{Err: api.ErrFull}, x.g, false)
	}
}

// R3: a result whose lists are empty is one whose lists are nil.
func TestFitsOfListsWithoutElements(t *testing.T) {
	for _, x := range deeds() {
		wantFits(t, mixed(), x.o, sample.Emptied(x.r), with(mixed(), x.does), true)
	}
}
