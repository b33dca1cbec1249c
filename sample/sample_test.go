package sample

import (
	"fmt"
	"testing"

	"tendril/api"
)

// None of the others reads as the result does, and the result stays, whatever is written into them.
func TestOthers(t *testing.T) {
	for _, r := range []api.Result{{}, {Id: 1}, {Pairs: Pairs(1, 2)}, {Out: Ends(1, 2, 1, 2)}, {In: Ends(1, 2)}, Result()} {
		was := fmt.Sprint(r)
		for _, x := range Others(Roomy(r)) {
			if fmt.Sprint(x) == was {
				t.Errorf("one of the others of %s is the same", was)
			}
		}
		for _, x := range Others(r) {
			SpoilResult(x)
		}
		if fmt.Sprint(r) != was {
			t.Errorf("behind a write into the others of %s it is %v", was, r)
		}
	}
}

// Each number of a result, and each length, is another one in some of the others.
func TestOthersOfAll(t *testing.T) {
	for i := range numbers(&api.Result{Pairs: Pairs(0, 0), Out: Ends(0, 0), In: Ends(0, 0)}) {
		found := false
		for _, x := range Others(api.Result{Pairs: Pairs(0, 0), Out: Ends(0, 0), In: Ends(0, 0)}) {
			l := numbers(&x)
			found = found || i < len(l) && *l[i] == 1
		}
		if !found {
			t.Errorf("the number %d is 0 in all others", i)
		}
	}
	if n := len(Others(api.Result{})); n != 4*2+3 {
		t.Errorf("a result that is zero has %d others", n)
	}
}

// A write into the room behind a list, and into a copy, is seen where it should be.
func TestRoom(t *testing.T) {
	r := Roomy(Result())
	if fmt.Sprint(r) != fmt.Sprint(Result()) || cap(r.Pairs) < 5 || cap(r.Out) < 5 || cap(r.In) < 5 {
		t.Errorf("with room it is %v", r)
	}
	copied, emptied := Copied(r), Emptied(r)
	SpoilResult(r)
	if r.Pairs[:5][4].K != -88 || r.Out[:5][4].Edge != -88 || r.In[:5][4].Node != -88 || r.Pairs[0].K != -88 {
		t.Errorf("spoilt it is %v", r)
	}
	if fmt.Sprint(copied) != fmt.Sprint(Result()) || fmt.Sprint(emptied) != fmt.Sprint(Result()) {
		t.Errorf("the copies are %v, %v", copied, emptied)
	}
	if x := Emptied(Copied(api.Result{})); x.Pairs == nil || x.Out == nil || x.In == nil {
		t.Errorf("lists of %v are nil", x)
	}
}
