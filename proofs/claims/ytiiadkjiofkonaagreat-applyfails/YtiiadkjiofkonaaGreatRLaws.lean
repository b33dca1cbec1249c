/- What an append onto a row leaves: words for the document's loops. No conditions. -/
import Derived.Test.YtiiadkjiofkonaaGreatCSem
import Derived.Test.YtiiadkjiofkonaaGreatGCut
import Derived.Test.YtiiadkjiofkonaaGreatGSet
import Derived.WalkKit
import Derived.Below
import Derived.Deep.QuietTactic
import Derived.BigQuiet
import Derived.Deep.AppendLies
import Derived.Deep.RegionHeld3
import Derived.Deep.DeepCutAuto
import Derived.Shelf.Abstract
namespace Go.Proofs.YtiiadkjiofkonaaGreat
open Go.RowKit
set_option linter.unusedVariables false

section
variable {U w w2 : World} {B e s n c : Nat} {A : Option Addr} {xs : List Value} {o : Obj}
theorem grow_below (R : U.ownsRow B e s (.slice A n c) n xs) (hg : (U.alloc o).grownBy w2 (Value.slice A n c).ownBlock) (BB : Below B w U) (hB : B ≤ U.heap.size) : Below B w w2 :=
  (BB.alloc hB o).grown hg (by simp; omega) fun j ej => (R.lt j ej).1
theorem grow_box {g t : Nat} {cs : Array Value} (R : U.ownsRow B e s (.slice A n c) n xs) (hg : (U.alloc o).grownBy w2 (Value.slice A n c).ownBlock) (hb : U.heap[g]? = some (.cells cs t (0, 0))) (ht : t ≠ e) : w2.heap[g]? = some (.cells cs t (0, 0)) :=
  bx_grown (bx_alloc hb o) (R.alloc o) hg ht
theorem grow_row {B' e' s' m : Nat} {v : Value} {ys : List Value} (R : U.ownsRow B e s (.slice A n c) n xs) (hg : (U.alloc o).grownBy w2 (Value.slice A n c).ownBlock) (r : U.ownsRow B' e' s' v m ys) (ht : e' ≠ e) : w2.ownsRow B' e' s' v m ys :=
  row_grown (r.alloc o) (R.alloc o) hg ht
/-- Two rows have not the same block. -/
def Apt (v v' : Value) : Prop := ∀ j, v.ownBlock = some j → v'.ownBlock ≠ some j
theorem Apt.symm {v v' : Value} (h : Apt v v') : Apt v' v := fun j h1 h2 => h j h2 h1
theorem own_same {X x4 : World} {B' s' m : Nat} {v v0 : Value} {ys : List Value} (r : X.ownsRow B' e s' v m ys) (hg : X.grownBy x4 v0.ownBlock) (h : Apt v0 v) : x4.ownsRow B' e s' v m ys := by
  refine ⟨r.1, ?_⟩
  rcases r.2 with h0 | ⟨k, cap, cur, hv, hB, hk, r2⟩
  · exact .inl h0
  · refine .inr ⟨k, cap, cur, hv, hB, (hg.block k (Array.getElem?_eq_some_iff.1 hk).1 fun e => ?_).trans hk, r2⟩
    exact h k e.symm (by rw [hv]; rfl)
theorem grow_same {B' s' m : Nat} {v : Value} {ys : List Value} (hg : (U.alloc o).grownBy w2 (Value.slice A n c).ownBlock) (r : U.ownsRow B' e s' v m ys) (h : Apt (.slice A n c) v) : w2.ownsRow B' e s' v m ys :=
  own_same (r.alloc o) hg h
theorem own_block_lt {B' s' m : Nat} {v : Value} {ys : List Value} {j : Nat} (r : U.ownsRow B' e s' v m ys) (h : v.ownBlock = some j) : j < U.heap.size := by
  rcases r.2 with ⟨h1, _⟩ | ⟨k, cap, cur, hv, hB, hk, _⟩
  · rw [h1] at h; cases h
  · rw [hv] at h
    simp only [Value.ownBlock, Option.some.injEq] at h
    rw [← h]
    exact (Array.getElem?_eq_some_iff.1 hk).1
theorem apt_new {B' s' m n' c' g H : Nat} {v : Value} {ys : List Value} (r : U.ownsRow B' e s' v m ys) (h : Apt (.slice A n c) v) (hat : (Value.slice A n c).ownBlock = some g ∨ g = H) (hH : U.heap.size ≤ H) : Apt (.slice (some ⟨g, 0, none⟩) n' c') v := by
  intro j h1 h2
  simp only [Value.ownBlock, Option.some.injEq] at h1
  subst h1
  rcases hat with h3 | h3
  · exact h _ h3 h2
  · have := own_block_lt r h2
    omega
theorem apt_none (v : Value) : Apt (.slice none 0 0) v := fun j h => by simp [Value.ownBlock] at h
end
/-- The boxes of a graph's operation, behind an append onto a row of another type. -/
theorem Mid.grow {w U w2 : World} {ga gr g e s n c : Nat} {ca cr cg : Array Value} {A : Option Addr} {xs : List Value} {o : Obj} (m : Mid w U ga gr g ca cr cg) (R : U.ownsRow w.heap.size e s (.slice A n c) n xs) (hg : (U.alloc o).grownBy w2 (Value.slice A n c).ownBlock) (ht : 27 ≠ e) : Mid w w2 ga gr g ca cr cg :=
  ⟨grow_below R hg m.bel m.bel.size, grow_box R hg m.arg ht, grow_box R hg m.res ht, grow_box R hg m.out ht⟩
/-- The box of the graph that is going to be told is written. -/
theorem Mid.put {w u : World} {ga gr g i : Nat} {ca cr cg : Array Value} {x : Value} (m : Mid w u ga gr g ca cr cg) (h1 : ga ≠ g) (h2 : gr ≠ g) (h3 : w.heap.size ≤ g) : Mid w (u.setCell ⟨g, i, none⟩ x) ga gr g ca cr (cg.setIfInBounds i x) :=
  ⟨m.bel.setCell (p := ⟨g, i, none⟩) h3 x, bx_other m.arg h1, bx_other m.res h2, heap_setCell_same u g i _ 27 x m.out⟩

end Go.Proofs.YtiiadkjiofkonaaGreat
