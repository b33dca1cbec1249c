/- Plain mathematics for layer 10: where one stands, what rises. No program, no conditions. -/
import Derived.Test.YtiiadkjiofkonaaGMath
namespace Go.Proofs.Ytiiadkjiofkonaa

/-- Where the one of number x stands; -1 if nowhere. -/
def atf {α : Type} (f : α → Int) (l : List α) (x : Int) : Int := if l.findIdx (fun d => f d == x) < l.length then ((l.findIdx fun d => f d == x : Nat) : Int) else -1
theorem getD_get {α : Type} {l : List α} {d : α} {k : Nat} (hk : k < l.length) : l.getD k d = l[k] := by simp [hk]
theorem idx_here {α : Type} {f : α → Int} {l : List α} {x : Int} {d : α} {k : Nat} (hk : k < l.length) (hall : ∀ j, j < k → f (l.getD j d) ≠ x) (h : f (l.getD k d) = x) : l.findIdx (fun d => f d == x) = k := by
  rw [List.findIdx_eq hk]
  rw [getD_get hk] at h
  refine ⟨by simpa using h, fun j hj => ?_⟩
  have := hall j hj
  rw [getD_get (by omega)] at this
  simpa using this
theorem idx_none {α : Type} {f : α → Int} {l : List α} {x : Int} {d : α} (hall : ∀ j, j < l.length → f (l.getD j d) ≠ x) : ¬ l.findIdx (fun d => f d == x) < l.length := fun h => by
  have h4 := List.findIdx_getElem (xs := l) (p := fun d => f d == x) (w := h)
  have := hall _ h
  rw [getD_get h] at this
  exact this (by simpa using h4)
theorem atf_here {α : Type} {f : α → Int} {l : List α} {x : Int} {d : α} {k : Nat} (hk : k < l.length) (hall : ∀ j, j < k → f (l.getD j d) ≠ x) (h : f (l.getD k d) = x) : atf f l x = k := by
  unfold atf
  rw [idx_here hk hall h, if_pos hk]
theorem atf_none {α : Type} {f : α → Int} {l : List α} {x : Int} {d : α} (hall : ∀ j, j < l.length → f (l.getD j d) ≠ x) : atf f l x = -1 := by
  unfold atf
  rw [if_neg (idx_none hall)]
theorem atI_eq (l : List Nd) (x : Int) : atI l x = atf (fun z : Nd => z.1) l x := rfl
/-- Is x a node? -/
def isN (G : GL) (x : Int) : Bool := decide (0 ≤ atf (fun z : Nd => z.1) G.N x)
/-- The numbers rise. -/
def Rise {α : Type} (f : α → Int) (d : α) (l : List α) : Prop := ∀ i, i + 1 < l.length → f (l.getD i d) < f (l.getD (i + 1) d)

end Go.Proofs.Ytiiadkjiofkonaa
