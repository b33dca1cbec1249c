/- Plain mathematics for layer 10: where one stands, what rises. No program, no conditions. Words for layer 10's code: rows that grow while a list is gone through. No conditions. -/
import Derived.Test.YtiiadkjiofkonaaGreatAB6
import Derived.Test.YtiiadkjiofkonaaGreatGCp
namespace Go.Proofs.YtiiadkjiofkonaaGreat

/-- Where the one of number x stands; -1 if nowhere. -/
def atf {α : Type} (f : α → Int) (l : List α) (x : Int) : Int := if l.findIdx (fun d => f d == x) < l.length then ((l.findIdx fun d => f d == x : Nat) : Int) else -1
theorem getD_get {α : Type} {l : List α} {d : α} {k : Nat} (hk : k < l.length) : l.getD k d = l[k] := by simp [hk]
theorem idx_here {α : Type} {f : α → Int} {l : List α} {x : Int} {d : α} {k : Nat} (hk : k < l.length) (hall : ∀ j, j < k → f (l.getD j d) ≠ x) (h : f (l.getD k d) = x) : l.findIdx (fun d => f d == x) = k := by
  rw [List.findIdx_eq hk]
  rw [getD_get hk] at h
  refine ⟨by simpa using h, fun j hj => ?_⟩
  have := hall j hj
  rw [getD_get (by omega)] at this
  simpa using this
theorem idx_none {α : Type} {f : α → Int} {l : List α} {x : Int} {d : α} (hall : ∀ j, j < l.length → f (l.getD j d) ≠ x) : ¬ l.findIdx (fun d => f d == x) < l.length := fun h => by
  have h4 := List.findIdx_getElem (xs := l) (p := fun d => f d == x) (w := h)
  have := hall _ h
  rw [getD_get h] at this
  exact this (by simpa using h4)
theorem atf_here {α : Type} {f : α → Int} {l : List α} {x : Int} {d : α} {k : Nat} (hk : k < l.length) (hall : ∀ j, j < k → f (l.getD j d) ≠ x) (h : f (l.getD k d) = x) : atf f l x = k := by
  unfold atf
  rw [idx_here hk hall h, if_pos hk]
theorem atf_none {α : Type} {f : α → Int} {l : List α} {x : Int} {d : α} (hall : ∀ j, j < l.length → f (l.getD j d) ≠ x) : atf f l x = -1 := by
  unfold atf
  rw [if_neg (idx_none hall)]
theorem atI_eq (l : List Nd) (x : Int) : atI l x = atf (fun z : Nd => z.1) l x := rfl
/-- Is x a node? -/
def isN (G : GL) (x : Int) : Bool := decide (0 ≤ atf (fun z : Nd => z.1) G.N x)
/-- The numbers rise. -/
def Rise {α : Type} (f : α → Int) (d : α) (l : List α) : Prop := ∀ i, i + 1 < l.length → f (l.getD i d) < f (l.getD (i + 1) d)

end Go.Proofs.YtiiadkjiofkonaaGreat

namespace Go.Proofs.YtiiadkjiofkonaaGreat
open Go.RowKit
set_option linter.unusedVariables false

theorem cells_new (w : World) (cs : List Value) (t g : Nat) (hg : g = w.heap.size) : ∀ j u, cs[j]? = some u → (w.alloc (.cells cs.toArray t)).cell? ((⟨g, 0, none⟩ : Addr).add j) = some u := by
  intro j u hu
  subst hg
  rw [Addr.add_lit, Nat.zero_add, cell_of_row _ w.heap.size j _ t (0, 0) (heap_alloc_new w _)]
  simpa using hu
/-- What a round's call leaves: the row as it was, and nothing old is written. -/
theorem round_call {w wr u1 : World} {e s n : Nat} {v : Value} {xs : List Value} {o : Obj} (h : wr.ownsRow w.heap.size e s v n xs) (hb : Below w.heap.size w wr) (hu : Below (wr.alloc o).heap.size (wr.alloc o) u1) :
    Hid (u1.ownsRow w.heap.size e s v n xs) ∧ Hid (Below w.heap.size w u1) :=
  ⟨own_below (h.alloc o) hu, (hb.alloc hb.size o).trans (hu.mono (by have := hb.size; simp; omega))⟩
/-- What an append in a round leaves. -/
theorem round_append {w u1 w2 : World} {e s n m : Nat} {v v' : Value} {xs ys : List Value} {o : Obj} (h : u1.ownsRow w.heap.size e s v n xs) (hb : Below w.heap.size w u1)
    (hown : w2.ownsRow w.heap.size e s v' (n + m) ys) (hg : (u1.alloc o).grownBy w2 v.ownBlock) :
    ∃ A c, v' = .slice A (n + m) c ∧ Hid (A = none → c = 0) ∧ Hid (w2.ownsRow w.heap.size e s (.slice A (n + m) c) (n + m) ys) ∧ Hid (Below w.heap.size w w2) := by
  obtain ⟨A, c, rfl, hA⟩ := own_form hown
  exact ⟨A, c, rfl, hA, hown, (hb.alloc hb.size o).grown hg (by have := hb.size; simp; omega) fun j ej => (h.lt j ej).1⟩
theorem two_cells (a b : Int) : ∀ u ∈ [Value.int .i64 a, .int .i64 b], u.oneCell' = true := ints_oneCell .i64 [a, b]
theorem three_cells (a b d : Int) : ∀ u ∈ [Value.int .i64 a, .int .i64 b, .int .i64 d], u.oneCell' = true := ints_oneCell .i64 [a, b, d]
/-- The cells of a box behind a call. -/
theorem box_cells {wr u1 : World} {cs : Array Value} {t : Nat} (hu : Below (wr.alloc (.cells cs t)).heap.size (wr.alloc (.cells cs t)) u1) : (∀ i, u1.cell? ⟨wr.heap.size, i, none⟩ = cs[i]?) ∧ wr.heap.size < u1.heap.size := by
  have h0 := (hu.block wr.heap.size (by simp)).trans (heap_alloc_new wr (.cells cs t))
  exact ⟨fun i => cell_of_row _ _ i _ t (0, 0) h0, (Array.getElem?_eq_some_iff.1 h0).1⟩
theorem getD_take {α : Type} {l : List α} {d : α} {k : Nat} (hk : k < l.length) : l.take (k + 1) = l.take k ++ [l.getD k d] := by
  rw [List.take_add_one, List.getElem?_eq_getElem hk]
  simp [hk]
section
variable {u : World} {B e s m k : Nat} {v : Value}
theorem filt_no {α : Type} {l : List α} {p : α → Bool} {x d : α} {f : List α → List Int} (hk : k < l.length) (hx : l.getD k d = x) (hq : p x = false) (h : u.ownsRow B e s v m (ints (f ((l.take k).filter p)))) : Hid (u.ownsRow B e s v m (ints (f ((l.take (k + 1)).filter p)))) := by
  show World.ownsRow _ _ _ _ _ _ _
  rw [getD_take (d := d) hk, hx, List.filter_append, List.filter_cons, hq]
  simpa using h
theorem filt_yes {α : Type} {l : List α} {p : α → Bool} {x d : α} {f : List α → List Int} {ys : List Int} {xs : List Value} (hf : ∀ a b, f (a ++ b) = f a ++ f b) (hk : k < l.length) (hx : l.getD k d = x) (hq : p x = true) (hy : f [x] = ys) (hys : xs = ints ys) (h : u.ownsRow B e s v m (ints (f ((l.take k).filter p)) ++ xs)) : Hid (u.ownsRow B e s v m (ints (f ((l.take (k + 1)).filter p)))) := by
  show World.ownsRow _ _ _ _ _ _ _
  rw [getD_take (d := d) hk, hx, List.filter_append, List.filter_cons, hq]
  subst hys hy
  simpa [hf] using h
theorem map_more {α β : Type} {l : List α} {g : α → β} {x d : α} {f : List β → List Int} {ys : List Int} {xs : List Value} (hf : ∀ a b, f (a ++ b) = f a ++ f b) (hk : k < l.length) (hx : l.getD k d = x) (hy : f [g x] = ys) (hys : xs = ints ys) (h : u.ownsRow B e s v m (ints (f ((l.take k).map g)) ++ xs)) : Hid (u.ownsRow B e s v m (ints (f ((l.take (k + 1)).map g)))) := by
  show World.ownsRow _ _ _ _ _ _ _
  rw [getD_take (d := d) hk, hx, List.map_append, List.map_cons]
  subst hys hy
  simpa [hf] using h
theorem all_taken {α : Type} {l : List α} {f : List α → List Value} (hk : l.length ≤ k) (h : u.ownsRow B e s v m (f (l.take k))) : u.ownsRow B e s v m (f l) := by
  rwa [List.take_of_length_le hk] at h
end
end Go.Proofs.YtiiadkjiofkonaaGreat
