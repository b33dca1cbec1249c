/- Words for PoolDoes: several boxes at once; rows of whatever numbers that are written. -/
import Derived.Test.YtfdbbfjnianahaaLaw
import Derived.Test.YtfdbbfjnianahaaWalksY
import Derived.Test.YtfdbbfjnianahaaWalksW
namespace Go.Proofs.Ytfdbbfjnianahaa
open Go.RowKit
set_option linter.unusedVariables false

theorem few_take {P : PL} {b : Bool} (hf : Few P) : Few (takeQ b P) := by
  obtain ⟨h1, h2, h3, h4⟩ := hf
  unfold takeQ
  split
  · rename_i x xs hF
    rw [hF] at h4
    exact ⟨h1, by simpa using h2, h3, by simp at h4 ⊢; omega⟩
  · simp [Few, noP]
theorem few_ret {P : PL} {b : Bool} (hf : Few P) (r z : Int) : Few (retQ b P r z) := by
  obtain ⟨h1, h2, h3, h4⟩ := hf
  unfold retQ
  split
  · exact ⟨h1, by simpa using h2, by simpa using h3, h4⟩
  · simp [Few, noP]
theorem few_rec {P : PL} {b : Bool} (hb : b = true ↔ MayBe P) (upto : Int) : Few (recQ b P upto) := by
  cases b with
  | true => exact few_may (may_reclaim (hb.1 rfl) upto)
  | false => simp [Few, noP, recQ]

/-- A told pool in a box, from block B on. -/
structure Bx (v u : World) (h : Nat) (q : Pl) (Q : PL) : Prop where
  box : PBox u h q.cs
  told : Told4 u v.heap.size q Q
  small : Small q
theorem Bx.step {v u u' : World} {h : Nat} {q : Pl} {Q : PL} (x : Bx v u h q Q) (hb : Below u.heap.size u u') : Bx v u' h q Q := ⟨x.box.step hb, x.told.below hb, x.small⟩
theorem Bx.first {v u u1 : World} {q : Pl} {Q : PL} (hv : Below v.heap.size v u1) (ht : Told4 u u1.heap.size q Q) (hf : Few Q) : Bx v (u.alloc (.cells q.cs 24)) u.heap.size q Q :=
  ⟨PBox.new u _, (ht.less hv.size).below ((Below.refl _ _).alloc (Nat.le_refl _) _), ht.small hf⟩

/-- Rows of numbers that may be written. -/
def IRow (u : World) (B : Nat) (A : Option Addr) (n : Nat) : Prop :=
  0 < n → ∃ g off cs, A = some ⟨g, off, none⟩ ∧ B ≤ g ∧ u.heap[g]? = some (.cells cs 3 (0, 0)) ∧ ∀ i, i < n → ∃ z, cs[off + i]? = some (.int .i64 z)
theorem Row.irow {u : World} {B n : Nat} {A : Option Addr} {zs : List Int} (h : Row u B A n zs) : IRow u B A n := fun hn => by
  obtain ⟨g, off, cs, e, hB, hg, hc⟩ := h.2 hn
  exact ⟨g, off, cs, e, hB, hg, fun i hi => ⟨_, hc i hi⟩⟩
theorem IRow.below {u u' : World} {B n : Nat} {A : Option Addr} (h : IRow u B A n) (hb : Below u.heap.size u u') : IRow u' B A n := fun hn => by
  obtain ⟨g, off, cs, e, hB, hg, hc⟩ := h hn
  exact ⟨g, off, cs, e, hB, (hb.block g (Array.getElem?_eq_some_iff.1 hg).1).trans hg, hc⟩
theorem IRow.set {u : World} {B n : Nat} {A : Option Addr} (h : IRow u B A n) (g' k : Nat) (z : Int) : IRow (u.setCell ⟨g', k, none⟩ (.int .i64 z)) B A n := fun hn => by
  obtain ⟨g, off, cs, e, hB, hg, hc⟩ := h hn
  by_cases hgg : g' = g
  · subst hgg
    refine ⟨g', off, cs.setIfInBounds k (.int .i64 z), e, hB, heap_setCell_same u g' k cs 3 _ hg, fun i hi => ?_⟩
    obtain ⟨x, hx⟩ := hc i hi
    by_cases hk : k = off + i
    · subst hk
      have := (Array.getElem?_eq_some_iff.1 hx).1
      exact ⟨z, by simp [this]⟩
    · exact ⟨x, by rw [Array.getElem?_setIfInBounds, if_neg hk]; exact hx⟩
  · exact ⟨g, off, cs, e, hB, (Below.heap_setCell u ⟨g', k, none⟩ _ g (by simpa using Ne.symm hgg)).trans hg, hc⟩
/-- One cell of it. -/
theorem IRow.at_ {u : World} {B n k : Nat} {A : Option Addr} (h : IRow u B A n) (hk : k < n) : ∃ g off z cs, A = some ⟨g, off, none⟩ ∧ B ≤ g ∧ g < u.heap.size ∧ u.cell? ⟨g, off + k, none⟩ = some (.int .i64 z) ∧ u.frozen? ⟨g, off + k, none⟩ = false ∧ u.heap[g]? = some (.cells cs 3 (0, 0)) := by
  obtain ⟨g, off, cs, e, hB, hg, hc⟩ := h (by omega)
  obtain ⟨z, hz⟩ := hc k hk
  exact ⟨g, off, z, cs, e, hB, (Array.getElem?_eq_some_iff.1 hg).1, (cell_of_row u g (off + k) cs 3 (0, 0) hg).trans hz, frozen_of_row u g (off + k) cs 3 hg, hg⟩

/-- What stands while the told pools are written. -/
structure Lp (v u : World) (m : Nat) (cs : Array Value) (X : Pl → Prop) : Prop where
  bel : Below v.heap.size v u
  arr : PBox u m cs
  wrt : ∀ q, X q → IRow u v.heap.size q.A1 q.n1 ∧ IRow u v.heap.size q.A3 q.n3 ∧ Small q

theorem Lp.alloc {v u : World} {m : Nat} {cs : Array Value} {X : Pl → Prop} (h : Lp v u m cs X) (o : Obj) : Lp v (u.alloc o) m cs X :=
  ⟨h.bel.alloc h.bel.size _, h.arr.alloc _, fun q hq => ⟨(h.wrt q hq).1.below ((Below.refl _ _).alloc (Nat.le_refl _) _), (h.wrt q hq).2.1.below ((Below.refl _ _).alloc (Nat.le_refl _) _), (h.wrt q hq).2.2⟩⟩
theorem box_not {u : World} {g g' : Nat} {cs cs' : Array Value} (h : PBox u g cs) (h' : u.heap[g']? = some (.cells cs' 3 (0, 0))) : g' ≠ g := by
  intro e
  subst e
  have h2 : some (Obj.cells cs 24 (0, 0)) = some (Obj.cells cs' 3 (0, 0)) := h.symm.trans h'
  simp at h2
theorem Lp.set {v u : World} {m g k : Nat} {cs cs' : Array Value} {X : Pl → Prop} (h : Lp v u m cs X) (hB : v.heap.size ≤ g) (hg : u.heap[g]? = some (.cells cs' 3 (0, 0))) (z : Int) : Lp v (u.setCell ⟨g, k, none⟩ (.int .i64 z)) m cs X :=
  ⟨h.bel.setCell hB _, h.arr.other (box_not h.arr hg) _, fun q hq => ⟨(h.wrt q hq).1.set _ _ _, (h.wrt q hq).2.1.set _ _ _, (h.wrt q hq).2.2⟩⟩

/-- The three pools, one behind the other. -/
abbrev cs12 (a c i : Pl) : Array Value := #[.slice a.A0 a.n0 a.c0, .slice a.A1 a.n1 a.c1, .slice a.A2 a.n2 a.c2, .slice a.A3 a.n3 a.c3, .slice c.A0 c.n0 c.c0, .slice c.A1 c.n1 c.c1, .slice c.A2 c.n2 c.c2, .slice c.A3 c.n3 c.c3, .slice i.A0 i.n0 i.c0, .slice i.A1 i.n1 i.c1, .slice i.A2 i.n2 i.c2, .slice i.A3 i.n3 i.c3]
theorem arr_at {u : World} {m k : Nat} {a c i : Pl} (h : PBox u m (cs12 a c i)) (hk : k < 3) : ∃ q : Pl, (q = a ∨ q = c ∨ q = i) ∧ u.cell? ⟨m, k * 4, none⟩ = some (.slice q.A0 q.n0 q.c0) ∧ u.cell? ⟨m, k * 4 + 1, none⟩ = some (.slice q.A1 q.n1 q.c1) ∧ u.cell? ⟨m, k * 4 + 2, none⟩ = some (.slice q.A2 q.n2 q.c2) ∧ u.cell? ⟨m, k * 4 + 3, none⟩ = some (.slice q.A3 q.n3 q.c3) := by
  match k, hk with
  | 0, _ => exact ⟨a, .inl rfl, h.cells 0, h.cells 1, h.cells 2, h.cells 3⟩
  | 1, _ => exact ⟨c, .inr (.inl rfl), h.cells 4, h.cells 5, h.cells 6, h.cells 7⟩
  | 2, _ => exact ⟨i, .inr (.inr rfl), h.cells 8, h.cells 9, h.cells 10, h.cells 11⟩

end Go.Proofs.Ytfdbbfjnianahaa
