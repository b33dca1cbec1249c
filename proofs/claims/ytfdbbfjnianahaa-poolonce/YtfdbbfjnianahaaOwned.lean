/- Words: a pool that is the call's own, of four rows apart from one another; how it is made. -/
import Derived.Test.YtfdbbfjnianahaaWalksB
import Derived.Test.YtfdbbfjnianahaaWalksC
import Derived.Laws.Tables
import Derived.Deep.RegionHeld3
namespace Go.Proofs.Ytfdbbfjnianahaa
open Go.RowKit
set_option linter.unusedVariables false

theorem Try.size24 : (Try.prog.info? 24).map (·.size) = some 4 := by kernel_rfl
abbrev zeros4 : Array Value := #[.slice none 0 0, .slice none 0 0, .slice none 0 0, .slice none 0 0]

/-- Two addresses lie in different blocks. -/
def Apart (A B : Option Addr) : Prop := ∀ a b, A = some a → B = some b → a.block ≠ b.block

/-- The pool q is the call's own, from block B on, its rows apart, and reads as P. -/
structure Owns (u : World) (B : Nat) (q : Pl) (P : PL) : Prop where
  g : u.ownsRow B 3 1 (.slice q.A0 q.n0 q.c0) q.n0 (ints P.G)
  s : u.ownsRow B 3 1 (.slice q.A1 q.n1 q.c1) q.n1 (ints P.S)
  t : u.ownsRow B 3 1 (.slice q.A2 q.n2 q.c2) q.n2 (ints P.W)
  f : u.ownsRow B 3 1 (.slice q.A3 q.n3 q.c3) q.n3 (ints P.F)
  zg : q.A0 = none → q.c0 = 0
  zs : q.A1 = none → q.c1 = 0
  zt : q.A2 = none → q.c2 = 0
  zf : q.A3 = none → q.c3 = 0
  gs : Apart q.A0 q.A1
  gt : Apart q.A0 q.A2
  gf : Apart q.A0 q.A3
  st : Apart q.A1 q.A2
  sf : Apart q.A1 q.A3
  tf : Apart q.A2 q.A3

section
variable {u u' : World} {B B' n : Nat} {v : Value} {xs : List Value}
theorem own_less (h : u.ownsRow B 3 1 v n xs) (hB : B' ≤ B) : u.ownsRow B' 3 1 v n xs := by
  refine ⟨h.1, ?_⟩
  rcases h.2 with h0 | ⟨g, cap, cur, h1, hb, r⟩
  · exact .inl h0
  · exact .inr ⟨g, cap, cur, h1, Nat.le_trans hB hb, r⟩
/-- .. and in the midst of nothing else. -/
theorem own_free (h : u.ownsRow B 3 1 v n xs) {k : Nat} (hk : k < B) (i : Nat) (x : Value) : (u.setCell ⟨k, i, none⟩ x).ownsRow B 3 1 v n xs := by
  refine ⟨h.1, ?_⟩
  rcases h.2 with h0 | ⟨g, cap, cur, h1, hb, hg, r⟩
  · exact .inl h0
  · exact .inr ⟨g, cap, cur, h1, hb, (Below.heap_setCell u ⟨k, i, none⟩ x g (by simp; omega)).trans hg, r⟩
theorem own_addr {A : Option Addr} {c : Nat} (h : u.ownsRow B 3 1 (.slice A n c) n xs) : ∀ a, A = some a → B ≤ a.block ∧ a.block < u.heap.size := by
  intro a ha
  subst ha
  rcases h.2 with ⟨h1, _⟩ | ⟨g, cap, cur, h1, hb, hg, r⟩
  · cases h1
  · simp only [Value.slice.injEq, Option.some.injEq] at h1
    obtain ⟨rfl, _, _⟩ := h1
    exact ⟨hb, (Array.getElem?_eq_some_iff.1 hg).1⟩
theorem apart_of {A A' : Option Addr} {c n' c' : Nat} {xs' : List Value} (h : u.ownsRow B 3 1 (.slice A n c) n xs) (h' : u'.ownsRow B' 3 1 (.slice A' n' c') n' xs') (hle : u.heap.size ≤ B') : Apart A A' := by
  intro a b ha hb
  have h1 := own_addr h a ha
  have h2 := own_addr h' b hb
  omega
end

/-- What is kept while a pool's own copy is made: all that was there, and the box. -/
def Kept (w u : World) (cs : Array Value) : Prop := Below w.heap.size w u ∧ PBox u w.heap.size cs
theorem Kept.step {w u u' : World} {cs : Array Value} (h : Kept w u cs) (hb : Below u.heap.size u u') : Kept w u' cs := ⟨next_call h.1 (Nat.le_refl _) hb, h.2.step hb⟩
theorem Kept.first (w : World) (cs : Array Value) (o : Obj) : Kept w ((w.alloc (.cells cs 24)).alloc o).drew cs :=
  ⟨(((Below.refl _ _).alloc (Nat.le_refl _) _).alloc (by simp) _).drew, (PBox.new w cs).alloc o⟩

theorem set4_heap {u : World} {g : Nat} {t : TypeId} (h : u.heap[g]? = some (.cells zeros4 t (0, 0))) (p q r s : Value) :
    ((((u.setCell ⟨g, 0, none⟩ p).setCell ⟨g, 1, none⟩ q).setCell ⟨g, 2, none⟩ r).setCell ⟨g, 3, none⟩ s).heap[g]? = some (.cells #[p, q, r, s] t (0, 0)) := by
  have h1 := heap_setCell_same u g 0 _ t p h
  have h2 := heap_setCell_same _ g 1 _ t q h1
  have h3 := heap_setCell_same _ g 2 _ t r h2
  exact heap_setCell_same _ g 3 _ t s h3
theorem set4_below {B : Nat} {a u : World} {g : Nat} (h : Below B a u) (hg : B ≤ g) (p q r s : Value) :
    Below B a ((((u.setCell ⟨g, 0, none⟩ p).setCell ⟨g, 1, none⟩ q).setCell ⟨g, 2, none⟩ r).setCell ⟨g, 3, none⟩ s) :=
  (((h.setCell (p := ⟨g, 0, none⟩) hg p).setCell (p := ⟨g, 1, none⟩) hg q).setCell (p := ⟨g, 2, none⟩) hg r).setCell (p := ⟨g, 3, none⟩) hg s
theorem set4_own {u : World} {B n k : Nat} {v : Value} {xs : List Value} (h : u.ownsRow B 3 1 v n xs) (hk : k < B) (p q r s : Value) :
    ((((u.setCell ⟨k, 0, none⟩ p).setCell ⟨k, 1, none⟩ q).setCell ⟨k, 2, none⟩ r).setCell ⟨k, 3, none⟩ s).ownsRow B 3 1 v n xs :=
  own_free (own_free (own_free (own_free h hk 0 p) hk 1 q) hk 2 r) hk 3 s
theorem kept_set {w u : World} {cs : Array Value} (h : Kept w u cs) (p q r s : Value) :
    Kept w ((((u.setCell ⟨w.heap.size + 1, 0, none⟩ p).setCell ⟨w.heap.size + 1, 1, none⟩ q).setCell ⟨w.heap.size + 1, 2, none⟩ r).setCell ⟨w.heap.size + 1, 3, none⟩ s) cs :=
  ⟨set4_below h.1 (by omega) p q r s, (((h.2.other (by omega) p).other (by omega) q).other (by omega) r).other (by omega) s⟩
theorem zero_cells {u : World} {g : Nat} (h : u.heap[g]? = some (.cells zeros4 24 (0, 0))) :
    u.cell? ⟨g, 0, none⟩ = some (.slice none 0 0) ∧ u.frozen? ⟨g, 0, none⟩ = false ∧ u.cell? ⟨g, 1, none⟩ = some (.slice none 0 0) ∧ u.frozen? ⟨g, 1, none⟩ = false ∧
    u.cell? ⟨g, 2, none⟩ = some (.slice none 0 0) ∧ u.frozen? ⟨g, 2, none⟩ = false ∧ u.cell? ⟨g, 3, none⟩ = some (.slice none 0 0) ∧ u.frozen? ⟨g, 3, none⟩ = false :=
  ⟨cell_of_row u g 0 _ 24 (0, 0) h, frozen_of_row u g 0 _ 24 h, cell_of_row u g 1 _ 24 (0, 0) h, frozen_of_row u g 1 _ 24 h, cell_of_row u g 2 _ 24 (0, 0) h, frozen_of_row u g 2 _ 24 h, cell_of_row u g 3 _ 24 (0, 0) h, frozen_of_row u g 3 _ 24 h⟩

/-- What a call tells that tells one pool of its own. -/
def TellP (w : World) (P : PL) (e : Ending) (w' : World) : Prop := ∃ q : Pl, e = .returned q.val ∧ Owns w' w.heap.size q P ∧ Below w.heap.size w w'

theorem fresh_end {w u0 uG uS uT uF : World} {P : PL} {A0 A1 A2 A3 : Option Addr} {n0 n1 n2 n3 c0 c1 c2 c3 : Nat} (h0 : u0.heap.size = w.heap.size + 2) (hz : u0.heap[w.heap.size + 1]? = some (.cells zeros4 24 (0, 0)))
    (oG : uG.ownsRow u0.heap.size 3 1 (.slice A0 n0 c0) n0 (ints P.G)) (bG : Below u0.heap.size u0 uG) (zG : A0 = none → c0 = 0)
    (oS : uS.ownsRow uG.heap.size 3 1 (.slice A1 n1 c1) n1 (ints P.S)) (bS : Below uG.heap.size uG uS) (zS : A1 = none → c1 = 0)
    (oT : uT.ownsRow uS.heap.size 3 1 (.slice A2 n2 c2) n2 (ints P.W)) (bT : Below uS.heap.size uS uT) (zT : A2 = none → c2 = 0)
    (oF : uF.ownsRow uT.heap.size 3 1 (.slice A3 n3 c3) n3 (ints P.F)) (bF : Below uT.heap.size uT uF) (zF : A3 = none → c3 = 0) (p q r s : Value) :
    Owns ((((uF.setCell ⟨w.heap.size + 1, 0, none⟩ p).setCell ⟨w.heap.size + 1, 1, none⟩ q).setCell ⟨w.heap.size + 1, 2, none⟩ r).setCell ⟨w.heap.size + 1, 3, none⟩ s) w.heap.size ⟨A0, A1, A2, A3, n0, n1, n2, n3, c0, c1, c2, c3⟩ P ∧
    uF.heap[w.heap.size + 1]? = some (.cells zeros4 24 (0, 0)) := by
  have s1 := bG.size
  have s2 := bS.size
  have s3 := bT.size
  have s4 := bF.size
  constructor
  · refine ⟨?_, ?_, ?_, ?_, zG, zS, zT, zF, apart_of oG oS (Nat.le_refl _), apart_of oG oT s2, apart_of oG oF (by omega), apart_of oS oT (Nat.le_refl _), apart_of oS oF s3, apart_of oT oF (Nat.le_refl _)⟩
    · exact own_less (set4_own (own_below (own_below (own_below oG bS) bT) bF) (by omega) p q r s) (by omega)
    · exact own_less (set4_own (own_below (own_below oS bT) bF) (by omega) p q r s) (by omega)
    · exact own_less (set4_own (own_below oT bF) (by omega) p q r s) (by omega)
    · exact own_less (set4_own oF (by omega) p q r s) (by omega)
  · rw [bF.block _ (by omega), bT.block _ (by omega), bS.block _ (by omega), bG.block _ (by omega)]
    exact hz

theorem zero_of {w uG uS uT uF : World} {cs : Array Value} (bG : Below ((w.alloc (.cells cs 24)).alloc (.cells zeros4 24)).drew.heap.size ((w.alloc (.cells cs 24)).alloc (.cells zeros4 24)).drew uG) (bS : Below uG.heap.size uG uS) (bT : Below uS.heap.size uS uT) (bF : Below uT.heap.size uT uF) :
    uF.heap[w.heap.size + 1]? = some (.cells zeros4 24 (0, 0)) := by
  have s0 : ((w.alloc (.cells cs 24)).alloc (.cells zeros4 24)).drew.heap.size = w.heap.size + 2 := by show ((w.alloc _).alloc _).heap.size = _; simp
  have s1 := bG.size
  have s2 := bS.size
  have s3 := bT.size
  rw [bF.block _ (by omega), bT.block _ (by omega), bS.block _ (by omega), bG.block _ (by omega)]
  exact heap_alloc2_new w _ _

end Go.Proofs.Ytfdbbfjnianahaa
