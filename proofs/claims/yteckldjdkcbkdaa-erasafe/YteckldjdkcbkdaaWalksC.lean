/- Words: the boxes while an era is told anew; what fresh and withPin tell. -/
import Derived.Test.YteckldjdkcbkdaaWalksB
import Derived.Deep.RegionHeld3
namespace Go.Proofs.Yteckldjdkcbkdaa
open Go.RowKit
set_option linter.unusedVariables false

/-- What is kept: all that was there, the era's box and the result's, still empty. -/
structure Two (w u : World) (cs : Array Value) : Prop where
  bel : Below w.heap.size w u
  box : EBox u w.heap.size cs
  res : EBox u (w.heap.size + 1) zeros2
theorem Two.first (w : World) (cs : Array Value) : Two w ((w.alloc (.cells cs 24)).alloc (.cells zeros2 24)) cs :=
  ⟨((Below.refl _ _).alloc (Nat.le_refl _) _).alloc (by simp) _, (EBox.new w cs).alloc _, heap_alloc2_new w _ _⟩
theorem Two.step {w u u' : World} {cs : Array Value} (h : Two w u cs) (hb : Below u.heap.size u u') : Two w u' cs := ⟨next_call h.bel (Nat.le_refl _) hb, h.box.step hb, h.res.step hb⟩
theorem Two.alloc {w u : World} {cs : Array Value} (h : Two w u cs) (o : Obj) : Two w (u.alloc o) cs := ⟨h.bel.alloc h.bel.size _, h.box.alloc _, h.res.alloc _⟩
theorem Two.far {w u : World} {cs : Array Value} (h : Two w u cs) {g : Nat} (hg : w.heap.size + 2 ≤ g) (i : Nat) (x : Value) : Two w (u.setCell ⟨g, i, none⟩ x) cs := ⟨h.bel.setCell (by simp; omega) _, h.box.other (by omega) _, h.res.other (by omega) _⟩
theorem Two.size {w u : World} {cs : Array Value} (h : Two w u cs) : w.heap.size + 2 ≤ u.heap.size := by have := h.res.lt; omega
/-- The result is stored. -/
theorem Two.tell {w u : World} {cs : Array Value} {A : Option Addr} {n c : Nat} {zs : List Int} (h : Two w u cs) (r : Row u (w.heap.size + 2) A n c zs) (t : Int) :
    EBox ((u.setCell ⟨w.heap.size + 1, 0, none⟩ (.int .i64 t)).setCell ⟨w.heap.size + 1, 1, none⟩ (.slice A n c)) (w.heap.size + 1) (C2 t A n c) ∧
    Row ((u.setCell ⟨w.heap.size + 1, 0, none⟩ (.int .i64 t)).setCell ⟨w.heap.size + 1, 1, none⟩ (.slice A n c)) w.heap.size A n c zs ∧
    Below w.heap.size w ((u.setCell ⟨w.heap.size + 1, 0, none⟩ (.int .i64 t)).setCell ⟨w.heap.size + 1, 1, none⟩ (.slice A n c)) :=
  ⟨set2_box h.res _ _, (set2_row r h.res _ _).less (by omega), set2_below h.bel (by omega) _ _⟩
/-- .. as nothing. -/
theorem Two.none {w u : World} {cs : Array Value} (h : Two w u cs) :
    EBox ((u.setCell ⟨w.heap.size + 1, 0, none⟩ (.int .i64 0)).setCell ⟨w.heap.size + 1, 1, none⟩ (.slice none 0 0)) (w.heap.size + 1) (C2 0 none 0 0) ∧
    Row ((u.setCell ⟨w.heap.size + 1, 0, none⟩ (.int .i64 0)).setCell ⟨w.heap.size + 1, 1, none⟩ (.slice none 0 0)) w.heap.size none 0 0 [] ∧
    Below w.heap.size w ((u.setCell ⟨w.heap.size + 1, 0, none⟩ (.int .i64 0)).setCell ⟨w.heap.size + 1, 1, none⟩ (.slice none 0 0)) := h.tell (Row.nil _ _) 0

/-- .. and a third box, of the era that is going to be told. -/
structure St (w u : World) (cs : Array Value) (hb : Nat) (t : Int) (A : Option Addr) (n c : Nat) (zs : List Int) : Prop where
  two : Two w u cs
  box : EBox u hb (C2 t A n c)
  ge : w.heap.size + 2 ≤ hb
  row : Row u (w.heap.size + 2) A n c zs
section
variable {w u u1 : World} {cs : Array Value} {hb n c : Nat} {t : Int} {A : Option Addr} {zs : List Int}
theorem St.behind (h : Two w u cs) (r : Row u1 u.heap.size A n c zs) (b : Below u.heap.size u u1) (t : Int) : St w (u1.alloc (.cells (C2 t A n c) 24)) cs u1.heap.size t A n c zs :=
  ⟨(h.step b).alloc _, EBox.new _ _, (h.step b).size, (r.less h.size).alloc _⟩
theorem box_before {o : Array Value} (b : Below (u.alloc (.cells o 24)).heap.size (u.alloc (.cells o 24)) u1) : EBox u1 u.heap.size o := (EBox.new u o).step b
theorem St.before (h : Two w u cs) (b : Below (u.alloc (.cells zeros2 24)).heap.size (u.alloc (.cells zeros2 24)) u1) (r : Row u1 (u.alloc (.cells zeros2 24)).heap.size A n c zs) (t : Int) :
    St w ((u1.setCell ⟨u.heap.size, 0, none⟩ (.int .i64 t)).setCell ⟨u.heap.size, 1, none⟩ (.slice A n c)) cs u.heap.size t A n c zs := by
  have x := box_before b
  have h1 := (h.alloc (.cells zeros2 24)).step b
  have s := h.size
  exact ⟨(h1.far s _ _).far s _ _, set2_box x _ _, s, (set2_row r x _ _).less (by simp; omega)⟩
theorem St.set {g : Nat} (s : St w u cs hb t (some ⟨g, 0, none⟩) n c zs) (X : Nat) (x : Int) : St w (u.setCell ⟨g, X, none⟩ (.int .i64 x)) cs hb t (some ⟨g, 0, none⟩) n c (zs.set X x) := by
  have hg := own_ge s.row.1
  refine ⟨s.two.far hg.1 _ _, s.box.other (fun e => ?_) _, s.ge, own_set s.row.1 X x, fun h => by cases h⟩
  subst e
  rcases s.row.1.2 with ⟨h1, _⟩ | ⟨g', cap, cur, h1, hb, hg, r⟩
  · cases h1
  · simp only [Value.slice.injEq, Option.some.injEq, Addr.mk.injEq] at h1
    obtain ⟨⟨rfl, _⟩, _⟩ := h1
    have h2 : some (Obj.cells (C2 t (some ⟨g, 0, none⟩) n c) 24 (0, 0)) = some (Obj.cells cur 3 (0, 0)) := s.box.symm.trans hg
    simp at h2
theorem St.ne {g : Nat} (s : St w u cs hb t (some ⟨g, 0, none⟩) n c zs) : g ≠ hb := by
  intro e
  subst e
  rcases s.row.1.2 with ⟨h1, _⟩ | ⟨g', cap, cur, h1, hb, hg, r⟩
  · cases h1
  · simp only [Value.slice.injEq, Option.some.injEq, Addr.mk.injEq] at h1
    obtain ⟨⟨rfl, _⟩, _⟩ := h1
    have h2 : some (Obj.cells (C2 t (some ⟨g, 0, none⟩) n c) 24 (0, 0)) = some (Obj.cells cur 3 (0, 0)) := s.box.symm.trans hg
    simp at h2
theorem St.now (s : St w u cs hb t A n c zs) (t' : Int) : St w (u.setCell ⟨hb, 0, none⟩ (.int .i64 t')) cs hb t' A n c zs :=
  ⟨s.two.far s.ge _ _, s.box.set 0 _, s.ge, s.row.box s.box _ _⟩
end

/-- What is kept while an own copy is made: all that was there, and the box. -/
def Kept (w u : World) (cs : Array Value) : Prop := Below w.heap.size w u ∧ EBox u w.heap.size cs
theorem Kept.step {w u u' : World} {cs : Array Value} (h : Kept w u cs) (hb : Below u.heap.size u u') : Kept w u' cs := ⟨next_call h.1 (Nat.le_refl _) hb, h.2.step hb⟩
theorem kept_set {w u : World} {cs : Array Value} (h : Kept w u cs) (p q : Value) : Kept w ((u.setCell ⟨w.heap.size + 1, 0, none⟩ p).setCell ⟨w.heap.size + 1, 1, none⟩ q) cs :=
  ⟨set2_below h.1 (by omega) p q, (h.2.other (by omega) p).other (by omega) q⟩

set_option maxHeartbeats 1000000 in
theorem fresh_any (t : Int) (A : Option Addr) (n c B : Nat) (zs : List Int) (w : World) (hr : Reads w B A n c zs) (hB : B ≤ w.heap.size) (hn : n ≤ 200) :
    Calls Try.prog 30 #[V2 t A n c] w (Tell1 w t zs) := by
  have HC : Hid (∀ u, Hid (Kept w u (C2 t A n c)) → Calls Try.prog 34 #[.slice A n c] u (Tell u zs)) := fun u hu => clone_any _ _ _ B _ _ (hr.below hu.out.1 hB) (Nat.le_trans hB hu.out.1.size) hn
  have T0 := hide (Two.step (Two.first w (C2 t A n c)) (Below.refl _ _).drew)
  have D0 : Hid (Kept w ((w.alloc (.cells (C2 t A n c) 24)).alloc (.cells zeros2 24)).drew (C2 t A n c)) := ⟨T0.out.bel, T0.out.box⟩
  have hN : Hid (∀ u, Hid (Kept w u (C2 t A n c)) → (u.cell? ⟨w.heap.size, 0, none⟩ = some (.int .i64 t) ∧ u.cell? ⟨w.heap.size, 1, none⟩ = some (.slice A n c) ∧ Hid (Kept w u (C2 t A n c)))) :=
    fun u hu => ⟨hu.out.2.cells 0, hu.out.2.cells 1, hu⟩
  clear hr
  go_enter Try.func30, Try.ntmps30
  go_wp2
  go_region_held3 (fun u => u.cell? ⟨w.heap.size, 0, none⟩ = some (.int .i64 t) ∧ u.cell? ⟨w.heap.size, 1, none⟩ = some (.slice A n c) ∧ Hid (Kept w u (C2 t A n c)))
    (first | exact hN.out _ D0 | exact hN.out _ (by assumption) | exact hN.out _ (hide (kept_set (Hid.out (by assumption)) _ _)))
    (first | (go_at_call 34; refine (HC.out _ ?_).mono ?_; (exact (by assumption)); rintro e u1 ⟨A1, n1, c1, rfl, r1, b1⟩; have K1 := hide (Kept.step (Hid.out (by assumption)) b1); have T1 := hide (T0.out.step b1); obtain ⟨y0, f0, y1, f1⟩ := zero_cells T1.out.res))
  clear y0 f0 y1 f1
  go_wp2
  have HE := T1.out.tell (r1.less T0.out.size) t
  exact bodyPost_ret (results_cell_row rfl _ _ (w.heap.size + 1) 24 _ (0, 0) _ rfl HE.1 Try.underlying24 rfl Try.size24) rfl ⟨A1, n1, c1, rfl, HE.2⟩

set_option maxHeartbeats 1000000 in
theorem withPin_any (t : Int) (A : Option Addr) (n c B X : Nat) (x : Int) (zs : List Int) (w : World) (hr : Reads w B A n c zs) (hB : B ≤ w.heap.size) (hX : X < n) (hn : n ≤ 200) :
    Calls Try.prog 29 #[V2 t A n c, .int .i64 (X : Int), .int .i64 x] w (Tell1 w t (zs.set X x)) := by
  have T0 := hide (Two.first w (C2 t A n c))
  have HL := hide hr.len
  have R0 := hide (hr.below T0.out.bel hB)
  clear hr
  go_enter Try.func29, Try.ntmps29
  go_wp2_with fail
  refine (fresh_any t A n c B zs _ R0.out (Nat.le_trans hB T0.out.bel.size) hn).mono ?_
  rintro e u1 ⟨A1, n1, c1, rfl, r1, b1⟩
  obtain rfl : n1 = n := by have := r1.len; have := HL.out; omega
  obtain ⟨g, rfl⟩ := own_some r1.1 (by omega)
  have S1 := hide (St.behind T0.out r1 b1 t)
  have v1 := own_at r1.1 hX
  have v2 := r1.1.frozenAt X
  have v3 := (own_ge r1.1).2
  have T1 := hide (T0.out.step b1)
  obtain ⟨y0, f0, y1, f1⟩ := zero_cells T1.out.res
  have v4 := T1.out.res.lt
  have v5 : w.heap.size + 1 ≠ u1.heap.size := by omega
  have ne1 := S1.out.ne
  have ne2 : g ≠ w.heap.size + 1 := by have := (own_ge S1.out.row.1).1; omega
  have ne3 : w.heap.size + 1 ≠ g := ne2.symm
  have gg := (own_ge r1.1).1
  have s0 := T0.out.size
  have R2 : Hid (Two w (u1.setCell ⟨g, X, none⟩ (.int .i64 x)) (C2 t A n1 c) ∧ Row (u1.setCell ⟨g, X, none⟩ (.int .i64 x)) (w.heap.size + 2) (some ⟨g, 0, none⟩) n1 c1 (zs.set X x)) :=
    ⟨T1.out.far (by omega) _ _, own_set (own_less r1.1 s0) X x, fun h => by cases h⟩
  clear gg s0
  clear r1 b1
  go_wp2
  have HE := R2.out.1.tell R2.out.2 t
  exact bodyPost_ret (results_cell_row rfl _ _ (w.heap.size + 1) 24 _ (0, 0) _ rfl (HE.1.alloc _) Try.underlying24 rfl Try.size24) rfl ⟨some ⟨g, 0, none⟩, n1, c1, rfl, HE.2.1.alloc _, HE.2.2.alloc HE.2.2.size _⟩
end Go.Proofs.Yteckldjdkcbkdaa
