/- Edges that are moved from one node to another one: the code's. -/
import Derived.Test.YtiiadkjiofkonaaGreatGEach
import Derived.WalkKit
import Derived.Below
import Derived.Deep.QuietTactic
import Derived.BigQuiet
import Derived.Deep.RegionHeld3
import Derived.Laws.EntriesVeiled
import Derived.Laws.Rows
import Derived.Shelf.Abstract
namespace Go.Proofs.YtiiadkjiofkonaaGreat
open Go.RowKit
set_option linter.unusedVariables false

theorem size80 : (Tryz.prog.info? 79).map (·.size) = some 3 := by kernel_rfl
/-- Where an end is moved to. -/
def mv (b a z : Int) : Int := if z = b then a else z
def mvE (b a : Int) (e : Ed) : Ed := (e.1, mv b a e.2.1, mv b a e.2.2)
theorem set3_below {B : Nat} {w u : World} {g : Nat} (h : Below B w u) (hg : B ≤ g) (a b c : Value) : Below B w (((u.setCell ⟨g, 0, none⟩ a).setCell ⟨g, 1, none⟩ b).setCell ⟨g, 2, none⟩ c) := ((h.setCell (p := ⟨g, 0, none⟩) hg _).setCell (p := ⟨g, 1, none⟩) hg _).setCell (p := ⟨g, 2, none⟩) hg _
theorem put3 {u : World} {g t : Nat} {a b c x y z : Value} (h : u.heap[g]? = some (.cells #[a, b, c] t (0, 0))) : (((u.setCell ⟨g, 0, none⟩ x).setCell ⟨g, 1, none⟩ y).setCell ⟨g, 2, none⟩ z).heap[g]? = some (.cells #[x, y, z] t (0, 0)) := by
  have h1 := heap_setCell_same u g 0 _ t x h
  have h2 := heap_setCell_same _ g 1 _ t y h1
  exact heap_setCell_same _ g 2 _ t z h2

set_option maxRecDepth 100000 in
set_option maxHeartbeats 4000000 in
theorem movedE_any (x y z b a p q : Int) (g gb ga : Nat) (w : World) (hp : Hid (mv b a y = p)) (hq : Hid (mv b a z = q)) (hg : g < w.heap.size) (hgb : gb < w.heap.size) (hga : ga < w.heap.size)
    (hf : w.cell? ⟨g, 0, none⟩ = some (.func (.func 114) #[] #[.pointer (some ⟨gb, 0, none⟩), .pointer (some ⟨ga, 0, none⟩)])) (hb : w.cell? ⟨gb, 0, none⟩ = some (.int .i64 b)) (ha : w.cell? ⟨ga, 0, none⟩ = some (.int .i64 a)) :
    Calls Tryz.prog 116 #[.agg #[.int .i64 x, .int .i64 y, .int .i64 z], .pointer (some ⟨g, 0, none⟩)] w (Drew (.agg #[.int .i64 x, .int .i64 p, .int .i64 q]) w) := by
  obtain ⟨W, hW⟩ : ∃ W, Hid ((w.alloc (.cells #[.int .i64 x, .int .i64 y, .int .i64 z] 79)).alloc (.cells #[.int .i64 0, .int .i64 0, .int .i64 0] 79) = W) := ⟨_, rfl⟩
  have h1 : Hid (W.heap[w.heap.size]? = some (.cells #[.int .i64 x, .int .i64 y, .int .i64 z] 79 (0, 0))) := by show _ = _; rw [← hW.out]; exact heap_alloc2_old w _ _
  have h2 : Hid (W.heap[w.heap.size + 1]? = some (.cells #[.int .i64 0, .int .i64 0, .int .i64 0] 79 (0, 0))) := by show _ = _; rw [← hW.out]; exact heap_alloc2_new w _ _
  have BW : Hid (Below w.heap.size w W) := by show Below _ _ _; rw [← hW.out]; exact boxed2 w _ _
  have kf := (BW.out.cell (p := ⟨g, 0, none⟩) hg).trans hf
  have kb := (BW.out.cell (p := ⟨gb, 0, none⟩) hgb).trans hb
  have ka := (BW.out.cell (p := ⟨ga, 0, none⟩) hga).trans ha
  have n1 : g ≠ w.heap.size := by omega
  clear hf hb ha
  have CY : Hid (∀ u, u.cell? ⟨gb, 0, none⟩ = some (.int .i64 b) → u.cell? ⟨ga, 0, none⟩ = some (.int .i64 a) → Calls Tryz.prog 114 #[.int .i64 y, .pointer (some ⟨gb, 0, none⟩), .pointer (some ⟨ga, 0, none⟩)] u (fun e w' => e = .returned (.int .i64 p) ∧ w' = u)) := fun u k1 k2 => by rw [← hp.out]; exact mv_any y b a gb ga u k1 k2
  have CZ : Hid (∀ u, u.cell? ⟨gb, 0, none⟩ = some (.int .i64 b) → u.cell? ⟨ga, 0, none⟩ = some (.int .i64 a) → Calls Tryz.prog 114 #[.int .i64 z, .pointer (some ⟨gb, 0, none⟩), .pointer (some ⟨ga, 0, none⟩)] u (fun e w' => e = .returned (.int .i64 q) ∧ w' = u)) := fun u k1 k2 => by rw [← hq.out]; exact mv_any z b a gb ga u k1 k2
  go_enter Tryz.func116, Tryz.ntmps116
  go_wp2
  have hW' := hW.out
  rw [hW']
  clear hW hW'
  have r0 : W.cell? ⟨w.heap.size, 0, none⟩ = some (.int .i64 x) := (cell_of_row W _ 0 _ 79 (0, 0) h1.out).trans rfl
  have r1 : W.cell? ⟨w.heap.size, 1, none⟩ = some (.int .i64 y) := (cell_of_row W _ 1 _ 79 (0, 0) h1.out).trans rfl
  have r2 : W.cell? ⟨w.heap.size, 2, none⟩ = some (.int .i64 z) := (cell_of_row W _ 2 _ 79 (0, 0) h1.out).trans rfl
  have y0 := (cell_of_row W _ 0 _ 79 (0, 0) h2.out).trans rfl
  have y1 := (cell_of_row W _ 1 _ 79 (0, 0) h2.out).trans rfl
  have y2 := (cell_of_row W _ 2 _ 79 (0, 0) h2.out).trans rfl
  have f0 := frozen_of_row W _ 0 _ 79 h2.out
  have f1 := frozen_of_row W _ 1 _ 79 h2.out
  have f2 := frozen_of_row W _ 2 _ 79 h2.out
  have lt1 := (Array.getElem?_eq_some_iff.1 h1.out).1
  have RD : Hid (∀ u, Below (w.heap.size + 1) W u → (fun u => u.cell? ⟨w.heap.size, 0, none⟩ = some (.int .i64 x) ∧ u.cell? ⟨w.heap.size, 1, none⟩ = some (.int .i64 y) ∧ u.cell? ⟨w.heap.size, 2, none⟩ = some (.int .i64 z) ∧ u.cell? ⟨g, 0, none⟩ = some (.func (.func 114) #[] #[.pointer (some ⟨gb, 0, none⟩), .pointer (some ⟨ga, 0, none⟩)]) ∧ u.cell? ⟨gb, 0, none⟩ = some (.int .i64 b) ∧ u.cell? ⟨ga, 0, none⟩ = some (.int .i64 a)) u) := fun u hu => ⟨(hu.cell (p := ⟨w.heap.size, _, none⟩) (by simp)).trans r0, (hu.cell (p := ⟨w.heap.size, _, none⟩) (by simp)).trans r1, (hu.cell (p := ⟨w.heap.size, _, none⟩) (by simp)).trans r2, (hu.cell (p := ⟨g, _, none⟩) (by simp; omega)).trans kf, (hu.cell (p := ⟨gb, _, none⟩) (by simp; omega)).trans kb, (hu.cell (p := ⟨ga, _, none⟩) (by simp; omega)).trans ka⟩
  have D0 := hide ((Below.refl (w.heap.size + 1) W).drew)
  go_region_held3 (fun u => u.cell? ⟨w.heap.size, 0, none⟩ = some (.int .i64 x) ∧ u.cell? ⟨w.heap.size, 1, none⟩ = some (.int .i64 y) ∧ u.cell? ⟨w.heap.size, 2, none⟩ = some (.int .i64 z) ∧ u.cell? ⟨g, 0, none⟩ = some (.func (.func 114) #[] #[.pointer (some ⟨gb, 0, none⟩), .pointer (some ⟨ga, 0, none⟩)]) ∧ u.cell? ⟨gb, 0, none⟩ = some (.int .i64 b) ∧ u.cell? ⟨ga, 0, none⟩ = some (.int .i64 a)) (first | exact RD.out _ D0.out | exact RD.out _ (set3_below D0.out (Nat.le_refl _) _ _ _) | assumption)
    (first | (go_at_call 114; refine Calls.mono (CY.out _ ?_ ?_) ?_; (exact kb); (exact ka); rintro e u1 ⟨rfl, rfl⟩) | (go_at_call 114; refine Calls.mono (CZ.out _ ?_ ?_) ?_; (exact kb); (exact ka); rintro e u1 ⟨rfl, rfl⟩))
  have HX := hide (put3 (x := .int .i64 x) (y := .int .i64 p) (z := .int .i64 q) h2.out)
  go_wp2
  exact bodyPost_ret (results_cell_row rfl _ _ (w.heap.size + 1) 79 _ (0, 0) _ rfl HX.out Tryz.underlying79 rfl size80) rfl ⟨rfl, (set3_below BW.out (Nat.le_succ _) _ _ _).drew⟩

set_option maxRecDepth 100000 in
set_option maxHeartbeats 2000000 in
theorem moved_any (A : Option Addr) (n c : Nat) (E : List Ed) (b a : Int) (w : World) (hN : Nums w w.heap.size 3 A n (flat3 E)) (hn : n ≤ 1000) :
    Calls Tryz.prog 101 #[.slice A n c, .int .i64 b, .int .i64 a] w (Told w 79 3 (flat3 (E.map (mvE b a)))) := by
  have HN := hide hN
  clear hN
  have hmf : ∀ (fn : Fn) (first cap : Array Value) (w : World), (Instr.makeFunc fn first cap).run Tryz.prog w = .ok (.func fn first cap) w := fun _ _ _ _ => rfl
  have eg : ∀ args w, (callFunc 116 args).run Tryz.prog w = .ok (.enter 116 args) w := enters_of Tryz.func116 (by kernel_rfl) rfl
  obtain ⟨W, hW⟩ : ∃ W, Hid (((w.alloc (.cells #[.int .i64 b] 3)).alloc (.cells #[.int .i64 a] 3)).alloc (.cells #[.func (.func 114) #[] #[.pointer (some ⟨w.heap.size, 0, none⟩), .pointer (some ⟨w.heap.size + 1, 0, none⟩)]] 125) = W) := ⟨_, rfl⟩
  have BW : Hid (Below w.heap.size w W) := by show Below _ _ _; rw [← hW.out]; exact (boxed2 w _ _).alloc (by simp; omega) _
  have HZ : Hid (W.heap.size = w.heap.size + 3) := by show _ = _; rw [← hW.out]; simp
  have h0 : Hid (W.cell? ⟨w.heap.size, 0, none⟩ = some (.int .i64 b)) := by
    show _ = _
    have h : W.heap[w.heap.size]? = some (.cells #[.int .i64 b] 3 (0, 0)) := by rw [← hW.out, Below.heap_alloc _ _ _ (by simp; omega)]; exact heap_alloc2_old w _ _
    exact (cell_of_row _ _ 0 _ 3 (0, 0) h).trans rfl
  have h1 : Hid (W.cell? ⟨w.heap.size + 1, 0, none⟩ = some (.int .i64 a)) := by
    show _ = _
    have h : W.heap[w.heap.size + 1]? = some (.cells #[.int .i64 a] 3 (0, 0)) := by rw [← hW.out, Below.heap_alloc _ _ _ (by simp)]; exact heap_alloc2_new w _ _
    exact (cell_of_row _ _ 0 _ 3 (0, 0) h).trans rfl
  have h2 : Hid (W.cell? ⟨w.heap.size + 2, 0, none⟩ = some (.func (.func 114) #[] #[.pointer (some ⟨w.heap.size, 0, none⟩), .pointer (some ⟨w.heap.size + 1, 0, none⟩)])) := by
    show _ = _
    have h : W.heap[w.heap.size + 2]? = some (.cells #[.func (.func 114) #[] #[.pointer (some ⟨w.heap.size, 0, none⟩), .pointer (some ⟨w.heap.size + 1, 0, none⟩)]] 125 (0, 0)) := by
      rw [← hW.out]
      have := heap_alloc_new ((w.alloc (.cells #[.int .i64 b] 3)).alloc (.cells #[.int .i64 a] 3)) (.cells #[.func (.func 114) #[] #[.pointer (some ⟨w.heap.size, 0, none⟩), .pointer (some ⟨w.heap.size + 1, 0, none⟩)]] 125)
      simpa using this
    exact (cell_of_row _ _ 0 _ 125 (0, 0) h).trans rfl
  have HC := hide (eachE_any 116 (w.heap.size + 2) (mvE b a) A n c E W ((HN.out.below BW.out (Nat.le_refl _)).more BW.out.size) hn eg (fun u x y z p q r hb hh => by
    have e := hh.out
    simp only [mvE, Prod.mk.injEq] at e
    obtain ⟨e1, e2, e3⟩ := e
    subst e1
    have l0 : w.heap.size + 2 < u.heap.size := by have := hb.size; have := HZ.out; omega
    exact movedE_any x y z b a q r (w.heap.size + 2) w.heap.size (w.heap.size + 1) u e2 e3 l0 (by omega) (by omega) ((hb.cell (p := ⟨_, 0, none⟩) (by have := HZ.out; simp; omega)).trans h2.out) ((hb.cell (p := ⟨_, 0, none⟩) (by have := HZ.out; simp; omega)).trans h0.out) ((hb.cell (p := ⟨_, 0, none⟩) (by have := HZ.out; simp; omega)).trans h1.out)))
  clear eg h0 h1 h2
  go_enter Tryz.func101, Tryz.ntmps101
  go_wp2_with fail
  have hW' := hW.out
  rw [hW']
  clear hW hW'
  refine HC.out.mono ?_
  rintro e u1 ⟨A1, n1, c1, rfl, hA1, hr, hu⟩
  have HB2 := hide (BW.out.trans (hu.mono BW.out.size))
  have HR := hide (own_less hr BW.out.size)
  clear hr hu
  go_wp2
  go_ret
  exact ⟨A1, n1, c1, rfl, hA1, HR.out, HB2.out⟩

end Go.Proofs.YtiiadkjiofkonaaGreat
