/- A graph's own copy: the code's. -/
import Derived.Test.YtiiadkjiofkonaaGreatGEach
import Derived.WalkKit
import Derived.Below
import Derived.Deep.QuietTactic
import Derived.BigQuiet
import Derived.Deep.RegionHeld3
import Derived.Laws.Rows
import Derived.Shelf.Abstract
namespace Go.Proofs.YtiiadkjiofkonaaGreat
open Go.RowKit
set_option linter.unusedVariables false

theorem size58 : (Tryz.prog.info? 61).map (·.size) = some 2 := by kernel_rfl
/-- A block that nothing else writes, two cells of it written. -/
theorem put2 {u : World} {g t : Nat} {a b x y : Value} (h : u.heap[g]? = some (.cells #[a, b] t (0, 0))) : ((u.setCell ⟨g, 0, none⟩ x).setCell ⟨g, 1, none⟩ y).heap[g]? = some (.cells #[x, y] t (0, 0)) := by
  have h1 := heap_setCell_same u g 0 _ t x h
  exact heap_setCell_same _ g 1 _ t y h1

set_option maxRecDepth 100000 in
set_option maxHeartbeats 4000000 in
theorem freshNode_any (z : Int) (h : Sl) (l : List Pr) (w : World) (P : Props w w.heap.size h l) (hn : h.n ≤ 1000) :
    Calls Tryz.prog 104 #[.agg #[.int .i64 z, .slice h.A h.n h.c]] w fun e w' => ∃ h' : Sl, e = .returned (.agg #[.int .i64 z, .slice h'.A h'.n h'.c]) ∧ Hid (w'.ownsRow w.heap.size 83 2 (.slice h'.A h'.n h'.c) h'.n (ints (flat2 l))) ∧ Hid (Below w.heap.size w w') := by
  obtain ⟨A, n, c⟩ := h
  dsimp only at hn ⊢
  have HP := hide P
  clear P
  obtain ⟨W, hW⟩ : ∃ W, Hid ((w.alloc (.cells #[.int .i64 z, .slice A n c] 61)).alloc (.cells #[.int .i64 0, .slice none 0 0] 61) = W) := ⟨_, rfl⟩
  have h1 : Hid (W.heap[w.heap.size]? = some (.cells #[.int .i64 z, .slice A n c] 61 (0, 0))) := by show _ = _; rw [← hW.out]; exact heap_alloc2_old w _ _
  have h2 : Hid (W.heap[w.heap.size + 1]? = some (.cells #[.int .i64 0, .slice none 0 0] 61 (0, 0))) := by show _ = _; rw [← hW.out]; exact heap_alloc2_new w _ _
  have BW : Hid (Below w.heap.size w W) := by show Below _ _ _; rw [← hW.out]; exact boxed2 w _ _
  have HS : Hid (W.heap.size = w.heap.size + 2) := by show _ = _; rw [← hW.out]; simp
  go_enter Tryz.func104, Tryz.ntmps104
  go_wp2
  have hW' := hW.out
  rw [hW']
  clear hW hW'
  have r0 : W.cell? ⟨w.heap.size, 0, none⟩ = some (.int .i64 z) := (cell_of_row W _ 0 _ 61 (0, 0) h1.out).trans rfl
  have r1 : W.cell? ⟨w.heap.size, 1, none⟩ = some (.slice A n c) := (cell_of_row W _ 1 _ 61 (0, 0) h1.out).trans rfl
  have D0 := hide ((Below.refl W.heap.size W).drew)
  have CC := hide (cloneP_any A n c l W.drew (HP.out.1.below BW.out (Nat.le_refl _) |>.more (B' := W.heap.size) BW.out.size |>.step D0.out) HP.out.2 hn)
  go_region_with (first | (go_at_call 75; refine CC.out.mono ?_; rintro e u1 ⟨A2, n2, c2, rfl, hA2, hr, hu⟩; have HU := hide (D0.out.trans hu); have HR := hide hr; have k1 := (HU.out.block _ (Array.getElem?_eq_some_iff.1 h1.out).1).trans h1.out; have k2 := (HU.out.block _ (Array.getElem?_eq_some_iff.1 h2.out).1).trans h2.out; have K2 := hide k2; have s0 : u1.cell? ⟨w.heap.size, 0, none⟩ = some (.int .i64 z) := (cell_of_row _ _ 0 _ 61 (0, 0) k1).trans rfl; have y0 := (cell_of_row _ _ 0 _ 61 (0, 0) k2).trans rfl; have y1 := (cell_of_row _ _ 1 _ 61 (0, 0) k2).trans rfl; have f0 := frozen_of_row _ _ 0 _ 61 k2; have f1 := frozen_of_row _ _ 1 _ 61 k2; clear k1 k2 hr hu))
  all_goals (have HB := hide (BW.out.trans (HU.out.mono BW.out.size)))
  all_goals (have HX := hide (put2 (x := .int .i64 z) (y := .slice A2 n2 c2) K2.out))
  all_goals go_wp2
  all_goals exact bodyPost_ret (results_cell_row rfl _ _ (w.heap.size + 1) 61 _ (0, 0) _ rfl HX.out Tryz.underlying61 rfl size58) rfl ⟨⟨A2, n2, c2⟩, rfl, own_less (own_cell (own_cell HR.out K2.out (by decide) 0 _) (heap_setCell_same _ _ 0 _ 61 _ K2.out) (by decide) 1 _) BW.out.size, (HB.out.setCell (p := ⟨_, 0, none⟩) (by simp) _).setCell (p := ⟨_, 1, none⟩) (by simp) _⟩

end Go.Proofs.YtiiadkjiofkonaaGreat
