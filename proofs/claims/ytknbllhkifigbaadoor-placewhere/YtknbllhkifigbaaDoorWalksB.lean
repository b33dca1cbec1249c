/- What layer 3's own functions answer where the configuration may be, and where it may not: size, where a thing stands, what stands at a word. -/
import Derived.Test.YtknbllhkifigbaaDoorWalksA
namespace Go.Proofs.YtknbllhkifigbaaDoor
open Go.RowKit
set_option linter.unusedVariables false

/-- Behind a call that only makes memory each old cell holds what it held, and may be written as before. -/
theorem old_cells {u u' : World} (h : Below u.heap.size u u') : ∀ g k, g < u.heap.size → u'.cell? ⟨g, k, none⟩ = u.cell? ⟨g, k, none⟩ := fun g k hg => h.cell (p := ⟨g, k, none⟩) hg
theorem old_marks {u u' : World} (h : Below u.heap.size u u') : ∀ g k, g < u.heap.size → u'.frozen? ⟨g, k, none⟩ = u.frozen? ⟨g, k, none⟩ := fun g k hg => h.frozen (p := ⟨g, k, none⟩) hg

theorem bstep {B : Nat} {a w w1 : World} (h : Below B a w) (hb : Below w.heap.size w w1) (hB : B ≤ w.heap.size) : Below B a w1 := h.trans (hb.mono hB)
theorem bbox {w w1 : World} {o : Obj} (hb : Below (w.alloc o).heap.size (w.alloc o) w1) : Below w.heap.size w w1 :=
  ((Below.refl _ _).alloc (Nat.le_refl _) _).trans (hb.mono (by simp))

theorem words_s (t : Nat) (f c L S : Int) (w : World) (ht : t < 6) (hc0 : 0 ≤ c) (hc1 : c ≤ 64) (hl0 : 0 ≤ L) (hl1 : L ≤ 5) (hS : Hid (c * L = S)) (hw : 0 < w.heap.size) (hc : w.cell? ⟨0, t, none⟩ = some (.int .i64 L)) :
    Calls Tryd.prog 27 #[.agg #[.int .i64 (t : Int), .int .i64 f, .int .i64 c]] w (Drew (.int .i64 S) w) := by
  rw [← hS.out]; exact words_any t f c L w ht hc0 hc1 hl0 hl1 hw hc

/-- What is known of the part k. -/
theorem part_is {n e p i j : Int} (h : Ok n e p i j) (k : Nat) (hk : k < 6) : ∃ (t : Nat) (f c L S : Int), pw k = t ∧ pf k = f ∧ pc n e p i j k = c ∧ pl k = L ∧ c * L = S ∧ t < 6 ∧ 0 ≤ f ∧ f ≤ 1 ∧ 1 ≤ c ∧ c ≤ 64 ∧ 1 ≤ L ∧ L ≤ 5 ∧ 0 ≤ S ∧ S ≤ 320 := by
  have h1 := pc_le h k hk
  have h2 := pl_le k hk
  have h3 := pf_le k hk
  have h4 := mul_bd (a := pc n e p i j k) (b := pl k) (by omega) (by omega) (by omega) (by omega)
  exact ⟨_, _, _, _, _, rfl, rfl, rfl, rfl, rfl, pw_lt k hk, h3.1, h3.2, h1.1, h1.2, h2.1, h2.2, h4.1, h4.2⟩

set_option maxHeartbeats 1000000 in
theorem size_ok (n e p i j : Int) (w : World) (h : Hid (Ok n e p i j)) (T : Hid (Tab w)) :
    Calls Tryd.prog 14 #[.agg #[.int .i64 n, .int .i64 e, .int .i64 p, .int .i64 i, .int .i64 j]] w (Drew (.int .i64 (po n e p i j 6)) w) := by
  have hw : 0 < w.heap.size := T.out.1
  go_enter Tryd.func14, Tryd.ntmps14
  go_wp2_with fail
  refine (check_ok _ _ _ _ _ _ h).mono ?_
  rintro r w1 ⟨rfl, hb1⟩
  have hc1 := old_cells (hb1)
  have hf1 := old_marks (hb1)
  go_wp2_with fail
  refine (parts_any _ _ _ _ _ _).mono ?_
  rintro r w2 ⟨rfl, hb2⟩
  have HB : Hid (Below w.heap.size w w2) := bstep (bbox hb1) hb2 (by have := hb1.size; simp at this; omega)
  clear hb1 hc1 hf1 hb2
  go_wp2
  go_loopw [3, 11] (fun s c wr => ∃ k : Nat, k ≤ 6 ∧ c = .int .i64 k ∧ s = .int .i64 (po n e p i j k) ∧ Hid (Below w.heap.size w wr)) (fun _ c _ => 6 - (intOf c).toNat)
  case atStart => exact ⟨0, by omega, rfl, rfl, HB⟩
  case round =>
    obtain ⟨k, hk, rfl, rfl, HR⟩ := hrel
    by_cases hlt : k < 6
    · have hi := parts_index n e p i j k hlt
      have HT : Hid (∀ o, (wr.alloc o).cell? ⟨0, pw k, none⟩ = some (.int .i64 (pl k))) := fun o => ((T.out.below HR.out).alloc o).part k hlt
      obtain ⟨q1, q2⟩ := po_le h.out k hlt
      have HP := hide (po_succ (n := n) (e := e) (p := p) (i := i) (j := j) k hlt)
      obtain ⟨t, f, c, L, S, e1, e2, e3, e4, e5, g1, g2, g3, g4, g5, g6, g7, g8, g9⟩ := part_is h.out k hlt
      rw [e1, e2, e3] at hi
      rw [e1, e4] at HT
      rw [e3, e4, e5] at HP
      have HS := hide e5
      clear e1 e2 e3 e4 e5
      have hz : 0 < wr.heap.size := by have := HR.out.size; omega
      generalize po n e p i j k = y at *
      go_wp2_with fail
      refine (words_s t f c L S _ g1 (by omega) g5 (by omega) g7 HS (by simp) (HT.out _)).mono ?_
      rintro r w3 ⟨rfl, hb3⟩
      go_wp2
      go_roundw
      case rel => exact ⟨k + 1, by omega, by go_num, by rw [HP.out], bstep HR.out (bbox hb3) HR.out.size⟩
      case measure => simp [intOf]; omega
    · obtain rfl : k = 6 := by omega
      go_wp2
      go_ret
      exact ⟨rfl, HR.out⟩

set_option maxHeartbeats 1000000 in
theorem size_no (n e p i j : Int) (w : World) (h : Hid (¬ Ok n e p i j)) :
    Calls Tryd.prog 14 #[.agg #[.int .i64 n, .int .i64 e, .int .i64 p, .int .i64 i, .int .i64 j]] w (Drew (.int .i64 0) w) := by
  go_enter Tryd.func14, Tryd.ntmps14
  go_wp2_with fail
  refine (check_no _ _ _ _ _ _ h).mono ?_
  rintro r w1 ⟨rfl, hb1⟩
  go_wp2
  go_ret
  exact ⟨rfl, bbox hb1⟩

set_option maxHeartbeats 1000000 in
theorem stand_bad (n e p i j x m fd : Int) (w : World) (h : Hid (¬ Ok n e p i j)) :
    Calls Tryd.prog 28 #[.agg #[.int .i64 n, .int .i64 e, .int .i64 p, .int .i64 i, .int .i64 j], .int .i64 x, .int .i64 m, .int .i64 fd] w (Drew (.tuple #[.int .i64 0, .int .i64 1]) w) := by
  go_enter Tryd.func28, Tryd.ntmps28
  go_wp2_with fail
  refine (check_no _ _ _ _ _ _ h).mono ?_
  rintro r w1 ⟨rfl, hb1⟩
  go_wp2
  go_ret2
  exact ⟨rfl, bbox hb1⟩

/-- The thing x, m, fd is one of the part k. -/
def In (n e p i j x m fd : Int) (k : Nat) : Prop := x = (pw k : Int) ∧ pf k ≤ m ∧ m < pf k + pc n e p i j k ∧ 0 ≤ fd ∧ fd < pl k

set_option maxHeartbeats 1000000 in
theorem stand_no (n e p i j x m fd : Int) (w : World) (h : Hid (Ok n e p i j)) (T : Hid (Tab w)) (hn : Hid (∀ k, k < 6 → ¬ In n e p i j x m fd k)) :
    Calls Tryd.prog 28 #[.agg #[.int .i64 n, .int .i64 e, .int .i64 p, .int .i64 i, .int .i64 j], .int .i64 x, .int .i64 m, .int .i64 fd] w (Drew (.tuple #[.int .i64 0, .int .i64 1]) w) := by
  have hw : 0 < w.heap.size := T.out.1
  go_enter Tryd.func28, Tryd.ntmps28
  go_wp2_with fail
  refine (check_ok _ _ _ _ _ _ h).mono ?_
  rintro r w1 ⟨rfl, hb1⟩
  have hc1 := old_cells (hb1)
  have hf1 := old_marks (hb1)
  go_wp2_with fail
  refine (parts_any _ _ _ _ _ _).mono ?_
  rintro r w2 ⟨rfl, hb2⟩
  have HB : Hid (Below w.heap.size w w2) := bstep (bbox hb1) hb2 (by have := hb1.size; simp at this; omega)
  clear hb1 hc1 hf1 hb2
  go_wp2
  go_loopw [11, 21] (fun s c wr => ∃ k : Nat, k ≤ 6 ∧ c = .int .i64 k ∧ s = .int .i64 (po n e p i j k) ∧ Hid (Below w.heap.size w wr)) (fun _ c _ => 6 - (intOf c).toNat)
  case atStart => exact ⟨0, by omega, rfl, rfl, HB⟩
  case round =>
    obtain ⟨k, hk, rfl, rfl, HR⟩ := hrel
    by_cases hlt : k < 6
    · have hi := parts_index n e p i j k hlt
      have TR : Hid (Tab wr) := T.out.below HR.out
      have HT : Hid (∀ w, Tab w → w.cell? ⟨0, pw k, none⟩ = some (.int .i64 (pl k))) := fun w T => T.part k hlt
      obtain ⟨q1, q2⟩ := po_le h.out k hlt
      have HP := hide (po_succ (n := n) (e := e) (p := p) (i := i) (j := j) k hlt)
      have HN := hide (hn.out k hlt)
      unfold In at HN
      obtain ⟨t, f, c, L, S, e1, e2, e3, e4, e5, g1, g2, g3, g4, g5, g6, g7, g8, g9⟩ := part_is h.out k hlt
      rw [e1, e2, e3] at hi
      rw [e1, e4] at HT
      rw [e3, e4, e5] at HP
      rw [e1, e2, e3, e4] at HN
      have HS := hide e5
      clear e1 e2 e3 e4 e5
      have hz : 0 < wr.heap.size := by have := HR.out.size; omega
      generalize po n e p i j k = y at *
      by_cases hx : x = (t : Int)
      · subst hx
        have HN' : Hid (¬ (f ≤ m ∧ m < f + c ∧ 0 ≤ fd ∧ fd < L)) := fun hh => HN.out ⟨rfl, hh⟩
        go_wp2_with fail
        refine (has_no t f c L m fd _ g1 (by omega) g5 g2 g3 (by simp) (HT.out _ (TR.out.alloc _)) HN').mono ?_
        rintro r w3 ⟨rfl, hb3⟩
        have hc3 := old_cells (hb3)
        have hf3 := old_marks (hb3)
        have T3 : Hid (Tab w3) := (TR.out.alloc _).below hb3
        have hz3 : 0 < w3.heap.size := T3.out.1
        go_wp2_with fail
        refine (words_s t f c L S _ g1 (by omega) g5 (by omega) g7 HS (by simpa using hz3) (HT.out _ T3.out)).mono ?_
        rintro r w4 ⟨rfl, hb4⟩
        go_wp2
        go_roundw
        case rel => exact ⟨k + 1, by omega, by go_num, by rw [HP.out], bstep (bstep HR.out (bbox hb3) HR.out.size) hb4 (by have := HR.out.size; have := (bbox hb3).size; omega)⟩
        case measure => simp [intOf]; omega
      · have hx1 : (((t : Nat) : Int) == x) = false := by simp; omega
        go_wp2_with fail
        refine (words_s t f c L S _ g1 (by omega) g5 (by omega) g7 HS (by simp) (HT.out _ (TR.out.alloc _))).mono ?_
        rintro r w4 ⟨rfl, hb4⟩
        go_wp2
        go_roundw
        case rel => exact ⟨k + 1, by omega, by go_num, by rw [HP.out], bstep HR.out (bbox hb4) HR.out.size⟩
        case measure => simp [intOf]; omega
    · obtain rfl : k = 6 := by omega
      go_wp2
      go_ret2
      exact ⟨rfl, HR.out⟩

theorem pw_inj (a b : Nat) (ha : a < 6) (hb : b < 6) (h : pw a = pw b) : a = b := by
  revert h
  exact six (P := fun a => pw a = pw b → a = b) (six (P := fun b => pw 0 = pw b → 0 = b) (by decide) (by decide) (by decide) (by decide) (by decide) (by decide) b hb) (six (P := fun b => pw 1 = pw b → 1 = b) (by decide) (by decide) (by decide) (by decide) (by decide) (by decide) b hb) (six (P := fun b => pw 2 = pw b → 2 = b) (by decide) (by decide) (by decide) (by decide) (by decide) (by decide) b hb) (six (P := fun b => pw 3 = pw b → 3 = b) (by decide) (by decide) (by decide) (by decide) (by decide) (by decide) b hb) (six (P := fun b => pw 4 = pw b → 4 = b) (by decide) (by decide) (by decide) (by decide) (by decide) (by decide) b hb) (six (P := fun b => pw 5 = pw b → 5 = b) (by decide) (by decide) (by decide) (by decide) (by decide) (by decide) b hb) a ha

set_option maxHeartbeats 1000000 in
theorem stand_yes (n e p i j x m fd R : Int) (K : Nat) (w : World) (h : Hid (Ok n e p i j)) (T : Hid (Tab w)) (hK : K < 6) (hn : Hid (In n e p i j x m fd K)) (hR : Hid (po n e p i j K + (m - pf K) * pl K + fd = R)) :
    Calls Tryd.prog 28 #[.agg #[.int .i64 n, .int .i64 e, .int .i64 p, .int .i64 i, .int .i64 j], .int .i64 x, .int .i64 m, .int .i64 fd] w (Drew (.tuple #[.int .i64 R, .int .i64 0]) w) := by
  have hw : 0 < w.heap.size := T.out.1
  go_enter Tryd.func28, Tryd.ntmps28
  go_wp2_with fail
  refine (check_ok _ _ _ _ _ _ h).mono ?_
  rintro r w1 ⟨rfl, hb1⟩
  have hc1 := old_cells (hb1)
  have hf1 := old_marks (hb1)
  go_wp2_with fail
  refine (parts_any _ _ _ _ _ _).mono ?_
  rintro r w2 ⟨rfl, hb2⟩
  have HB : Hid (Below w.heap.size w w2) := bstep (bbox hb1) hb2 (by have := hb1.size; simp at this; omega)
  clear hb1 hc1 hf1 hb2
  go_wp2
  go_loopw [11, 21] (fun s c wr => ∃ k : Nat, k ≤ K ∧ c = .int .i64 k ∧ s = .int .i64 (po n e p i j k) ∧ Hid (Below w.heap.size w wr)) (fun _ c _ => 6 - (intOf c).toNat)
  case atStart => exact ⟨0, by omega, rfl, rfl, HB⟩
  case round =>
    obtain ⟨k, hk, rfl, rfl, HR⟩ := hrel
    have hlt : k < 6 := by omega
    have hi := parts_index n e p i j k hlt
    have TR : Hid (Tab wr) := T.out.below HR.out
    have HT : Hid (∀ w, Tab w → w.cell? ⟨0, pw k, none⟩ = some (.int .i64 (pl k))) := fun w T => T.part k hlt
    obtain ⟨q1, q2⟩ := po_le h.out k hlt
    have hz : 0 < wr.heap.size := by have := HR.out.size; omega
    by_cases hkK : k = K
    · subst hkK
      have HN := hn
      unfold In at HN
      obtain ⟨t, f, c, L, S, e1, e2, e3, e4, e5, g1, g2, g3, g4, g5, g6, g7, g8, g9⟩ := part_is h.out k hlt
      rw [e1, e2, e3] at hi
      rw [e1, e4] at HT
      rw [e1, e2, e3, e4] at HN
      rw [e2, e4] at hR
      clear e1 e2 e3 e4 e5
      generalize po n e p i j k = y at *
      obtain ⟨rfl, v1, v2, v3, v4⟩ := HN.out
      have u1 : 0 ≤ m - f := by omega
      have u2 : m - f ≤ 64 := by omega
      obtain ⟨m1, m2⟩ := mul_bd (a := m - f) (b := L) u1 u2 (by omega) g7
      have z1 := IntWalk.i64_in (m - f) (by omega)
      have z2 := IntWalk.i64_in ((m - f) * L) (by omega)
      have z3 := IntWalk.i64_in (y + (m - f) * L) (by omega)
      have z4 := IntWalk.i64_in (y + (m - f) * L + fd) (by omega)
      go_wp2_with fail
      refine (has_yes t f c L m fd _ g1 (by omega) g5 g2 g3 (by simp) (HT.out _ (TR.out.alloc _)) v1 v2 v3 v4).mono ?_
      rintro r w3 ⟨rfl, hb3⟩
      have hc3 := old_cells (hb3)
      have hf3 := old_marks (hb3)
      have T3 : Hid (Tab w3) := (TR.out.alloc _).below hb3
      have hz3 : 0 < w3.heap.size := T3.out.1
      have hcell := HT.out _ TR.out
      go_wp2
      have g1' : (t : Int) < 6 := by omega
      have g0' : (0 : Int) ≤ (t : Int) := by omega
      go_quiet (fail)
      go_wp2
      go_ret2
      exact ⟨by simp [hR.out], Below.drewN (bstep HR.out (bbox hb3) HR.out.size) _⟩
    · have hne : pw k ≠ pw K := fun hh => hkK (pw_inj k K hlt hK hh)
      have HX := hide hn.out.1
      have HP := hide (po_succ (n := n) (e := e) (p := p) (i := i) (j := j) k hlt)
      obtain ⟨t, f, c, L, S, e1, e2, e3, e4, e5, g1, g2, g3, g4, g5, g6, g7, g8, g9⟩ := part_is h.out k hlt
      rw [e1, e2, e3] at hi
      rw [e1, e4] at HT
      rw [e3, e4, e5] at HP
      rw [e1] at hne
      have HS := hide e5
      clear e1 e2 e3 e4 e5
      generalize po n e p i j k = y at *
      have hx1 : (((t : Nat) : Int) == x) = false := by have := HX.out; simp; omega
      clear hne
      go_wp2_with fail
      refine (words_s t f c L S _ g1 (by omega) g5 (by omega) g7 HS (by simp) (HT.out _ (TR.out.alloc _))).mono ?_
      rintro r w4 ⟨rfl, hb4⟩
      go_wp2
      go_roundw
      case rel => exact ⟨k + 1, by omega, by go_num, by rw [HP.out], bstep HR.out (bbox hb4) HR.out.size⟩
      case measure => simp [intOf]; omega

end Go.Proofs.YtknbllhkifigbaaDoor
