/- New memories: what layer 2's and layer 3's New, and the document's answer, tell; whether two lists are the same. -/
import Derived.Test.YtknbllhkifigbaaDoorHeld
import Derived.Laws.OwnMore
namespace Go.Proofs.YtknbllhkifigbaaDoor
open Go.RowKit
set_option linter.unusedVariables false

theorem Tryd.info3 : (Tryd.prog.info? 3).map (fun i => (i.zero, i.size, i.bytes)) = some (some (.int .i64 0), 1, 8) := by kernel_rfl
theorem Tryd.size3 : (Tryd.prog.info? 3).map (·.size) = some 1 := by kernel_rfl

set_option maxHeartbeats 400000 in
theorem new_ok (n : Nat) (w : World) (hn : n ≤ 4096) :
    Calls Tryd.prog 25 #[.int .i64 (n : Int)] w (Told2 w n (List.replicate n 0)) := by
  obtain ⟨i0, hi0, hz0, hz1, hz2⟩ := info_parts Tryd.info3
  have hby : i0.bytes * n ≤ 281474976710656 := by rw [hz2]; omega
  have HB := hide hby
  clear hby
  have H1 := hide hi0
  have H2 := hide hz0
  have H3 := hide hz1
  have H4 := hide hz2
  clear hi0 hz0 hz1 hz2
  have h1 : decide ((n : Int) < 0) = false := by simp
  have h2 : decide ((4096 : Int) < (n : Int)) = false := by simp; omega
  go_enter Tryd.func25, Tryd.ntmps25
  go_wp2_with (at_make; refine wpList_make_full _ rfl _ _ 25 rfl w.heap.size 3 i0 (.int .i64 0) 1 Tryd.underlying25 H1.out H2.out H3.out _ _ _ _ n rfl rfl rfl rfl HB.out (by simp only [maxLen]; omega) (Nat.le_refl _) ?_; intro w1 hown hgrow; have hbel : Below w.heap.size w w1 := (Below.refl _ _).grown hgrow (Nat.le_refl _) (by simp); have HG : Hid (w1.heap[w.heap.size]? = some (.cells ((List.replicate n (0 : Int)).map (Value.int .i64)).toArray 3 (0, 0))) := (own_block hown).trans (by rw [show n * 1 = n from Nat.mul_one n, show (Value.int IntKind.i64 0).cells = #[Value.int .i64 0] from rfl, toList_madeCells_one, List.map_replicate]); clear hown hgrow)
  go_ret2
  exact ⟨_, _, rfl, Fresh.of_block (by simp) (Nat.le_refl _) HG.out, hbel⟩

/-- A new memory of so many words, the first two 1, the others 0. -/
def news (k : Nat) : List Int := ((List.replicate k (0 : Int)).set 0 1).set 1 1

set_option maxHeartbeats 1000000 in
theorem pnew_ok (n e p i j : Int) (k : Nat) (w : World) (h : Hid (Ok n e p i j)) (T : Hid (Tab w)) (hk : Hid (po n e p i j 6 = (k : Int))) (k2 : 2 ≤ k) (k9 : k ≤ 2000) :
    Calls Tryd.prog 10 #[.agg #[.int .i64 n, .int .i64 e, .int .i64 p, .int .i64 i, .int .i64 j]] w (Told2 w k (news k)) := by
  have T1 : Hid (∀ o, Tab (w.alloc o)) := fun o => T.out.alloc o
  have HS : Hid (∀ u, Hid (Tab u) → Calls Tryd.prog 14 #[.agg #[.int .i64 n, .int .i64 e, .int .i64 p, .int .i64 i, .int .i64 j]] u (Drew (.int .i64 (k : Int)) u)) := fun u hT => by rw [← hk.out]; exact size_ok n e p i j u h hT
  have X0 : Hid ((List.replicate k (0 : Int)).getD 0 0 = 0) := by show _ = _; simp [List.getD_eq_getElem?_getD, show 0 < k by omega]
  have X1 : Hid ((List.replicate k (0 : Int)).getD 1 0 = 0) := by show _ = _; simp [List.getD_eq_getElem?_getD, show 1 < k by omega]
  have l0 : (0 : Int) < (k : Int) := by omega
  have l1 : (1 : Int) < (k : Int) := by omega
  go_enter Tryd.func10, Tryd.ntmps10
  go_wp2_with fail
  refine (check_ok _ _ _ _ _ _ h).mono ?_
  rintro r w1 ⟨rfl, hb1⟩
  have B1 : Boxed w w1 n e p i j := hb1
  clear hb1
  have hc1 := boxed_cells B1
  go_wp2_with fail
  refine (HS.out _ (boxed_tab T B1)).mono ?_
  rintro r w2 ⟨rfl, hb2⟩
  have B2 := boxed_step B1 hb2
  clear hb2 hc1
  go_wp2_with fail
  refine (new_ok k _ (by omega)).mono ?_
  rintro r w3 ⟨A3, c3, rfl, hf, hb3⟩
  have B3 := boxed_step B2 hb3
  have HF := hide (hf.less (B' := w.heap.size) (by have := (bbox B2.out).size; omega))
  obtain ⟨g, rfl, hg, hg2, hc0, hz0⟩ := hf.at_ (k := 0) (by omega)
  obtain ⟨g', hA, _, _, hc1, hz1⟩ := hf.at_ (k := 1) (by omega)
  obtain rfl : g = g' := by simpa using hA
  rw [X0.out] at hc0
  rw [X1.out] at hc1
  have hgw : w.heap.size ≤ g := by have := (bbox B2.out).size; omega
  clear hA hf hb3
  go_wp2
  go_ret2
  exact ⟨_, _, rfl, (HF.out.stored (by omega) 1).stored (by omega) 1, ((bbox B3.out).setCell hgw _).setCell hgw _⟩

set_option maxHeartbeats 400000 in
theorem pnew_no (n e p i j : Int) (w : World) (h : Hid (¬ Ok n e p i j)) :
    Calls Tryd.prog 10 #[.agg #[.int .i64 n, .int .i64 e, .int .i64 p, .int .i64 i, .int .i64 j]] w (Drew (.tuple #[.slice none 0 0, .int .i64 1]) w) := by
  go_enter Tryd.func10, Tryd.ntmps10
  go_wp2_with fail
  refine (check_no _ _ _ _ _ _ h).mono ?_
  rintro r w1 ⟨rfl, hb1⟩
  go_wp2
  go_ret2
  exact ⟨rfl, bbox hb1⟩

set_option maxHeartbeats 1000000 in
theorem rnew_ok (n e p i j : Int) (k : Nat) (w : World) (h : Hid (Ok n e p i j)) (hk : Hid (po n e p i j 6 = (k : Int))) (k2 : 2 ≤ k) (k9 : k ≤ 2000) :
    Calls Tryd.prog 11 #[.agg #[.int .i64 n, .int .i64 e, .int .i64 p, .int .i64 i, .int .i64 j]] w (Told2 w k (news k)) := by
  obtain ⟨i0, hi0, hz0, hz1, hz2⟩ := info_parts Tryd.info3
  have hby : i0.bytes * k ≤ 281474976710656 := by rw [hz2]; omega
  have HY := hide hby
  have H1 := hide hi0
  have H2 := hide hz0
  have H3 := hide hz1
  clear hby hi0 hz0 hz1 hz2
  have HS : Hid (∀ u, Calls Tryd.prog 15 #[.agg #[.int .i64 n, .int .i64 e, .int .i64 p, .int .i64 i, .int .i64 j]] u (Drew (.int .i64 (k : Int)) u)) := fun u => by rw [← hk.out]; exact rsize_ok n e p i j u h
  have X0 : Hid ((List.replicate k (0 : Int)).getD 0 0 = 0) := by show _ = _; simp [List.getD_eq_getElem?_getD, show 0 < k by omega]
  have X1 : Hid ((List.replicate k (0 : Int)).getD 1 0 = 0) := by show _ = _; simp [List.getD_eq_getElem?_getD, show 1 < k by omega]
  have l0 : (0 : Int) < (k : Int) := by omega
  have l1 : (1 : Int) < (k : Int) := by omega
  go_enter Tryd.func11, Tryd.ntmps11
  go_wp2_with fail
  refine (rcheck_ok _ _ _ _ _ _ h).mono ?_
  rintro r w1 ⟨rfl, hb1⟩
  have B1 : Boxed w w1 n e p i j := hb1
  clear hb1
  have hc1 := boxed_cells B1
  go_wp2_with fail
  refine (HS.out _).mono ?_
  rintro r w2 ⟨rfl, hb2⟩
  have B2 := boxed_step B1 hb2
  clear hb2 hc1
  have hw2 : w.heap.size ≤ w2.heap.size := (bbox B2.out).size
  go_wp2_with (at_make; refine wpList_make_full _ rfl _ _ 25 rfl w2.heap.size 3 i0 (.int .i64 0) 1 Tryd.underlying25 H1.out H2.out H3.out _ _ _ _ k rfl rfl rfl rfl HY.out (by simp only [maxLen]; omega) (Nat.le_refl _) ?_; intro w3 hown hgrow; have hbel : Below w2.heap.size w2 w3 := (Below.refl _ _).grown hgrow (Nat.le_refl _) (by simp); have HG : Hid (w3.heap[w2.heap.size]? = some (.cells ((List.replicate k (0 : Int)).map (Value.int .i64)).toArray 3 (0, 0))) := (own_block hown).trans (by rw [show k * 1 = k from Nat.mul_one k, show (Value.int IntKind.i64 0).cells = #[Value.int .i64 0] from rfl, toList_madeCells_one, List.map_replicate]); clear hown hgrow; have B3 := boxed_step B2 hbel; have HF := hide (Fresh.of_block (B := w.heap.size) (n := k) (by simp) hw2 HG.out); obtain ⟨g1, hA1, q1, q2, hc0, hz0⟩ := HF.out.at_ (k := 0) (by omega); obtain ⟨g2, hA2, q3, q4, hc1, hz1⟩ := HF.out.at_ (k := 1) (by omega); obtain rfl : w2.heap.size = g1 := (by simpa using hA1); obtain rfl : w2.heap.size = g2 := (by simpa using hA2); rw [X0.out] at hc0; rw [X1.out] at hc1; clear hA1 hA2)
  go_ret2
  exact ⟨_, _, rfl, (HF.out.stored (by omega) 1).stored (by omega) 1, ((bbox B3.out).setCell hw2 _).setCell hw2 _⟩

set_option maxHeartbeats 400000 in
theorem rnew_no (n e p i j : Int) (w : World) (h : Hid (¬ Ok n e p i j)) :
    Calls Tryd.prog 11 #[.agg #[.int .i64 n, .int .i64 e, .int .i64 p, .int .i64 i, .int .i64 j]] w (Drew (.tuple #[.slice none 0 0, .int .i64 1]) w) := by
  go_enter Tryd.func11, Tryd.ntmps11
  go_wp2_with fail
  refine (rcheck_no _ _ _ _ _ _ h).mono ?_
  rintro r w1 ⟨rfl, hb1⟩
  go_wp2
  go_ret2
  exact ⟨rfl, bbox hb1⟩

set_option maxHeartbeats 400000 in
theorem same_yes (A A' : Option Addr) (n c c' B B' : Nat) (zs : List Int) (w : World) (h : Nums w B A n zs) (h' : Nums w B' A' n zs) (hn : n ≤ 65536) :
    Calls Tryd.prog 16 #[.slice A n c, .slice A' n c'] w (Drew (.bool true) w) := by
  have h0 : (((n : Nat) : Int) != (n : Int)) = false := by simp
  go_enter Tryd.func16, Tryd.ntmps16
  go_wp2
  go_loopw [13] (fun i wr => ∃ k q : Nat, k ≤ n ∧ i = .int .i64 k ∧ wr = w.drewN q) (fun i _ => n - (intOf i).toNat)
  case atStart => exact ⟨0, 0, by omega, rfl, rfl⟩
  case round =>
    obtain ⟨k, q, hk, rfl, rfl⟩ := hrel
    by_cases hlt : k < n
    · obtain ⟨b, off, rfl, _, hc⟩ := h.at_ hlt
      obtain ⟨b', off', rfl, _, hc'⟩ := h'.at_ hlt
      generalize zs.getD k 0 = z at hc hc'
      go_wp2
      go_quiet (fail)
      go_wp2
      go_roundw
      case rel => exact ⟨k + 1, _, by omega, by go_num, rfl⟩
      case measure => simp [intOf]; omega
    · go_wp2
      go_ret
      exact ⟨rfl, Below.drewN (Below.refl _ _) _⟩

end Go.Proofs.YtknbllhkifigbaaDoor
