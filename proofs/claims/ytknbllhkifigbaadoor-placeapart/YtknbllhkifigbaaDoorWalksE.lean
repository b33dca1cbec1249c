/- What the document's answer for a record's field tells: one contract, whatever the arguments. -/
import Derived.Test.YtknbllhkifigbaaDoorWalksD
namespace Go.Proofs.YtknbllhkifigbaaDoor
open Go.RowKit
set_option linter.unusedVariables false

/-- The configuration's box is as it was laid. -/
theorem box_cells {w u wr : World} {o : Obj} (hb : Below (w.alloc o).heap.size (w.alloc o) wr) : ∀ k, wr.cell? ⟨w.heap.size, k, none⟩ = (w.alloc o).cell? ⟨w.heap.size, k, none⟩ :=
  fun k => hb.cell (p := ⟨w.heap.size, k, none⟩) (by simp)

set_option maxHeartbeats 1000000 in
theorem rfield_yes (n e p i j m fd : Int) (k : Nat) (w : World) (k1 : 1 ≤ k) (k3 : k ≤ 3) (h : Hid (Ok n e p i j)) (m0 : 0 ≤ m) (m1 : Hid (m < pc n e p i j (k + 2))) (f0 : 0 ≤ fd) (f1 : Hid (fd < pl (k + 2))) :
    Calls Tryd.prog 22 #[.agg #[.int .i64 n, .int .i64 e, .int .i64 p, .int .i64 i, .int .i64 j], .int .i64 (k : Int), .int .i64 m, .int .i64 fd] w (Drew (.tuple #[.int .i64 (po n e p i j (k + 2) + pl (k + 2) * m + fd), .int .i64 0]) w) := by
  have ho := h.out
  unfold Ok at ho
  obtain ⟨⟨x1, x2⟩, ⟨x3, x4⟩, ⟨x5, x6⟩, ⟨x7, x8⟩, ⟨x9, x10⟩⟩ := ho
  have HC : Hid (∀ w, Calls Tryd.prog 29 #[.agg #[.int .i64 n, .int .i64 e, .int .i64 p, .int .i64 i, .int .i64 j], .int .i64 (k : Int)] w (Drew (.tuple #[.int .i64 (pc n e p i j (k + 2)), .int .i64 (pl (k + 2))]) w)) := fun w => cap_is n e p i j k w k1 k3
  have HQ : Hid (∀ (q : Nat) w, 1 ≤ q → q ≤ 3 → Calls Tryd.prog 29 #[.agg #[.int .i64 n, .int .i64 e, .int .i64 p, .int .i64 i, .int .i64 j], .int .i64 (q : Int)] w (Drew (.tuple #[.int .i64 (pc n e p i j (q + 2)), .int .i64 (pl (q + 2))]) w)) := fun q w h1 h3 => cap_is n e p i j q w h1 h3
  have HP : Hid (∀ k, k < 6 → po n e p i j (k + 1) = po n e p i j k + pc n e p i j k * pl k) := fun k hk => po_succ k hk
  obtain ⟨l1, l2⟩ := pl_le (k + 2) (by omega)
  obtain ⟨c1, c2⟩ := pc_le h.out (k + 2) (by omega)
  have m2 := m1.out
  obtain ⟨q1, q2⟩ := po_le h.out (k + 2) (by omega)
  obtain ⟨L, HL⟩ : ∃ L, Hid (pl (k + 2) = L) := ⟨_, rfl⟩
  obtain ⟨c, Hc⟩ : ∃ c, Hid (pc n e p i j (k + 2) = c) := ⟨_, rfl⟩
  obtain ⟨y, Hy⟩ : ∃ y, Hid (po n e p i j (k + 2) = y) := ⟨_, rfl⟩
  rw [HL.out, Hc.out] at HC
  rw [HL.out] at f1 l1 l2 ⊢
  rw [Hc.out] at c1 c2 m2
  rw [Hy.out] at q1 q2 ⊢
  have f2 := f1.out
  have b1 : decide (m < 0) = false := by simpa using m0
  have b2 : decide (c ≤ m) = false := by simpa using m2
  have b3 : decide (fd < 0) = false := by simpa using f0
  have b4 : decide (L ≤ fd) = false := by simpa using f2
  obtain ⟨r1, r2⟩ := mul_bd (a := m) (b := L) m0 (by omega) (by omega) l2
  rw [Int.mul_comm] at r1 r2
  go_enter Tryd.func22, Tryd.ntmps22
  go_wp2_with fail
  refine (HC.out _).mono ?_
  rintro r w1 ⟨rfl, hb1⟩
  have hc1 := old_cells (hb1)
  have hf1 := old_marks (hb1)
  go_wp2_with fail
  refine (rcheck_ok _ _ _ _ _ _ h).mono ?_
  rintro r w2 ⟨rfl, hb2⟩
  have HB : Hid (Below (w.alloc (.cells #[.int .i64 n, .int .i64 e, .int .i64 p, .int .i64 i, .int .i64 j] 23)).heap.size (w.alloc (.cells #[.int .i64 n, .int .i64 e, .int .i64 p, .int .i64 i, .int .i64 j] 23)) w2) := bstep hb1 hb2 hb1.size
  clear hb1 hc1 hf1 hb2
  have hc2 := box_cells (u := w) HB.out
  go_wp2
  clear hc2
  go_loopw [12, 13] (fun s q wr => ∃ z : Nat, 1 ≤ z ∧ z ≤ k ∧ q = .int .i64 z ∧ s = .int .i64 (po n e p i j (z + 2)) ∧ Hid (Below (w.alloc (.cells #[.int .i64 n, .int .i64 e, .int .i64 p, .int .i64 i, .int .i64 j] 23)).heap.size (w.alloc (.cells #[.int .i64 n, .int .i64 e, .int .i64 p, .int .i64 i, .int .i64 j] 23)) wr)) (fun _ q _ => 3 - (intOf q).toNat)
  case atStart => exact ⟨1, by omega, k1, rfl, by simp only [po], HB⟩
  case round =>
    obtain ⟨z, z1, z2, rfl, rfl, HR⟩ := hrel
    by_cases hz : z < k
    · have hcr := box_cells (u := w) HR.out
      have HP1 := hide (HP.out (z + 2) (by omega))
      obtain ⟨g1, g2⟩ := po_le h.out (z + 2) (by omega)
      obtain ⟨t, f, cq, Lq, S, e1, e2, e3, e4, e5, g3, g4, g5, g6, g7, g8, g9, g10, g11⟩ := part_is h.out (z + 2) (by omega)
      have HQ1 := hide (fun w => HQ.out z w z1 (by omega))
      rw [e3, e4] at HQ1 HP1
      rw [e5] at HP1
      have HS := hide e5
      clear e1 e2 e3 e4 e5
      obtain ⟨yz, Hyz⟩ : ∃ yz, Hid (po n e p i j (z + 2) = yz) := ⟨_, rfl⟩
      rw [Hyz.out] at HP1 g1 g2 ⊢
      have u1 : 0 ≤ cq * Lq := by have := HS.out; omega
      have u2 : cq * Lq ≤ 320 := by have := HS.out; omega
      go_wp2_with fail
      refine (HQ1.out _).mono ?_
      rintro r w3 ⟨rfl, hb3⟩
      go_wp2
      go_roundw
      case rel => exact ⟨z + 1, by omega, by omega, by go_num, by rw [show z + 1 + 2 = z + 2 + 1 by omega, HP1.out, ← HS.out], bstep HR.out hb3 HR.out.size⟩
      case measure => simp [intOf]; omega
    · obtain rfl : z = k := by omega
      rw [Hy.out]
      go_wp2
      go_ret2
      exact ⟨rfl, bbox HR.out⟩

set_option maxHeartbeats 1000000 in
theorem rfield_no (n e p i j x m fd c L : Int) (w : World) (HC : Hid (∀ w, Calls Tryd.prog 29 #[.agg #[.int .i64 n, .int .i64 e, .int .i64 p, .int .i64 i, .int .i64 j], .int .i64 x] w (Drew (.tuple #[.int .i64 c, .int .i64 L]) w))) (h : Hid (Ok n e p i j)) (hn : Hid (m < 0 ∨ c ≤ m ∨ fd < 0 ∨ L ≤ fd)) :
    Calls Tryd.prog 22 #[.agg #[.int .i64 n, .int .i64 e, .int .i64 p, .int .i64 i, .int .i64 j], .int .i64 x, .int .i64 m, .int .i64 fd] w (Drew (.tuple #[.int .i64 0, .int .i64 1]) w) := by
  by_cases c1 : m < 0
  · have b1 : decide (m < 0) = true := by simpa using c1
    go_enter Tryd.func22, Tryd.ntmps22
    go_wp2_with fail
    refine (HC.out _).mono ?_
    rintro r w1 ⟨rfl, hb1⟩
    have hc1 := old_cells (hb1)
    have hf1 := old_marks (hb1)
    go_wp2_with fail
    refine (rcheck_ok _ _ _ _ _ _ h).mono ?_
    rintro r w2 ⟨rfl, hb2⟩
    have HB : Hid (Below (w.alloc (.cells #[.int .i64 n, .int .i64 e, .int .i64 p, .int .i64 i, .int .i64 j] 23)).heap.size (w.alloc (.cells #[.int .i64 n, .int .i64 e, .int .i64 p, .int .i64 i, .int .i64 j] 23)) w2) := bstep hb1 hb2 hb1.size
    clear hb1 hc1 hf1 hb2
    go_wp2
    go_ret2
    exact ⟨rfl, bbox HB.out⟩
  have b1 : decide (m < 0) = false := by simpa using c1
  by_cases c2 : c ≤ m
  · have b2 : decide (c ≤ m) = true := by simpa using c2
    go_enter Tryd.func22, Tryd.ntmps22
    go_wp2_with fail
    refine (HC.out _).mono ?_
    rintro r w1 ⟨rfl, hb1⟩
    have hc1 := old_cells (hb1)
    have hf1 := old_marks (hb1)
    go_wp2_with fail
    refine (rcheck_ok _ _ _ _ _ _ h).mono ?_
    rintro r w2 ⟨rfl, hb2⟩
    have HB : Hid (Below (w.alloc (.cells #[.int .i64 n, .int .i64 e, .int .i64 p, .int .i64 i, .int .i64 j] 23)).heap.size (w.alloc (.cells #[.int .i64 n, .int .i64 e, .int .i64 p, .int .i64 i, .int .i64 j] 23)) w2) := bstep hb1 hb2 hb1.size
    clear hb1 hc1 hf1 hb2
    go_wp2
    go_ret2
    exact ⟨rfl, bbox HB.out⟩
  have b2 : decide (c ≤ m) = false := by simpa using c2
  by_cases c3 : fd < 0
  · have b3 : decide (fd < 0) = true := by simpa using c3
    go_enter Tryd.func22, Tryd.ntmps22
    go_wp2_with fail
    refine (HC.out _).mono ?_
    rintro r w1 ⟨rfl, hb1⟩
    have hc1 := old_cells (hb1)
    have hf1 := old_marks (hb1)
    go_wp2_with fail
    refine (rcheck_ok _ _ _ _ _ _ h).mono ?_
    rintro r w2 ⟨rfl, hb2⟩
    have HB : Hid (Below (w.alloc (.cells #[.int .i64 n, .int .i64 e, .int .i64 p, .int .i64 i, .int .i64 j] 23)).heap.size (w.alloc (.cells #[.int .i64 n, .int .i64 e, .int .i64 p, .int .i64 i, .int .i64 j] 23)) w2) := bstep hb1 hb2 hb1.size
    clear hb1 hc1 hf1 hb2
    go_wp2
    go_ret2
    exact ⟨rfl, bbox HB.out⟩
  have b3 : decide (fd < 0) = false := by simpa using c3
  have c4 : L ≤ fd := by have := hn.out; omega
  have b4 : decide (L ≤ fd) = true := by simpa using c4
  go_enter Tryd.func22, Tryd.ntmps22
  go_wp2_with fail
  refine (HC.out _).mono ?_
  rintro r w1 ⟨rfl, hb1⟩
  have hc1 := old_cells (hb1)
  have hf1 := old_marks (hb1)
  go_wp2_with fail
  refine (rcheck_ok _ _ _ _ _ _ h).mono ?_
  rintro r w2 ⟨rfl, hb2⟩
  have HB : Hid (Below (w.alloc (.cells #[.int .i64 n, .int .i64 e, .int .i64 p, .int .i64 i, .int .i64 j] 23)).heap.size (w.alloc (.cells #[.int .i64 n, .int .i64 e, .int .i64 p, .int .i64 i, .int .i64 j] 23)) w2) := bstep hb1 hb2 hb1.size
  clear hb1 hc1 hf1 hb2
  go_wp2
  go_ret2
  exact ⟨rfl, bbox HB.out⟩

set_option maxHeartbeats 1000000 in
theorem rfield_bad (n e p i j x m fd c L : Int) (w : World) (HC : Hid (∀ w, Calls Tryd.prog 29 #[.agg #[.int .i64 n, .int .i64 e, .int .i64 p, .int .i64 i, .int .i64 j], .int .i64 x] w (Drew (.tuple #[.int .i64 c, .int .i64 L]) w))) (h : Hid (¬ Ok n e p i j)) :
    Calls Tryd.prog 22 #[.agg #[.int .i64 n, .int .i64 e, .int .i64 p, .int .i64 i, .int .i64 j], .int .i64 x, .int .i64 m, .int .i64 fd] w (Drew (.tuple #[.int .i64 0, .int .i64 1]) w) := by
  go_enter Tryd.func22, Tryd.ntmps22
  go_wp2_with fail
  refine (HC.out _).mono ?_
  rintro r w1 ⟨rfl, hb1⟩
  have hc1 := old_cells (hb1)
  have hf1 := old_marks (hb1)
  go_wp2_with fail
  refine (rcheck_no _ _ _ _ _ _ h).mono ?_
  rintro r w2 ⟨rfl, hb2⟩
  have HB : Hid (Below (w.alloc (.cells #[.int .i64 n, .int .i64 e, .int .i64 p, .int .i64 i, .int .i64 j] 23)).heap.size (w.alloc (.cells #[.int .i64 n, .int .i64 e, .int .i64 p, .int .i64 i, .int .i64 j] 23)) w2) := bstep hb1 hb2 hb1.size
  clear hb1 hc1 hf1 hb2
  go_wp2
  go_ret2
  exact ⟨rfl, bbox HB.out⟩

theorem rfield_any (n e p i j x m fd A E : Int) (w : World) (h : Hid (Fields n e p i j x m fd A E)) :
    Calls Tryd.prog 22 #[.agg #[.int .i64 n, .int .i64 e, .int .i64 p, .int .i64 i, .int .i64 j], .int .i64 x, .int .i64 m, .int .i64 fd] w (Drew (.tuple #[.int .i64 A, .int .i64 E]) w) := by
  by_cases hx : 1 ≤ x ∧ x ≤ 3
  · obtain ⟨k, rfl⟩ := Int.eq_ofNat_of_zero_le (show 0 ≤ x by omega)
    rcases fields_is k (by omega) (by omega) h.out with ⟨o, g1, g2, g3, g4, rfl, rfl⟩ | ⟨hn, rfl, rfl⟩
    · exact rfield_yes n e p i j m fd k w (by omega) (by omega) o g1 g2 g3 g4
    · by_cases o : Ok n e p i j
      · exact rfield_no n e p i j k m fd _ _ w (fun w => cap_is n e p i j k w (by omega) (by omega)) o (hn.elim (fun g => absurd o g) (fun g => g))
      · exact rfield_bad n e p i j k m fd _ _ w (fun w => cap_is n e p i j k w (by omega) (by omega)) o
  · rcases h.out with ⟨g, _⟩ | ⟨g, rfl, rfl⟩
    · exact absurd g hx
    · by_cases o : Ok n e p i j
      · exact rfield_no n e p i j x m fd 0 0 w (fun w => cap_no n e p i j x w g) o (show m < 0 ∨ 0 ≤ m ∨ fd < 0 ∨ 0 ≤ fd by omega)
      · exact rfield_bad n e p i j x m fd 0 0 w (fun w => cap_no n e p i j x w g) o

end Go.Proofs.YtknbllhkifigbaaDoor
