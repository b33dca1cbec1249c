/- The chapter's example is live. -/
import Derived.Test.YtfdbbfjnianahaaStand
import Derived.Test.YtfdbbfjnianahaaWalksU
import Derived.Test.YtfdbbfjnianahaaWalksV
namespace Go.Proofs.Ytfdbbfjnianahaa
open Go.RowKit
set_option linter.unusedVariables false

theorem step1 : newP 1 = ⟨[0], [0], [0], [0]⟩ := by simp [newP]
theorem step2 : takeQ true ⟨[0], [0], [0], [0]⟩ = ⟨[0], [1], [0], []⟩ := by simp [takeQ]
theorem step3 : retE true ⟨[0], [1], [0], []⟩ 1 = 0 := by decide
theorem step3q : retQ true ⟨[0], [1], [0], []⟩ 1 3 = ⟨[0], [2], [3], []⟩ := by
  unfold retQ
  rw [step3]
  simp
theorem due0 : Due ⟨[0], [2], [3], []⟩ 3 0 := by simp [Due]
theorem step4 : recQ true ⟨[0], [2], [3], []⟩ 3 = ⟨[1], [0], [0], [0]⟩ := by
  show recP ⟨[0], [2], [3], []⟩ 3 1 = _
  rw [recP, if_pos due0]
  simp [recP, recOne]
theorem step4n : recN true ⟨[0], [2], [3], []⟩ 3 = 1 := by
  show ((recC ⟨[0], [2], [3], []⟩ 3 1 : Nat) : Int) = _
  rw [recC, if_pos due0]
  simp [recC]

theorem live_take (p : Pl) (B : Nat) (w : World) (hr : Reads w B p ⟨[0], [0], [0], [0]⟩) (hB : B ≤ w.heap.size) (hm : Small p) : Calls Try.prog 19 #[p.val] w (Tell3 w ⟨[0], [1], [0], []⟩ 1 0) := by
  have h := take_any p _ B true w hr hB hm (show Hid (true = true ↔ _) from ⟨fun _ => may0, fun _ => rfl⟩)
  rw [step2] at h
  exact h
theorem live_retire (p : Pl) (B : Nat) (w : World) (hr : Reads w B p ⟨[0], [1], [0], []⟩) (hB : B ≤ w.heap.size) (hm : Small p) : Calls Try.prog 21 #[p.val, .int .i64 1, .int .i64 3] w (Tell2 w ⟨[0], [2], [3], []⟩ 0) := by
  have h := retire_any p _ B true 1 3 w hr hB hm (show Hid (true = true ↔ _) from ⟨fun _ => may1, fun _ => rfl⟩)
  rw [step3, step3q] at h
  exact h
theorem live_reclaim (p : Pl) (B : Nat) (w : World) (hr : Reads w B p ⟨[0], [2], [3], []⟩) (hB : B ≤ w.heap.size) (hm : Small p) : Calls Try.prog 23 #[p.val, .int .i64 3] w (Tell2 w ⟨[1], [0], [0], [0]⟩ 1) := by
  have h := reclaim_any p _ B true 3 w hr hB hm (show Hid (true = true ↔ _) from ⟨fun _ => may2, fun _ => rfl⟩)
  rw [step4, step4n] at h
  exact h
theorem live_again (p : Pl) (B : Nat) (w : World) (hr : Reads w B p ⟨[1], [0], [0], [0]⟩) (hB : B ≤ w.heap.size) (hm : Small p) : Calls Try.prog 19 #[p.val] w (Tell3 w ⟨[1], [1], [0], []⟩ 1025 0) := by
  have h := take_any p _ B true w hr hB hm (show Hid (true = true ↔ _) from ⟨fun _ => may3, fun _ => rfl⟩)
  exact h
theorem live_new (w : World) : Calls Try.prog 11 #[.int .i64 1] w (Tell2 w ⟨[0], [0], [0], [0]⟩ 0) := by
  have h := new_ok 1 w (by omega) (by omega)
  rw [step1] at h
  exact h.mono fun e w' ⟨q, he, ho, hb⟩ => ⟨q, he, ho.told, hb⟩

set_option maxHeartbeats 2000000 in
theorem live_yes (w : World) : Calls Try.prog 9 #[] w (Drew (.bool true) w) := by
  go_enter Try.func9, Try.ntmps9
  go_wp2_with fail
  refine (live_new w).mono ?_
  rintro e u1 ⟨q1, rfl, t1, b1⟩
  have S1 := hide (Stand.first b1 t1 (by simp [Few]))
  obtain ⟨h, hh⟩ : ∃ h, Hid (u1.heap.size = h) := ⟨_, rfl⟩
  obtain ⟨A0, A1, A2, A3, n0, n1, n2, n3, c0, c1, c2, c3⟩ := q1
  clear t1 b1
  go_wp2_with fail
  refine (live_take ⟨A0, A1, A2, A3, n0, n1, n2, n3, c0, c1, c2, c3⟩ _ _ S1.out.reads (Nat.le_refl _) S1.out.small).mono ?_
  rintro e u2 ⟨q2, rfl, t2, b2⟩
  have S2 := hide (S1.out.next t2 b2 (by simp [Few]))
  have X2 := hide (S1.out.box.step b2)
  clear t2 b2 S1
  rw [hh.out] at S2 X2 ⊢
  have hc := X2.out.cells
  have hf := X2.out.frozen
  have hl := X2.out.lt
  obtain ⟨A0, A1, A2, A3, n0, n1, n2, n3, c0, c1, c2, c3⟩ := q2
  go_wp2_with fail
  refine (live_retire ⟨A0, A1, A2, A3, n0, n1, n2, n3, c0, c1, c2, c3⟩ _ _ S2.out.reads (Nat.le_refl _) S2.out.small).mono ?_
  rintro e u3 ⟨q3, rfl, t3, b3⟩
  have S3 := hide (S2.out.next t3 b3 (by simp [Few]))
  have X3 := hide (S2.out.box.step b3)
  clear t3 b3 S2 hc hf hl
  have hc := X3.out.cells
  have hf := X3.out.frozen
  have hl := X3.out.lt
  obtain ⟨A0, A1, A2, A3, n0, n1, n2, n3, c0, c1, c2, c3⟩ := q3
  go_wp2_with fail
  refine (live_reclaim ⟨A0, A1, A2, A3, n0, n1, n2, n3, c0, c1, c2, c3⟩ _ _ S3.out.reads (Nat.le_refl _) S3.out.small).mono ?_
  rintro e u4 ⟨q4, rfl, t4, b4⟩
  have S4 := hide (S3.out.next t4 b4 (by simp [Few]))
  have X4 := hide (S3.out.box.step b4)
  clear t4 b4 S3 hc hf hl
  have hc := X4.out.cells
  have hf := X4.out.frozen
  have hl := X4.out.lt
  obtain ⟨A0, A1, A2, A3, n0, n1, n2, n3, c0, c1, c2, c3⟩ := q4
  go_wp2_with fail
  refine (live_again ⟨A0, A1, A2, A3, n0, n1, n2, n3, c0, c1, c2, c3⟩ _ _ S4.out.reads (Nat.le_refl _) S4.out.small).mono ?_
  rintro e u5 ⟨q5, rfl, t5, b5⟩
  have B5 := hide (next_call S4.out.bel (Nat.le_refl _) b5)
  clear t5 b5 S4 hc hf hl
  go_wp2
  go_ret
  exact ⟨rfl, B5.out.alloc B5.out.size _⟩
end Go.Proofs.Ytfdbbfjnianahaa
