/- What Pin, Unpin and Turn tell of any era. -/
import Derived.Test.YteckldjdkcbkdaaWalksC
namespace Go.Proofs.Yteckldjdkcbkdaa
open Go.RowKit
set_option linter.unusedVariables false

set_option maxHeartbeats 2000000 in
theorem pin_any (t : Int) (A : Option Addr) (n c B : Nat) (zs : List Int) (b : Bool) (k : Int) (w : World) (hr : Reads w B A n c zs) (hB : B ≤ w.heap.size) (hb : Hid (b = true ↔ Ok t zs)) :
    Calls Try.prog 18 #[V2 t A n c, .int .i64 k] w (Tell2 w (pinT b t zs k) (pinZ b t zs k) (.int .i64 (pinE b zs k))) := by
  have T0 := hide (Two.first w (C2 t A n c))
  have HL := hide hr.len
  have R0 := hide (hr.below T0.out.bel hB)
  clear hr
  go_enter Try.func18, Try.ntmps18
  go_wp2_with fail
  refine (mayBe_any t A n c B zs b _ R0.out (Nat.le_trans hB T0.out.bel.size) hb).mono ?_
  rintro e u1 ⟨rfl, b1⟩
  have T1 := hide (T0.out.step b1)
  have R1 := hide (R0.out.below b1 (Nat.le_trans hB T0.out.bel.size))
  clear b1 T0 R0
  cases b with
  | false =>
    have E1 := hide (pinE_bad (b := false) (zs := zs) (k := k) (.inl rfl))
    have E2 := hide (pin_no (b := false) (t := t) (zs := zs) (k := k) E1.out)
    clear hb
    have HE := hide (Two.none T1.out)
    obtain ⟨y0, f0, y1, f1⟩ := zero_cells T1.out.res
    go_wp2
    exact bodyPost_ret (results_row_one rfl _ _ (w.heap.size + 1) 24 _ (0, 0) _ rfl HE.out.1 Try.underlying24 rfl Try.size24) rfl ⟨none, 0, 0, by rw [E1.out, E2.out.1]; rfl, by rw [E2.out.2]; exact HE.out.2.1, HE.out.2.2⟩

  | true =>
    have HO := hide (hb.out.1 rfl)
    have hn : n ≤ 64 := by have := HO.out.2.1; have := HL.out; omega
    clear hb
    have hc := T1.out.box.cells
    have hl := T1.out.box.lt
    have s1 := T1.out.bel.size
    by_cases hk : 0 ≤ k ∧ k < (n : Int)
    case neg =>
      have E1 := hide (pinE_bad (b := true) (zs := zs) (k := k) (by have := HL.out; omega))
      have E2 := hide (pin_no (b := true) (t := t) (zs := zs) (k := k) E1.out)
      go_wp2_with fail
      refine (isThread_no t A n c k _ (by omega) hn).mono ?_
      rintro e u2 ⟨rfl, b2⟩
      have T2 := hide (T1.out.step b2)
      clear b2 hk hc hl T1
      have HE := hide (Two.none T2.out)
      obtain ⟨y0, f0, y1, f1⟩ := zero_cells T2.out.res
      go_wp2
      exact bodyPost_ret (results_row_one rfl _ _ (w.heap.size + 1) 24 _ (0, 0) _ rfl HE.out.1 Try.underlying24 rfl Try.size24) rfl ⟨none, 0, 0, by rw [E1.out, E2.out.1]; rfl, by rw [E2.out.2]; exact HE.out.2.1, HE.out.2.2⟩

    obtain ⟨X, rfl⟩ : ∃ X : Nat, k = (X : Int) := ⟨k.toNat, by omega⟩
    have hX : X < n := by omega
    go_wp2_with fail
    refine (isThread_yes t A n c _ _ (by omega) (by omega) hn).mono ?_
    rintro e u2 ⟨rfl, b2⟩
    have T2 := hide (T1.out.step b2)
    have R2 := hide (R1.out.below b2 (Nat.le_trans hB s1))
    clear b2 hk hc hl T1 R1 s1
    have hc := T2.out.box.cells
    have hl := T2.out.box.lt
    have s1 := T2.out.bel.size
    obtain ⟨bA, oA, rfl, hbA, hx⟩ := R2.out.1.at_ hX
    obtain ⟨z, EZ⟩ : ∃ z, Hid (zs.getD X 0 = z) := ⟨_, rfl⟩
    rw [EZ.out] at hx
    go_wp2_with fail
    refine (isPinned_any _ _).mono ?_
    rintro e w' ⟨rfl, rfl⟩
    by_cases hz : z = -1
    · subst hz
      have E1 := hide (pinE_ok (b := true) (zs := zs) (X := X) rfl (by have := HL.out; omega) EZ.out)
      have E2 := hide (pin_yes (b := true) (t := t) (zs := zs) (X := X) E1.out)
      rw [show ((-1 : Int) != -1) = false from rfl]
      go_wp2_with fail
      refine (withPin_any t (some ⟨bA, oA, none⟩) n c B X t zs _ R2.out (Nat.le_trans hB s1) hX (by omega)).mono ?_
      rintro e u3 ⟨A3, n3, c3, rfl, r3, b3⟩
      have T3 := hide (T2.out.step b3)
      have HE := hide (T3.out.tell (r3.less T2.out.size) t)
      obtain ⟨y0, f0, y1, f1⟩ := zero_cells T3.out.res
      have hl3 := T3.out.res.lt
      clear r3 b3 hc hl
      go_wp2
      exact bodyPost_ret (results_row_one rfl _ _ (w.heap.size + 1) 24 _ (0, 0) _ rfl HE.out.1 Try.underlying24 rfl Try.size24) rfl ⟨A3, n3, c3, by rw [E1.out, E2.out.1]; rfl, by rw [E2.out.2]; exact HE.out.2.1, HE.out.2.2⟩

    · have E1 := hide (pinE_taken (b := true) (zs := zs) (X := X) (by rw [EZ.out]; exact hz))
      have E2 := hide (pin_no (b := true) (t := t) (zs := zs) (k := (X : Int)) E1.out)
      rw [show (z != -1) = true by simpa using hz]
      clear hz hc hl
      have HE := hide (Two.none T2.out)
      obtain ⟨y0, f0, y1, f1⟩ := zero_cells T2.out.res
      go_wp2
      exact bodyPost_ret (results_row_one rfl _ _ (w.heap.size + 1) 24 _ (0, 0) _ rfl HE.out.1 Try.underlying24 rfl Try.size24) rfl ⟨none, 0, 0, by rw [E1.out, E2.out.1]; rfl, by rw [E2.out.2]; exact HE.out.2.1, HE.out.2.2⟩

set_option maxHeartbeats 2000000 in
theorem unpin_any (t : Int) (A : Option Addr) (n c B : Nat) (zs : List Int) (b : Bool) (k : Int) (w : World) (hr : Reads w B A n c zs) (hB : B ≤ w.heap.size) (hb : Hid (b = true ↔ Ok t zs)) :
    Calls Try.prog 20 #[V2 t A n c, .int .i64 k] w (Tell2 w (unpT b t zs k) (unpZ b zs k) (.int .i64 (unpE b zs k))) := by
  have T0 := hide (Two.first w (C2 t A n c))
  have HL := hide hr.len
  have R0 := hide (hr.below T0.out.bel hB)
  clear hr
  go_enter Try.func20, Try.ntmps20
  go_wp2_with fail
  refine (mayBe_any t A n c B zs b _ R0.out (Nat.le_trans hB T0.out.bel.size) hb).mono ?_
  rintro e u1 ⟨rfl, b1⟩
  have T1 := hide (T0.out.step b1)
  have R1 := hide (R0.out.below b1 (Nat.le_trans hB T0.out.bel.size))
  clear b1 T0 R0
  cases b with
  | false =>
    have E1 := hide (unpE_bad (b := false) (zs := zs) (k := k) (.inl rfl))
    have E2 := hide (unp_no (b := false) (t := t) (zs := zs) (k := k) (by rw [E1.out]; decide))
    clear hb
    have HE := hide (Two.none T1.out)
    obtain ⟨y0, f0, y1, f1⟩ := zero_cells T1.out.res
    go_wp2
    exact bodyPost_ret (results_row_one rfl _ _ (w.heap.size + 1) 24 _ (0, 0) _ rfl HE.out.1 Try.underlying24 rfl Try.size24) rfl ⟨none, 0, 0, by rw [E1.out, E2.out.1]; rfl, by rw [E2.out.2]; exact HE.out.2.1, HE.out.2.2⟩

  | true =>
    have HO := hide (hb.out.1 rfl)
    have hn : n ≤ 64 := by have := HO.out.2.1; have := HL.out; omega
    clear hb
    have hc := T1.out.box.cells
    have hl := T1.out.box.lt
    have s1 := T1.out.bel.size
    by_cases hk : 0 ≤ k ∧ k < (n : Int)
    case neg =>
      have E1 := hide (unpE_bad (b := true) (zs := zs) (k := k) (by have := HL.out; omega))
      have E2 := hide (unp_no (b := true) (t := t) (zs := zs) (k := k) (by rw [E1.out]; decide))
      go_wp2_with fail
      refine (isThread_no t A n c k _ (by omega) hn).mono ?_
      rintro e u2 ⟨rfl, b2⟩
      have T2 := hide (T1.out.step b2)
      clear b2 hk hc hl T1
      have HE := hide (Two.none T2.out)
      obtain ⟨y0, f0, y1, f1⟩ := zero_cells T2.out.res
      go_wp2
      exact bodyPost_ret (results_row_one rfl _ _ (w.heap.size + 1) 24 _ (0, 0) _ rfl HE.out.1 Try.underlying24 rfl Try.size24) rfl ⟨none, 0, 0, by rw [E1.out, E2.out.1]; rfl, by rw [E2.out.2]; exact HE.out.2.1, HE.out.2.2⟩

    obtain ⟨X, rfl⟩ : ∃ X : Nat, k = (X : Int) := ⟨k.toNat, by omega⟩
    have hX : X < n := by omega
    go_wp2_with fail
    refine (isThread_yes t A n c _ _ (by omega) (by omega) hn).mono ?_
    rintro e u2 ⟨rfl, b2⟩
    have T2 := hide (T1.out.step b2)
    have R2 := hide (R1.out.below b2 (Nat.le_trans hB s1))
    clear b2 hk hc hl T1 R1 s1
    have hc := T2.out.box.cells
    have hl := T2.out.box.lt
    have s1 := T2.out.bel.size
    obtain ⟨bA, oA, rfl, hbA, hx⟩ := R2.out.1.at_ hX
    obtain ⟨z, EZ⟩ : ∃ z, Hid (zs.getD X 0 = z) := ⟨_, rfl⟩
    rw [EZ.out] at hx
    go_wp2_with fail
    refine (isPinned_any _ _).mono ?_
    rintro e w' ⟨rfl, rfl⟩
    by_cases hz : z = -1
    · subst hz
      have E1 := hide (unpE_none (b := true) (zs := zs) (X := X) rfl (by have := HL.out; omega) EZ.out)
      have E2 := hide (unp_no (b := true) (t := t) (zs := zs) (k := (X : Int)) (by rw [E1.out]; decide))
      rw [show ((-1 : Int) != -1) = false from rfl]
      clear hc hl
      have HE := hide (Two.none T2.out)
      obtain ⟨y0, f0, y1, f1⟩ := zero_cells T2.out.res
      go_wp2
      exact bodyPost_ret (results_row_one rfl _ _ (w.heap.size + 1) 24 _ (0, 0) _ rfl HE.out.1 Try.underlying24 rfl Try.size24) rfl ⟨none, 0, 0, by rw [E1.out, E2.out.1]; rfl, by rw [E2.out.2]; exact HE.out.2.1, HE.out.2.2⟩

    · have E1 := hide (unpE_ok (b := true) (zs := zs) (X := X) rfl (by have := HL.out; omega) (by rw [EZ.out]; exact hz))
      have E2 := hide (unp_yes (b := true) (t := t) (zs := zs) (X := X) E1.out)
      rw [show (z != -1) = true by simpa using hz]
      clear hz
      go_wp2_with fail
      refine (withPin_any t (some ⟨bA, oA, none⟩) n c B X (-1) zs _ R2.out (Nat.le_trans hB s1) hX (by omega)).mono ?_
      rintro e u3 ⟨A3, n3, c3, rfl, r3, b3⟩
      have T3 := hide (T2.out.step b3)
      have HE := hide (T3.out.tell (r3.less T2.out.size) t)
      obtain ⟨y0, f0, y1, f1⟩ := zero_cells T3.out.res
      have hl3 := T3.out.res.lt
      clear r3 b3 hc hl
      go_wp2
      exact bodyPost_ret (results_row_one rfl _ _ (w.heap.size + 1) 24 _ (0, 0) _ rfl HE.out.1 Try.underlying24 rfl Try.size24) rfl ⟨A3, n3, c3, by rw [E1.out, E2.out.1]; rfl, by rw [E2.out.2]; exact HE.out.2.1, HE.out.2.2⟩


end Go.Proofs.Yteckldjdkcbkdaa
