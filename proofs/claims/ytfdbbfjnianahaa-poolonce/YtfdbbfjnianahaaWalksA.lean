/- What isSize, isSlot, isGen and slotMayBe tell. -/
import Derived.Test.YtfdbbfjnianahaaTag
import Derived.Test.YtfdbbfjnianahaaMath
namespace Go.Proofs.Ytfdbbfjnianahaa
open Go.RowKit
set_option linter.unusedVariables false

set_option maxHeartbeats 400000 in
theorem isSize_yes (n : Int) (w : World) (h1 : 1 ≤ n) (h2 : n ≤ 64) :
    Calls Try.prog 26 #[.int .i64 n] w fun e w' => e = .returned (.bool true) ∧ w = w' := by
  have d1 : decide (1 ≤ n) = true := by simpa using h1
  have d2 : decide (n ≤ 64) = true := by simpa using h2
  go_enter Try.func26, Try.ntmps26
  go_wp2
  go_ret
  exact ⟨rfl, rfl⟩

set_option maxHeartbeats 400000 in
theorem isSize_no (n : Int) (w : World) (h : n < 1 ∨ 64 < n) :
    Calls Try.prog 26 #[.int .i64 n] w fun e w' => e = .returned (.bool false) ∧ w = w' := by
  by_cases c1 : n < 1
  · clear h
    have d1 : decide (1 ≤ n) = false := by simp; omega
    go_enter Try.func26, Try.ntmps26
    go_wp2
    go_ret
    exact ⟨rfl, rfl⟩
  have c2 : 64 < n := by omega
  clear h
  have d1 : decide (1 ≤ n) = true := by simp; omega
  have d2 : decide (n ≤ 64) = false := by simp; omega
  go_enter Try.func26, Try.ntmps26
  go_wp2
  go_ret
  exact ⟨rfl, rfl⟩

set_option maxHeartbeats 400000 in
theorem isSlot_yes (A0 A1 A2 A3 : Option Addr) (n0 n1 n2 n3 c0 c1 c2 c3 : Nat) (k : Int) (w : World) (h1 : 0 ≤ k) (h2 : k < (n0 : Int)) (hn : n0 ≤ 200) :
    Calls Try.prog 33 #[V4 A0 A1 A2 A3 n0 n1 n2 n3 c0 c1 c2 c3, .int .i64 k] w (Drew (.bool true) w) := by
  have d1 : decide (0 ≤ k) = true := by simpa using h1
  have d2 : decide (k < (n0 : Int)) = true := by simpa using h2
  go_enter Try.func33, Try.ntmps33
  go_wp2
  go_ret
  exact ⟨rfl, (Below.refl _ _).alloc (Nat.le_refl _) _⟩

set_option maxHeartbeats 400000 in
theorem isSlot_no (A0 A1 A2 A3 : Option Addr) (n0 n1 n2 n3 c0 c1 c2 c3 : Nat) (k : Int) (w : World) (h : k < 0 ∨ (n0 : Int) ≤ k) (hn : n0 ≤ 200) :
    Calls Try.prog 33 #[V4 A0 A1 A2 A3 n0 n1 n2 n3 c0 c1 c2 c3, .int .i64 k] w (Drew (.bool false) w) := by
  by_cases c1 : k < 0
  · clear h
    have d1 : decide (0 ≤ k) = false := by simp; omega
    go_enter Try.func33, Try.ntmps33
    go_wp2
    go_ret
    exact ⟨rfl, (Below.refl _ _).alloc (Nat.le_refl _) _⟩
  have c2 : (n0 : Int) ≤ k := by omega
  clear h
  have d1 : decide (0 ≤ k) = true := by simp; omega
  have d2 : decide (k < (n0 : Int)) = false := by simp; omega
  go_enter Try.func33, Try.ntmps33
  go_wp2
  go_ret
  exact ⟨rfl, (Below.refl _ _).alloc (Nat.le_refl _) _⟩

set_option maxHeartbeats 400000 in
theorem isGen_yes (a b : Int) (w : World) (h1 : 0 ≤ a) (h2 : a ≤ 1023) (h3 : 0 ≤ b) (h4 : b ≤ 1099511627775) :
    Calls Try.prog 35 #[.int .i64 a, .int .i64 b] w fun e w' => e = .returned (.bool true) ∧ w = w' := by
  go_enter Try.func35, Try.ntmps35
  go_wp2_with fail
  refine (pack_ok _ _ _ h1 h2 h3 h4).mono ?_
  rintro e w' ⟨rfl, rfl⟩
  go_wp2
  go_ret
  exact ⟨rfl, rfl⟩

set_option maxHeartbeats 400000 in
theorem isGen_no (a b : Int) (w : World) (h : Hid (a < 0 ∨ 1024 ≤ a ∨ b < 0 ∨ 1099511627776 ≤ b)) :
    Calls Try.prog 35 #[.int .i64 a, .int .i64 b] w fun e w' => e = .returned (.bool false) ∧ w = w' := by
  go_enter Try.func35, Try.ntmps35
  go_wp2_with fail
  refine (pack_no _ _ _ h.out).mono ?_
  rintro e w' ⟨rfl, rfl⟩
  go_wp2
  go_ret
  exact ⟨rfl, rfl⟩


set_option maxHeartbeats 1000000 in
theorem slotMayBe_any (b0 o0 b1 o1 b2 o2 : Nat) (A3 : Option Addr) (n0 n3 c0 c1 c2 c3 k : Nat) (g s z : Int) (b : Bool) (w : World) (h0 : b0 < w.heap.size) (h1 : b1 < w.heap.size) (h2 : b2 < w.heap.size)
    (hk : k < n0) (hn : n0 ≤ 64)
    (hg : w.cell? ⟨b0, o0 + k, none⟩ = some (.int .i64 g)) (hs : w.cell? ⟨b1, o1 + k, none⟩ = some (.int .i64 s)) (hz : w.cell? ⟨b2, o2 + k, none⟩ = some (.int .i64 z)) (hb : Hid (b = true ↔ SlotOk g s z)) :
    Calls Try.prog 36 #[V4 (some ⟨b0, o0, none⟩) (some ⟨b1, o1, none⟩) (some ⟨b2, o2, none⟩) A3 n0 n0 n0 n3 c0 c1 c2 c3, .int .i64 (k : Int)] w (Drew (.bool b) w) := by
  have HB := hide ((Below.refl w.heap.size w).alloc (Nat.le_refl _) (.cells (C4 (some ⟨b0, o0, none⟩) (some ⟨b1, o1, none⟩) (some ⟨b2, o2, none⟩) A3 n0 n0 n0 n3 c0 c1 c2 c3) 24))
  by_cases hgen : 0 ≤ g ∧ g < 1099511627776
  · obtain ⟨hg1, hg2⟩ := hgen
    by_cases s0 : s = 0
    · subst s0
      obtain rfl : b = (z == 0) := by have := hb.out; simp only [SlotOk] at this; cases b <;> simp at this ⊢ <;> omega
      go_enter Try.func36, Try.ntmps36
      go_wp2_with fail
      refine (isGen_yes _ _ _ (by omega) (by omega) (by omega) (by omega)).mono ?_
      rintro e w' ⟨rfl, rfl⟩
      go_wp2
      go_ret
      exact ⟨rfl, HB.out⟩
    by_cases s1 : s = 1
    · subst s1
      obtain rfl : b = (z == 0) := by have := hb.out; simp only [SlotOk] at this; cases b <;> simp at this ⊢ <;> omega
      go_enter Try.func36, Try.ntmps36
      go_wp2_with fail
      refine (isGen_yes _ _ _ (by omega) (by omega) (by omega) (by omega)).mono ?_
      rintro e w' ⟨rfl, rfl⟩
      go_wp2
      go_ret
      exact ⟨rfl, HB.out⟩
    by_cases s2 : s = 2
    · subst s2
      obtain rfl : b = true := by have := hb.out; simp only [SlotOk] at this; cases b <;> simp at this ⊢; omega
      go_enter Try.func36, Try.ntmps36
      go_wp2_with fail
      refine (isGen_yes _ _ _ (by omega) (by omega) (by omega) (by omega)).mono ?_
      rintro e w' ⟨rfl, rfl⟩
      go_wp2
      go_ret
      exact ⟨rfl, HB.out⟩
    · obtain rfl : b = false := by have := hb.out; simp only [SlotOk] at this; cases b <;> simp at this ⊢; omega
      have t0 : (s == 0) = false := by simpa using s0
      have t1 : (s == 1) = false := by simpa using s1
      have t2 : (s == 2) = false := by simpa using s2
      clear s0 s1 s2
      go_enter Try.func36, Try.ntmps36
      go_wp2_with fail
      refine (isGen_yes _ _ _ (by omega) (by omega) (by omega) (by omega)).mono ?_
      rintro e w' ⟨rfl, rfl⟩
      go_wp2
      go_ret
      exact ⟨rfl, HB.out⟩
  · obtain rfl : b = false := by have := hb.out; simp only [SlotOk] at this; cases b <;> simp at this ⊢; omega
    have HG : Hid ((k : Int) < 0 ∨ 1024 ≤ (k : Int) ∨ g < 0 ∨ 1099511627776 ≤ g) := by show _ ∨ _; omega
    clear hgen
    go_enter Try.func36, Try.ntmps36
    go_wp2_with fail
    refine (isGen_no _ _ _ HG).mono ?_
    rintro e w' ⟨rfl, rfl⟩
    go_wp2
    go_ret
    exact ⟨rfl, HB.out⟩

end Go.Proofs.Ytfdbbfjnianahaa
