/- What isPinned, isCount, isThread and the two closures tell; slices.IndexFunc and slices.ContainsFunc with each of them. -/
import Derived.Test.YteckldjdkcbkdaaEras
import Derived.Test.YteckldjdkcbkdaaMath
import Derived.Deep.QuietTactic
import Derived.BigQuiet
import Derived.Lib.SliceRun
namespace Go.Proofs.Yteckldjdkcbkdaa
open Go.RowKit
set_option linter.unusedVariables false

set_option maxHeartbeats 400000 in
theorem isPinned_any (x : Int) (w : World) : Calls Try.prog 28 #[.int .i64 x] w fun e w' => e = .returned (.bool (x != -1)) ∧ w = w' := by
  go_enter Try.func28, Try.ntmps28
  go_wp2
  go_ret
  exact ⟨rfl, rfl⟩

set_option maxHeartbeats 400000 in
theorem isCount_yes (n : Int) (w : World) (h1 : 1 ≤ n) (h2 : n ≤ 64) :
    Calls Try.prog 25 #[.int .i64 n] w fun e w' => e = .returned (.bool true) ∧ w = w' := by
  have d1 : decide (1 ≤ n) = true := by simpa using h1
  have d2 : decide (n ≤ 64) = true := by simpa using h2
  go_enter Try.func25, Try.ntmps25
  go_wp2
  go_ret
  exact ⟨rfl, rfl⟩

set_option maxHeartbeats 400000 in
theorem isCount_no (n : Int) (w : World) (h : n < 1 ∨ 64 < n) :
    Calls Try.prog 25 #[.int .i64 n] w fun e w' => e = .returned (.bool false) ∧ w = w' := by
  by_cases c1 : n < 1
  · clear h
    have d1 : decide (1 ≤ n) = false := by simp; omega
    go_enter Try.func25, Try.ntmps25
    go_wp2
    go_ret
    exact ⟨rfl, rfl⟩
  have c2 : 64 < n := by omega
  clear h
  have d1 : decide (1 ≤ n) = true := by simp; omega
  have d2 : decide (n ≤ 64) = false := by simp; omega
  go_enter Try.func25, Try.ntmps25
  go_wp2
  go_ret
  exact ⟨rfl, rfl⟩

set_option maxHeartbeats 400000 in
theorem isThread_yes (t : Int) (A : Option Addr) (n c : Nat) (k : Int) (w : World) (h1 : 0 ≤ k) (h2 : k < (n : Int)) (hn : n ≤ 64) :
    Calls Try.prog 27 #[V2 t A n c, .int .i64 k] w (Drew (.bool true) w) := by
  have d1 : decide (0 ≤ k) = true := by simpa using h1
  have d2 : decide (k < (n : Int)) = true := by simpa using h2
  go_enter Try.func27, Try.ntmps27
  go_wp2
  go_ret
  exact ⟨rfl, (Below.refl _ _).alloc (Nat.le_refl _) _⟩

set_option maxHeartbeats 400000 in
theorem isThread_no (t : Int) (A : Option Addr) (n c : Nat) (k : Int) (w : World) (h : k < 0 ∨ (n : Int) ≤ k) (hn : n ≤ 64) :
    Calls Try.prog 27 #[V2 t A n c, .int .i64 k] w (Drew (.bool false) w) := by
  by_cases c1 : k < 0
  · clear h
    have d1 : decide (0 ≤ k) = false := by simp; omega
    go_enter Try.func27, Try.ntmps27
    go_wp2
    go_ret
    exact ⟨rfl, (Below.refl _ _).alloc (Nat.le_refl _) _⟩
  have c2 : (n : Int) ≤ k := by omega
  clear h
  have d1 : decide (0 ≤ k) = true := by simp; omega
  have d2 : decide (k < (n : Int)) = false := by simp; omega
  go_enter Try.func27, Try.ntmps27
  go_wp2
  go_ret
  exact ⟨rfl, (Below.refl _ _).alloc (Nat.le_refl _) _⟩

set_option maxHeartbeats 400000 in
theorem bad_any (t x : Int) (h : Nat) (w : World) (hc : w.cell? ⟨h, 0, none⟩ = some (.int .i64 t)) (h1 : 0 ≤ t) (h2 : t ≤ 1152921504606846976) :
    Calls Try.prog 33 #[.int .i64 x, .pointer (some ⟨h, 0, none⟩)] w fun e w' => e = .returned (.bool (bad t x)) ∧ w = w' := by
  go_enter Try.func33, Try.ntmps33
  go_wp2_with fail
  refine (isPinned_any _ _).mono ?_
  rintro e w' ⟨rfl, rfl⟩
  obtain ⟨p1, e1⟩ : ∃ p1, Hid ((x != -1) = p1) := ⟨_, rfl⟩
  obtain ⟨p2, e2⟩ : ∃ p2, Hid ((x != t) = p2) := ⟨_, rfl⟩
  have HB : Hid (bad t x = (p1 && p2 && (x != t - 1))) := by show _ = _; unfold bad; rw [e1.out, e2.out]
  rw [e1.out]
  cases p1 with
  | false =>
    go_wp2
    go_ret
    exact ⟨by rw [HB.out]; rfl, rfl⟩
  | true =>
    have e2' := e2.out
    cases p2 with
    | false =>
      go_wp2
      go_ret
      exact ⟨by rw [HB.out]; rfl, rfl⟩
    | true =>
      go_wp2
      go_ret
      exact ⟨by rw [HB.out]; rfl, rfl⟩

set_option maxHeartbeats 400000 in
theorem out_any (t x : Int) (h : Nat) (w : World) (hc : w.cell? ⟨h, 0, none⟩ = some (.int .i64 t)) :
    Calls Try.prog 35 #[.int .i64 x, .pointer (some ⟨h, 0, none⟩)] w fun e w' => e = .returned (.bool (out t x)) ∧ w = w' := by
  go_enter Try.func35, Try.ntmps35
  go_wp2_with fail
  refine (isPinned_any _ _).mono ?_
  rintro e w' ⟨rfl, rfl⟩
  obtain ⟨p1, e1⟩ : ∃ p1, Hid ((x != -1) = p1) := ⟨_, rfl⟩
  have HB : Hid (out t x = (p1 && (x != t))) := by show _ = _; unfold out; rw [e1.out]
  rw [e1.out]
  cases p1 with
  | false =>
    go_wp2
    go_ret
    exact ⟨by rw [HB.out]; rfl, rfl⟩
  | true =>
    go_wp2
    go_ret
    exact ⟨by rw [HB.out]; rfl, rfl⟩

set_option maxHeartbeats 400000 in
theorem index_bad (A : Option Addr) (n c B h : Nat) (t : Int) (zs : List Int) (w : World) (hr : Nums w B 1 A n zs) (hn : n ≤ 64) (hc : Hid (w.cell? ⟨h, 0, none⟩ = some (.int .i64 t))) (h1 : 0 ≤ t) (h2 : t ≤ 1152921504606846976) :
    Calls Try.prog 36 #[.slice A n c, .func (.func 33) #[] #[.pointer (some ⟨h, 0, none⟩)]] w fun e w' => e = .returned (.int .i64 (idxP (bad t) zs 0)) ∧ w = w' := by
  have HL := hide hr.1
  go_enter Try.func36, Try.ntmps36
  go_wp2
  go_loopw [8] (fun i wr => ∃ k : Nat, k ≤ n ∧ i = .int .i64 k ∧ wr = w ∧ Hid (idxP (bad t) zs 0 = idxP (bad t) (zs.drop k) k)) (fun i _ => n - (intOf i).toNat)
  case atStart => exact ⟨0, by omega, rfl, rfl, rfl⟩
  case round =>
    obtain ⟨k, hk, rfl, rfl, HI⟩ := hrel
    by_cases hlt : k < n
    · obtain ⟨b, off, rfl, _, hx⟩ := hr.at_ hlt
      have HX := hide (idxP_next (bad t) zs k (by have := HL.out; omega))
      generalize zs.getD k 0 = z at hx HX
      have HC : Hid (Calls Try.prog 33 #[.int .i64 z, .pointer (some ⟨h, 0, none⟩)] wr fun e w' => e = .returned (.bool (bad t z)) ∧ wr = w') := bad_any t z h _ hc.out h1 h2
      generalize bad t z = q at HX HC
      cases q with
      | true =>
        go_wp2_with (go_at_call 33; refine HC.out.mono ?_; rintro e w' ⟨rfl, rfl⟩)
        go_ret
        exact ⟨by rw [HI.out, HX.out]; rfl, rfl⟩
      | false =>
        go_wp2_with (go_at_call 33; refine HC.out.mono ?_; rintro e w' ⟨rfl, rfl⟩)
        go_roundw
        case rel => exact ⟨k + 1, by omega, by go_num, trivial, by show _ = _; rw [HI.out, HX.out]; rfl⟩
        case measure => simp [intOf]; omega
    · go_wp2
      go_ret
      refine ⟨?_, rfl⟩
      rw [HI.out, List.drop_of_length_le (by have := HL.out; omega)]; rfl

set_option maxHeartbeats 400000 in
theorem has_bad (A : Option Addr) (n c B h : Nat) (t : Int) (zs : List Int) (w : World) (hr : Nums w B 1 A n zs) (hn : n ≤ 64) (hc : Hid (w.cell? ⟨h, 0, none⟩ = some (.int .i64 t))) (h1 : 0 ≤ t) (h2 : t ≤ 1152921504606846976) :
    Calls Try.prog 32 #[.slice A n c, .func (.func 33) #[] #[.pointer (some ⟨h, 0, none⟩)]] w fun e w' => e = .returned (.bool (zs.any (bad t))) ∧ w = w' := by
  have HB := hide (idxP_bool (bad t) zs 0)
  go_enter Try.func32, Try.ntmps32
  go_wp2_with fail
  refine (index_bad _ _ _ _ _ _ _ _ hr hn hc h1 h2).mono ?_
  rintro e w' ⟨rfl, rfl⟩
  generalize idxP (bad t) zs 0 = z at HB
  go_wp2
  go_ret
  exact ⟨congrArg (fun b => Ending.returned (Value.bool b)) HB.out, rfl⟩

set_option maxHeartbeats 400000 in
theorem index_out (A : Option Addr) (n c B h : Nat) (t : Int) (zs : List Int) (w : World) (hr : Nums w B 1 A n zs) (hn : n ≤ 64) (hc : Hid (w.cell? ⟨h, 0, none⟩ = some (.int .i64 t))) :
    Calls Try.prog 36 #[.slice A n c, .func (.func 35) #[] #[.pointer (some ⟨h, 0, none⟩)]] w fun e w' => e = .returned (.int .i64 (idxP (out t) zs 0)) ∧ w = w' := by
  have HL := hide hr.1
  go_enter Try.func36, Try.ntmps36
  go_wp2
  go_loopw [8] (fun i wr => ∃ k : Nat, k ≤ n ∧ i = .int .i64 k ∧ wr = w ∧ Hid (idxP (out t) zs 0 = idxP (out t) (zs.drop k) k)) (fun i _ => n - (intOf i).toNat)
  case atStart => exact ⟨0, by omega, rfl, rfl, rfl⟩
  case round =>
    obtain ⟨k, hk, rfl, rfl, HI⟩ := hrel
    by_cases hlt : k < n
    · obtain ⟨b, off, rfl, _, hx⟩ := hr.at_ hlt
      have HX := hide (idxP_next (out t) zs k (by have := HL.out; omega))
      generalize zs.getD k 0 = z at hx HX
      have HC : Hid (Calls Try.prog 35 #[.int .i64 z, .pointer (some ⟨h, 0, none⟩)] wr fun e w' => e = .returned (.bool (out t z)) ∧ wr = w') := out_any t z h _ hc.out
      generalize out t z = q at HX HC
      cases q with
      | true =>
        go_wp2_with (go_at_call 35; refine HC.out.mono ?_; rintro e w' ⟨rfl, rfl⟩)
        go_ret
        exact ⟨by rw [HI.out, HX.out]; rfl, rfl⟩
      | false =>
        go_wp2_with (go_at_call 35; refine HC.out.mono ?_; rintro e w' ⟨rfl, rfl⟩)
        go_roundw
        case rel => exact ⟨k + 1, by omega, by go_num, trivial, by show _ = _; rw [HI.out, HX.out]; rfl⟩
        case measure => simp [intOf]; omega
    · go_wp2
      go_ret
      refine ⟨?_, rfl⟩
      rw [HI.out, List.drop_of_length_le (by have := HL.out; omega)]; rfl

set_option maxHeartbeats 400000 in
theorem has_out (A : Option Addr) (n c B h : Nat) (t : Int) (zs : List Int) (w : World) (hr : Nums w B 1 A n zs) (hn : n ≤ 64) (hc : Hid (w.cell? ⟨h, 0, none⟩ = some (.int .i64 t))) :
    Calls Try.prog 32 #[.slice A n c, .func (.func 35) #[] #[.pointer (some ⟨h, 0, none⟩)]] w fun e w' => e = .returned (.bool (zs.any (out t))) ∧ w = w' := by
  have HB := hide (idxP_bool (out t) zs 0)
  go_enter Try.func32, Try.ntmps32
  go_wp2_with fail
  refine (index_out _ _ _ _ _ _ _ _ hr hn hc).mono ?_
  rintro e w' ⟨rfl, rfl⟩
  generalize idxP (out t) zs 0 = z at HB
  go_wp2
  go_ret
  exact ⟨congrArg (fun b => Ending.returned (Value.bool b)) HB.out, rfl⟩

end Go.Proofs.Yteckldjdkcbkdaa
