/- What Same tells of lists that read the same: of operations, and of numbers. -/
import Derived.Test.YtpldcmhbbhjhgaaWalksA
import Derived.Deep.QuietTactic
import Derived.BigQuiet
namespace Go.Proofs.Ytpldcmhbbhjhgaa
open Go.RowKit
set_option linter.unusedVariables false

theorem eq23 (a b c d e : Int) (w : World) : (Op.equalIn 10000 23 (O5 a b c d e) (O5 a b c d e)).run Try.prog w = .ok true w := by
  have u3 := Try.underlying3
  have a3 := Try.isAgg3
  have z3 := Try.sizeOf3
  rw [show (10000 : Nat) = 9999 + 1 from rfl, Op.equalIn]
  simp only [Sem.run_bind, run_underlying Try.underlying23, Result.andThen_ok]
  go_simp

set_option maxHeartbeats 400000 in
theorem same_yes (A A' : Option Addr) (n c c' B B' : Nat) (zs : List Int) (w : World) (h : Nums w B 1 A n zs) (h' : Nums w B' 1 A' n zs) (hn : n ≤ 65536) :
    Calls Try.prog 17 #[.slice A n c, .slice A' n c'] w (Drew (.bool true) w) := by
  have h0 : (((n : Nat) : Int) != (n : Int)) = false := by simp
  go_enter Try.func17, Try.ntmps17
  go_wp2
  go_loopw [13] (fun i wr => ∃ k q : Nat, k ≤ n ∧ i = .int .i64 k ∧ wr = w.drewN q) (fun i _ => n - (intOf i).toNat)
  case atStart => exact ⟨0, 0, by omega, rfl, rfl⟩
  case round =>
    obtain ⟨k, q, hk, rfl, rfl⟩ := hrel
    by_cases hlt : k < n
    · obtain ⟨b, off, rfl, _, hc⟩ := h.at_ hlt
      obtain ⟨b', off', rfl, _, hc'⟩ := h'.at_ hlt
      generalize zs.getD k 0 = z at hc hc'
      go_wp2
      go_quiet (fail)
      go_wp2
      go_roundw
      case rel => exact ⟨k + 1, _, by omega, by go_num, rfl⟩
      case measure => simp [intOf]; omega
    · go_wp2
      go_ret
      exact ⟨rfl, Below.drewN (Below.refl _ _) _⟩

set_option maxHeartbeats 1000000 in
theorem sameOps_yes (A A' : Option Addr) (n c c' B B' : Nat) (zs : List Int) (w : World) (h : Nums w B 5 A n zs) (h' : Nums w B' 5 A' n zs) (hn : n ≤ 65536) :
    Calls Try.prog 14 #[.slice A n c, .slice A' n c'] w (Drew (.bool true) w) := by
  have h0 : (((n : Nat) : Int) != (n : Int)) = false := by simp
  have he := eq23
  go_enter Try.func14, Try.ntmps14
  go_wp2
  go_loopw [13] (fun i wr => ∃ k q : Nat, k ≤ n ∧ i = .int .i64 k ∧ wr = w.drewN q) (fun i _ => n - (intOf i).toNat)
  case atStart => exact ⟨0, 0, by omega, rfl, rfl⟩
  case round =>
    obtain ⟨k, q, hk, rfl, rfl⟩ := hrel
    by_cases hlt : k < n
    · obtain ⟨b, off, rfl, _, e0, e1, e2, e3, e4⟩ := h.five hlt
      obtain ⟨b', off', rfl, _, e0', e1', e2', e3', e4'⟩ := h'.five hlt
      generalize zs.getD (k * 5) 0 = z0 at e0 e0'
      generalize zs.getD (k * 5 + 1) 0 = z1 at e1 e1'
      generalize zs.getD (k * 5 + 2) 0 = z2 at e2 e2'
      generalize zs.getD (k * 5 + 3) 0 = z3 at e3 e3'
      generalize zs.getD (k * 5 + 4) 0 = z4 at e4 e4'
      go_wp2
      go_quiet (fail)
      go_wp2
      go_roundw
      case rel => exact ⟨k + 1, _, by omega, by go_num, rfl⟩
      case measure => simp [intOf]; omega
    · go_wp2
      go_ret
      exact ⟨rfl, Below.drewN (Below.refl _ _) _⟩
end Go.Proofs.Ytpldcmhbbhjhgaa
