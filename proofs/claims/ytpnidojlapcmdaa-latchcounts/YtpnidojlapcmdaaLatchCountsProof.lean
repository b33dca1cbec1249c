/- As often as it was latched and freed its version is more, for any word and any number of times; no conditions. (The statement tendrillaw08.LatchCounts.) -/
import Derived.Test.YtpnidojlapcmdaaRows
import Derived.Test.YtpnidojlapcmdaaWalks
import Derived.Test.YtpnidojlapcmdaaFrame
import Derived.WalkKit
namespace Go.Proofs.Ytpnidojlapcmdaa.latchCounts
open Go.Joins Go.ChangeShapes Go.WideShapes Go.ChangeAt Go.RowKit Go.Deep
set_option linter.unusedVariables false

set_option maxRecDepth 100000 in
set_option maxHeartbeats 3000000 in
theorem walk (a0 : Int) (a1 : Int) (w : World) (w0 : (Lit.int .i64 a0).wf = true) (w1 : (Lit.int .i64 a1).wf = true) :
    Calls Try.prog 7 #[.int .i64 a0, .int .i64 a1] w fun e w' => e = .returned (.bool true) ∧ w = w' := by
  by_cases c1 : a0 < 0
  · skip
    go_enter Try.func7, Try.ntmps7
    go_wp2_with fail
    refine (live_yes _).mono ?_
    rintro e w' ⟨rfl, rfl⟩
    go_wp2
    go_ret
    exact ⟨rfl, rfl⟩
  by_cases c2 : 2305843009213693952 < a0
  · have d1 : decide (a0 < 0) = false := by rw [decide_eq_false_iff_not]; exact c1
    go_enter Try.func7, Try.ntmps7
    go_wp2_with fail
    refine (live_yes _).mono ?_
    rintro e w' ⟨rfl, rfl⟩
    go_wp2
    go_ret
    exact ⟨rfl, rfl⟩
  have d1 : decide (a0 < 0) = false := by rw [decide_eq_false_iff_not]; exact c1
  have d2 : decide (2305843009213693952 < a0) = false := by rw [decide_eq_false_iff_not]; exact c2
  have p0 : 0 ≤ a0 := by omega
  have p1 : a0 ≤ 2305843009213693952 := by omega
  clear c1 c2
  by_cases c3 : a0 % 2 = 1
  · skip
    go_enter Try.func7, Try.ntmps7
    go_wp2_with fail
    refine (live_yes _).mono ?_
    rintro e w' ⟨rfl, rfl⟩
    go_wp2
    go_ret
    exact ⟨rfl, rfl⟩
  have h3 : a0 % 2 = 0 := by omega
  clear c3
  by_cases c4 : a1 < 0
  · skip
    go_enter Try.func7, Try.ntmps7
    go_wp2_with fail
    refine (live_yes _).mono ?_
    rintro e w' ⟨rfl, rfl⟩
    go_wp2
    go_ret
    exact ⟨rfl, rfl⟩
  by_cases c5 : 50 < a1
  · have d3 : decide (a1 < 0) = false := by rw [decide_eq_false_iff_not]; exact c4
    go_enter Try.func7, Try.ntmps7
    go_wp2_with fail
    refine (live_yes _).mono ?_
    rintro e w' ⟨rfl, rfl⟩
    go_wp2
    go_ret
    exact ⟨rfl, rfl⟩
  have d3 : decide (a1 < 0) = false := by rw [decide_eq_false_iff_not]; exact c4
  have d4 : decide (50 < a1) = false := by rw [decide_eq_false_iff_not]; exact c5
  obtain ⟨m, rfl⟩ := Int.eq_ofNat_of_zero_le (show 0 ≤ a1 by omega)
  have hm : m ≤ 50 := by omega
  have d5 : ((a0 % 2 : Int) == 1) = false := by rw [beq_eq_false_iff_ne]; omega
  have H3 := hide h3
  clear c4 c5 h3
  go_enter Try.func7, Try.ntmps7
  go_wp2_with fail
  refine (live_yes _).mono ?_
  rintro e w' ⟨rfl, rfl⟩
  go_wp2
  go_loopw [33, 5] (fun i v wr => ∃ k : Nat, k ≤ m ∧ i = .int .i64 k ∧ v = .int .i64 (a0 + 2 * k) ∧ wr = w) (fun i _ _ => m - (intOf i).toNat)
  case atStart => exact ⟨0, by omega, rfl, by simp, rfl⟩
  case round =>
    obtain ⟨k, hk, rfl, rfl, rfl⟩ := hrel
    by_cases hlt : k < m
    · skip
      go_wp2_with fail
      refine (tri_E _ _ (by omega) (by omega) (by have := H3.out; omega)).mono ?_
      rintro e w' ⟨rfl, rfl⟩
      go_wp2_with fail
      refine (free_H _ _ (by omega) (by omega) (by have := H3.out; omega)).mono ?_
      rintro e w' ⟨rfl, rfl⟩
      go_wp2
      go_roundw
      case rel => exact ⟨k + 1, by omega, by go_num, by go_num, trivial⟩
      case measure => simp [intOf]; omega
    · obtain rfl : k = m := by omega
      have e1 : ((a0 + 2 * (k : Int)) / 2 == a0 / 2 + (k : Int)) = true := by rw [beq_iff_eq]; omega
      go_wp2_with fail
      refine (ver_E _ _ (by omega) (by omega) (by have := H3.out; omega)).mono ?_
      rintro e w' ⟨rfl, rfl⟩
      go_wp2_with fail
      refine (ver_E _ _ (by omega) (by omega) (by have := H3.out; omega)).mono ?_
      rintro e w' ⟨rfl, rfl⟩
      go_wp2
      go_ret
      exact ⟨rfl, rfl⟩

theorem lifted (os : Os) (started : os.Started) (H : Type) (enc : TypeId × Value → H) :
    ReturnsInHanded {} Try.checked os 7 .any (Rows.latchCountsSpec.pre6 enc Try.prog Try.f7 Rows.latchCountsRow.domain false) (Rows.latchCountsSpec.post enc Try.prog Try.f7 false true false false) := by
  refine returnsInHanded_of_change (C := Try.checked) own started (by kernel_rfl) Try.func7
    (ChangeSpec.witness6 (enc := enc) (C := Try.checked) false ⟨#[], #[.int .i64 0, .int .i64 0], []⟩ 8 (by kernel_rfl) (by kernel_rfl) (by kernel_rfl) (by kernel_rfl)) ?_
  intro W base args ds gs before hval0 hW hcnd _
  have hval : ∀ (j : Nat) t v, Try.f7.params[j]? = some t → args[j]? = some v → Value.okWide Try.prog W .any base t v := hval0
  have hW' := hW
  obtain ⟨p, q, hA0, hV, rfl, hfz, hnd⟩ := hW
  have hA : DataW.TrodAll enc Try.prog W 0 (fun _ => true) true Try.f7.params.toList args.toList ds p := hA0
  rw [Try.params7] at hA hval
  obtain ⟨x0, vs0, d0, ds0, p0, q0, hargs, rfl, rfl, h0, r0⟩ := trodAll_cons hA
  obtain ⟨x1, vs1, d1, ds1, p1, q1, rfl, rfl, rfl, h1, r1⟩ := trodAll_cons r0
  obtain ⟨rfl, rfl, rfl⟩ := trodAll_nil r1
  obtain rfl : args = #[x0, x1] := by cases args; simp_all
  obtain ⟨rfl, rfl⟩ := trodVars_none hV

  obtain ⟨a0, rfl, rfl, rfl, w0⟩ := open_int Try.underlying3 (hval 0 3 x0 rfl rfl) h0
  obtain ⟨a1, rfl, rfl, rfl, w1⟩ := open_int Try.underlying3 (hval 1 3 x1 rfl rfl) h1
  clear hA0 hval0
  refine (walk a0 a1 W w0 w1).mono fun e W' ⟨he, hw⟩ => ?_
  subst he
  subst hw
  have bel := Below.refl W.heap.size W
  exact ⟨_, rfl, _, _, _, [], _, [], hW', trodAll_mk1 (shut_bool Try.underlying4 _), (trodAll_cons_mk (shut_int Try.underlying3 w0) (trodAll_cons_mk (shut_int Try.underlying3 w1) trodAll_mk0)), rfl, bel.frame _, fun h => by cases h⟩

theorem over : Rows.latchCountsRow.holds Try.pinned (OpenSpec.ofChange Rows.latchCountsSpec) :=
  OpenClaim.holds_of_wide 7 Try.f7 rfl rfl rfl rfl rfl rfl rfl ⟨rfl, rfl, rfl, rfl, rfl⟩ rfl rfl rfl rfl rfl (by kernel_rfl) Try.func7 (by kernel_rfl)
    (of_decide_eq_true (by kernel_rfl)) (by unfold Func.isWrapper; first | (rw [if_pos (by decide +kernel)]; kernel_rfl) | (rw [if_neg (by decide +kernel)]; exact ⟨rfl, rfl⟩))
    (fun os started H enc _ => lifted os started H enc)

end Go.Proofs.Ytpnidojlapcmdaa.latchCounts

namespace Go.Proofs.Ytpnidojlapcmdaa
/-- The statement. -/
theorem latchCounts_holds : Rows.LatchCountsSaid := latchCounts.over
#print axioms latchCounts_holds
end Go.Proofs.Ytpnidojlapcmdaa
