/- Who tries, and is told true, holds it alone till it is freed, and then it has another version, for any word and any number of tries; no conditions. (The statement tendrillaw08.LatchAlone.) -/
import Derived.Test.YtpnidojlapcmdaaRows
import Derived.Test.YtpnidojlapcmdaaWalks
import Derived.Test.YtpnidojlapcmdaaFrame
import Derived.WalkKit
namespace Go.Proofs.Ytpnidojlapcmdaa.latchAlone
open Go.Joins Go.ChangeShapes Go.WideShapes Go.ChangeAt Go.RowKit Go.Deep
set_option linter.unusedVariables false
theorem byte_bounds {a : Int} (h : (Lit.int .u8 a).wf = true) : 0 ≤ a ∧ a ≤ 255 := by
  have h1 : IntKind.u8.min = 0 := by decide
  have h2 : IntKind.u8.max = 255 := by decide
  have h3 : IntKind.u8.min ≤ a ∧ a ≤ IntKind.u8.max := by simpa [Lit.wf] using h
  omega

theorem held_even (v : Int) (u : World) (h1 : 0 ≤ v) (h2 : v ≤ 4611686018427387904) (h3 : v % 2 = 0) :
    Calls Try.prog 12 #[.int .i64 v] u fun e u' => e = .returned (.bool false) ∧ u = u' := by
  by_cases h : v = 4611686018427387904
  · exact held_L v u h
  · exact held_E v u h1 (by omega) h3

theorem ver_even (v : Int) (u : World) (h1 : 0 ≤ v) (h2 : v ≤ 4611686018427387904) (h3 : v % 2 = 0) :
    Calls Try.prog 14 #[.int .i64 v] u fun e u' => e = .returned (.int .i64 (v / 2)) ∧ u = u' := by
  by_cases h : v = 4611686018427387904
  · subst h; exact ver_L _ u rfl
  · exact ver_E v u h1 (by omega) h3

theorem chk_yes (v : Int) (u : World) (h1 : 0 ≤ v) (h2 : v ≤ 4611686018427387904) :
    Calls Try.prog 10 #[.int .i64 v] u fun e u' => e = .returned (.int .i64 0) ∧ u = u' := by
  by_cases h : v = 4611686018427387904
  · exact chk_L v u h
  by_cases h3 : v % 2 = 1
  · exact chk_H v u h1 h2 h3
  · exact chk_E v u h1 (by omega) (by omega)

set_option maxRecDepth 100000 in
set_option maxHeartbeats 3000000 in
theorem walk (a0 : Int) (a1 : Int) (w : World) (w0 : (Lit.int .i64 a0).wf = true) (w1 : (Lit.int .u8 a1).wf = true) :
    Calls Try.prog 5 #[.int .i64 a0, .int .u8 a1] w fun e w' => e = .returned (.bool true) ∧ w = w' := by
  rcases four a0 with h | ⟨h1, h2, h3⟩ | ⟨h1, h2, h3⟩ | h
  · have HN := hide h
    clear h
    go_enter Try.func5, Try.ntmps5
    go_wp2_with fail
    refine (live_yes _).mono ?_
    rintro e w' ⟨rfl, rfl⟩
    go_wp2_with fail
    refine (tri_N _ _ HN.out).mono ?_
    rintro e w' ⟨rfl, rfl⟩
    go_wp2
    go_ret
    exact ⟨rfl, rfl⟩
  · skip
    go_enter Try.func5, Try.ntmps5
    go_wp2_with fail
    refine (live_yes _).mono ?_
    rintro e w' ⟨rfl, rfl⟩
    go_wp2_with fail
    refine (tri_H _ _ h1 h2 h3).mono ?_
    rintro e w' ⟨rfl, rfl⟩
    go_wp2
    go_ret
    exact ⟨rfl, rfl⟩
  · skip
    have e1 : (a0 + 1 + 1) / 2 = a0 / 2 + 1 := by omega
    have e2 : ((a0 + 2) / 2 == a0 / 2 + 1) = true := by rw [beq_iff_eq]; omega
    have e3 : ((a0 + 1 + 1) / 2 == a0 / 2 + 1) = true := by rw [beq_iff_eq]; omega
    obtain ⟨m, hm, hm5⟩ : ∃ m : Nat, Int.tmod a1 5 = m ∧ m < 5 := by
      have := byte_bounds w1
      exact ⟨(a1 % 5).toNat, by rw [Int.tmod_eq_emod_of_nonneg (by omega)]; omega, by omega⟩
    have hm' : a1 % 5 = m := by
      have := byte_bounds w1
      rw [← Int.tmod_eq_emod_of_nonneg (by omega)]; exact hm
    have hb1 := (byte_bounds w1).1
    have hb2 := (byte_bounds w1).2
    go_enter Try.func5, Try.ntmps5
    go_wp2_with fail
    refine (live_yes _).mono ?_
    rintro e w' ⟨rfl, rfl⟩
    go_wp2_with fail
    refine (tri_E _ _ h1 h2 h3).mono ?_
    rintro e w' ⟨rfl, rfl⟩
    go_wp2_with fail
    refine (held_H _ _ (by omega) (by omega) (by omega)).mono ?_
    rintro e w' ⟨rfl, rfl⟩
    go_wp2_with fail
    refine (held_E _ _ h1 h2 h3).mono ?_
    rintro e w' ⟨rfl, rfl⟩
    go_wp2
    go_loopw [33] (fun i wr => ∃ k : Nat, k ≤ m ∧ i = .int .i64 k ∧ wr = w) (fun i _ => m - (intOf i).toNat)
    case atStart => exact ⟨0, by omega, rfl, rfl⟩
    case round =>
      obtain ⟨k, hk, rfl, rfl⟩ := hrel
      by_cases hlt : k < m
      · skip
        go_wp2_with fail
        refine (tri_H _ _ (by omega) (by omega) (by omega)).mono ?_
        rintro e w' ⟨rfl, rfl⟩
        go_wp2
        go_roundw
        case rel => exact ⟨k + 1, by omega, by go_num, trivial⟩
        case measure => simp [intOf]; omega
      · skip
        go_wp2_with fail
        refine (free_H _ _ (by omega) (by omega) (by omega)).mono ?_
        rintro e w' ⟨rfl, rfl⟩
        go_wp2_with fail
        refine (held_even _ _ (by omega) (by omega) (by omega)).mono ?_
        rintro e w' ⟨rfl, rfl⟩
        go_wp2_with fail
        refine (ver_even _ _ (by omega) (by omega) (by omega)).mono ?_
        rintro e w' ⟨rfl, rfl⟩
        go_wp2_with fail
        refine (ver_E _ _ h1 h2 h3).mono ?_
        rintro e w' ⟨rfl, rfl⟩
        go_wp2
        go_ret
        exact ⟨rfl, rfl⟩
  · subst h
    go_enter Try.func5, Try.ntmps5
    go_wp2_with fail
    refine (live_yes _).mono ?_
    rintro e w' ⟨rfl, rfl⟩
    go_wp2_with fail
    refine (tri_L _ _ rfl).mono ?_
    rintro e w' ⟨rfl, rfl⟩
    go_wp2
    go_ret
    exact ⟨rfl, rfl⟩

theorem lifted (os : Os) (started : os.Started) (H : Type) (enc : TypeId × Value → H) :
    ReturnsInHanded {} Try.checked os 5 .any (Rows.latchAloneSpec.pre6 enc Try.prog Try.f5 Rows.latchAloneRow.domain false) (Rows.latchAloneSpec.post enc Try.prog Try.f5 false true false false) := by
  refine returnsInHanded_of_change (C := Try.checked) own started (by kernel_rfl) Try.func5
    (ChangeSpec.witness6 (enc := enc) (C := Try.checked) false ⟨#[], #[.int .i64 0, .int .u8 0], []⟩ 8 (by kernel_rfl) (by kernel_rfl) (by kernel_rfl) (by kernel_rfl)) ?_
  intro W base args ds gs before hval0 hW hcnd _
  have hval : ∀ (j : Nat) t v, Try.f5.params[j]? = some t → args[j]? = some v → Value.okWide Try.prog W .any base t v := hval0
  have hW' := hW
  obtain ⟨p, q, hA0, hV, rfl, hfz, hnd⟩ := hW
  have hA : DataW.TrodAll enc Try.prog W 0 (fun _ => true) true Try.f5.params.toList args.toList ds p := hA0
  rw [Try.params5] at hA hval
  obtain ⟨x0, vs0, d0, ds0, p0, q0, hargs, rfl, rfl, h0, r0⟩ := trodAll_cons hA
  obtain ⟨x1, vs1, d1, ds1, p1, q1, rfl, rfl, rfl, h1, r1⟩ := trodAll_cons r0
  obtain ⟨rfl, rfl, rfl⟩ := trodAll_nil r1
  obtain rfl : args = #[x0, x1] := by cases args; simp_all
  obtain ⟨rfl, rfl⟩ := trodVars_none hV

  obtain ⟨a0, rfl, rfl, rfl, w0⟩ := open_int Try.underlying3 (hval 0 3 x0 rfl rfl) h0
  obtain ⟨a1, rfl, rfl, rfl, w1⟩ := open_int Try.underlying5 (hval 1 5 x1 rfl rfl) h1
  clear hA0 hval0
  refine (walk a0 a1 W w0 w1).mono fun e W' ⟨he, hw⟩ => ?_
  subst he
  subst hw
  have bel := Below.refl W.heap.size W
  exact ⟨_, rfl, _, _, _, [], _, [], hW', trodAll_mk1 (shut_bool Try.underlying4 _), (trodAll_cons_mk (shut_int Try.underlying3 w0) (trodAll_cons_mk (shut_int Try.underlying5 w1) trodAll_mk0)), rfl, bel.frame _, fun h => by cases h⟩

theorem over : Rows.latchAloneRow.holds Try.pinned (OpenSpec.ofChange Rows.latchAloneSpec) :=
  OpenClaim.holds_of_wide 5 Try.f5 rfl rfl rfl rfl rfl rfl rfl ⟨rfl, rfl, rfl, rfl, rfl⟩ rfl rfl rfl rfl rfl (by kernel_rfl) Try.func5 (by kernel_rfl)
    (of_decide_eq_true (by kernel_rfl)) (by unfold Func.isWrapper; first | (rw [if_pos (by decide +kernel)]; kernel_rfl) | (rw [if_neg (by decide +kernel)]; exact ⟨rfl, rfl⟩))
    (fun os started H enc _ => lifted os started H enc)

end Go.Proofs.Ytpnidojlapcmdaa.latchAlone

namespace Go.Proofs.Ytpnidojlapcmdaa
/-- The statement. -/
theorem latchAlone_holds : Rows.LatchAloneSaid := latchAlone.over
#print axioms latchAlone_holds
end Go.Proofs.Ytpnidojlapcmdaa
