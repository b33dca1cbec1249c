/- Whatever the operations, the numbers and the number of threads: what Write and Picks tell is what the document says, and what was handed in stays as it was; no conditions. (The statement tendrillaw04.LineWrites.) -/
import Derived.Test.YtpldcmhbbhjhgaaRows
import Derived.Test.YtpldcmhbbhjhgaaWalksE
import Derived.Test.YtpldcmhbbhjhgaaWalksG
import Derived.Test.YtpldcmhbbhjhgaaWalksH
import Derived.Test.YtpldcmhbbhjhgaaFrame
import Derived.WalkKit
namespace Go.Proofs.Ytpldcmhbbhjhgaa.lineWrites
open Go.Joins Go.ChangeShapes Go.WideShapes Go.ChangeAt Go.RowKit Go.Deep
set_option linter.unusedVariables false

theorem pick_len (t : Int) (zs : List Int) : (pickAll t zs).length ≤ zs.length := by
  unfold pickAll
  split <;> simp

set_option maxHeartbeats 2000000 in
theorem walk (A0 : Option Addr) (n0 c0 : Nat) (z0 : List Int) (A1 : Option Addr) (n1 c1 : Nat) (z1 : List Int) (a2 : Int) (w : World) (w0 : Came w 5 A0 n0 c0 z0) (w1 : Came w 1 A1 n1 c1 z1) (w2 : (Lit.int .i64 a2).wf = true) :
    Calls Try.prog 4 #[.slice A0 n0 c0, .slice A1 n1 c1, .int .i64 a2] w (Drew (.bool true) w) := by
  obtain ⟨hN, hnc, hA, _⟩ := w1
  obtain ⟨hO, hoc, hOA, _⟩ := w0
  have h64 : a2 ≤ 9223372036854775807 := by have := wf_bounds w2; omega
  have HN := hide hN
  have HO := hide hO
  clear hN hO hA hOA w2 hnc hoc
  have H0 := hide (live_yes w)
  by_cases hbig : 500 < n1
  · have hb : decide ((500 : Int) < (n1 : Int)) = true := by simp; omega
    go_enter Try.func4, Try.ntmps4
    go_wp2_with fail
    refine H0.out.mono ?_
    rintro e u1 ⟨rfl, hb1⟩
    go_wp2
    go_ret
    exact ⟨rfl, hb1⟩
  by_cases hbig2 : 100 < n0
  · have hb : decide ((500 : Int) < (n1 : Int)) = false := by simp; omega
    have hb2 : decide ((100 : Int) < (n0 : Int)) = true := by simp; omega
    go_enter Try.func4, Try.ntmps4
    go_wp2_with fail
    refine H0.out.mono ?_
    rintro e u1 ⟨rfl, hb1⟩
    go_wp2
    go_ret
    exact ⟨rfl, hb1⟩
  have hb : decide ((500 : Int) < (n1 : Int)) = false := by simp; omega
  have hb2 : decide ((100 : Int) < (n0 : Int)) = false := by simp; omega
  have hn1 : n1 ≤ 500 := by omega
  have hn0 : n0 ≤ 100 := by omega
  clear hbig hbig2
  obtain ⟨m1, M1, hm1⟩ : ∃ m, Hid ((flat z0).length = m * 1) ∧ m ≤ 500 := ⟨(flat z0).length, hide (by omega), by obtain ⟨m, hm, hle⟩ := flat_len _ z0 (Nat.le_refl _); have := HO.out.1; omega⟩
  obtain ⟨m2, M2, hm2⟩ : ∃ m, Hid ((pickAll a2 z1).length = m * 1) ∧ m ≤ 500 := ⟨(pickAll a2 z1).length, hide (by omega), by have := HN.out.1; have := pick_len a2 z1; omega⟩
  go_enter Try.func4, Try.ntmps4
  go_wp2_with fail
  refine H0.out.mono ?_
  rintro e u1 ⟨rfl, hb1⟩
  have B1 := hide hb1
  clear hb1
  go_wp2_with fail
  refine (write_any _ _ _ w.heap.size z0 _ (HO.out.below B1.out (Nat.le_refl _)) B1.out.size (by omega)).mono ?_
  rintro e u2 ⟨A2, s2, d2, rfl, hA2, hr2, hb2'⟩
  obtain rfl : s2 = m1 := own_count hr2 (by omega) M1.out
  have R2 := hide hr2
  have B2 := hide (B1.out.trans (hb2'.mono B1.out.size))
  clear hr2 hb2' hA2
  go_wp2_with fail
  refine (rwrite_any _ _ _ w.heap.size z0 _ (HO.out.below B2.out (Nat.le_refl _)) B2.out.size (by omega)).mono ?_
  rintro e u3 ⟨A3, s3, d3, rfl, hA3, hr3, hb3⟩
  obtain rfl : s3 = s2 := own_count hr3 (by omega) M1.out
  have R3 := hide hr3
  have N2 := hide ((own_nums R2.out).below hb3 (Nat.le_refl _))
  have B3 := hide (B2.out.trans (hb3.mono B2.out.size))
  clear hr3 hb3 hA3
  go_wp2_with fail
  refine (same_yes _ _ _ _ _ _ _ (flat z0) _ N2.out (own_nums R3.out) (by omega)).mono ?_
  rintro e u4 ⟨rfl, hb4⟩
  have B4 := hide (B3.out.trans (hb4.mono B3.out.size))
  clear hb4
  go_wp2_with fail
  refine (picks_any _ _ _ w.heap.size z1 a2 _ (HN.out.below B4.out (Nat.le_refl _)) B4.out.size (by omega) h64).mono ?_
  rintro e u5 ⟨A5, s5, d5, rfl, hA5, hr5, hb5⟩
  obtain rfl : s5 = m2 := own_count hr5 (by omega) M2.out
  have R5 := hide hr5
  have B5 := hide (B4.out.trans (hb5.mono B4.out.size))
  clear hr5 hb5 hA5
  go_wp2_with fail
  refine (rpicks_any _ _ _ w.heap.size z1 a2 _ (HN.out.below B5.out (Nat.le_refl _)) B5.out.size (by omega) h64).mono ?_
  rintro e u6 ⟨A6, s6, d6, rfl, hA6, hr6, hb6⟩
  obtain rfl : s6 = s5 := own_count hr6 (by omega) M2.out
  have R6 := hide hr6
  have N5 := hide ((own_nums R5.out).below hb6 (Nat.le_refl _))
  have B6 := hide (B5.out.trans (hb6.mono B5.out.size))
  clear hr6 hb6 hA6
  go_wp2_with fail
  refine (same_yes _ _ _ _ _ _ _ (pickAll a2 z1) _ N5.out (own_nums R6.out) (by omega)).mono ?_
  rintro e u7 ⟨rfl, hb7⟩
  go_wp2
  go_ret
  exact ⟨rfl, B6.out.trans (hb7.mono B6.out.size)⟩


theorem lifted (os : Os) (started : os.Started) (H : Type) (enc : TypeId × Value → H) :
    ReturnsInHanded {} Try.checked os 4 .any (Rows.lineWritesSpec.pre6 enc Try.prog Try.f4 Rows.lineWritesRow.domain false) (Rows.lineWritesSpec.post enc Try.prog Try.f4 false true false false) := by
  refine returnsInHanded_of_change (C := Try.checked) own started (by kernel_rfl) Try.func4
    (ChangeSpec.witness6 (enc := enc) (C := Try.checked) false ⟨#[], #[.slice none 0 0, .slice none 0 0, .int .i64 0], []⟩ 8 (by kernel_rfl) (by kernel_rfl) (by kernel_rfl) (by kernel_rfl)) ?_
  intro W base args ds gs before hval0 hW hcnd _
  have hval : ∀ (j : Nat) t v, Try.f4.params[j]? = some t → args[j]? = some v → Value.okWide Try.prog W .any base t v := hval0
  have hW' := hW
  obtain ⟨p, q, hA0, hV, rfl, hfz, hnd⟩ := hW
  have hA : DataW.TrodAll enc Try.prog W 0 (fun _ => true) true Try.f4.params.toList args.toList ds p := hA0
  rw [Try.params4] at hA hval
  obtain ⟨x0, vs0, d0, ds0, p0, q0, hargs, rfl, rfl, h0, r0⟩ := trodAll_cons hA
  obtain ⟨x1, vs1, d1, ds1, p1, q1, rfl, rfl, rfl, h1, r1⟩ := trodAll_cons r0
  obtain ⟨x2, vs2, d2, ds2, p2, q2, rfl, rfl, rfl, h2, r2⟩ := trodAll_cons r1
  obtain ⟨rfl, rfl, rfl⟩ := trodAll_nil r2
  obtain rfl : args = #[x0, x1, x2] := by cases args; simp_all
  obtain ⟨rfl, rfl⟩ := trodVars_none hV
  have lt0 : ∀ x ∈ p0, x.block < W.heap.size := by obtain ⟨m, hm⟩ := h0; exact DataW.trod_lt m _ _ _ hm
  have lt1 : ∀ x ∈ p1, x.block < W.heap.size := by obtain ⟨m, hm⟩ := h1; exact DataW.trod_lt m _ _ _ hm
  obtain ⟨A0, n0, c0, rfl⟩ := okWide_slice Try.underlying30 (hval 0 30 x0 rfl rfl)
  obtain ⟨z0, w0⟩ := open_flat Try.underlying30 cells23 (by omega) elem23 h0
  obtain ⟨A1, n1, c1, rfl⟩ := okWide_slice Try.underlying24 (hval 1 24 x1 rfl rfl)
  obtain ⟨z1, w1⟩ := open_flat Try.underlying24 cells3 (by omega) elem3 h1
  obtain ⟨a2, rfl, rfl, rfl, w2⟩ := open_int Try.underlying3 (hval 2 3 x2 rfl rfl) h2
  clear hA0 hval0
  refine (walk A0 n0 c0 z0 A1 n1 c1 z1 a2 W w0 w1 w2).mono fun e W' ⟨he, bel⟩ => ?_
  subst he
  exact ⟨_, rfl, _, _, _, [], _, [], hW', trodAll_mk1 (shut_bool Try.underlying4 _), (trodAll_cons_mk (Below.trod laidOut (by kernel_rfl) (of_decide_eq_true (by kernel_rfl)) h0 bel lt0) (trodAll_cons_mk (Below.trod laidOut (by kernel_rfl) (of_decide_eq_true (by kernel_rfl)) h1 bel lt1) (trodAll_cons_mk (shut_int Try.underlying3 w2) trodAll_mk0))), rfl, bel.frame _, fun h => by cases h⟩

theorem over : Rows.lineWritesRow.holds Try.pinned (OpenSpec.ofChange Rows.lineWritesSpec) :=
  OpenClaim.holds_of_wide 4 Try.f4 rfl rfl rfl rfl rfl rfl rfl ⟨rfl, rfl, rfl, rfl, rfl⟩ rfl rfl rfl rfl rfl (by kernel_rfl) Try.func4 (by kernel_rfl)
    (of_decide_eq_true (by kernel_rfl)) (by unfold Func.isWrapper; first | (rw [if_pos (by decide +kernel)]; kernel_rfl) | (rw [if_neg (by decide +kernel)]; exact ⟨rfl, rfl⟩))
    (fun os started H enc _ => lifted os started H enc)

end Go.Proofs.Ytpldcmhbbhjhgaa.lineWrites

namespace Go.Proofs.Ytpldcmhbbhjhgaa
/-- The statement. -/
theorem lineWrites_holds : Rows.LineWritesSaid := lineWrites.over
#print axioms lineWrites_holds
end Go.Proofs.Ytpldcmhbbhjhgaa
