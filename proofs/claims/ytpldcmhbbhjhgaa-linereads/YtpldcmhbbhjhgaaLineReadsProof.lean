/- Whatever the operation and the numbers: what Plain, Op and Ops tell is what the document says, and what was handed in stays as it was; no conditions. (The statement tendrillaw04.LineReads.) -/
import Derived.Test.YtpldcmhbbhjhgaaRows
import Derived.Test.YtpldcmhbbhjhgaaWalksE
import Derived.Test.YtpldcmhbbhjhgaaWalksH
import Derived.Test.YtpldcmhbbhjhgaaBoxes
import Derived.Test.YtpldcmhbbhjhgaaFrame
import Derived.WalkKit
namespace Go.Proofs.Ytpldcmhbbhjhgaa.lineReads
open Go.Joins Go.ChangeShapes Go.WideShapes Go.ChangeAt Go.RowKit Go.Deep
set_option linter.unusedVariables false

set_option maxHeartbeats 2000000 in
theorem walk (k0 a0 b0 c0 v0 : Int) (A1 : Option Addr) (n1 c1 : Nat) (z1 : List Int) (w : World) (w1 : Came w 1 A1 n1 c1 z1) :
    Calls Try.prog 3 #[O5 k0 a0 b0 c0 v0, .slice A1 n1 c1] w (Drew (.bool true) w) := by
  obtain ⟨hN, hnc, hA, _⟩ := w1
  have HN := hide hN
  clear hN hA
  have H0 : Hid (Calls Try.prog 9 #[] (w.alloc (.cells #[.int .i64 k0, .int .i64 a0, .int .i64 b0, .int .i64 c0, .int .i64 v0] 23)) (Drew (.bool true) (w.alloc (.cells #[.int .i64 k0, .int .i64 a0, .int .i64 b0, .int .i64 c0, .int .i64 v0] 23)))) := live_yes _
  by_cases hbig : 500 < n1
  · have hb : decide ((500 : Int) < (n1 : Int)) = true := by simp; omega
    go_enter Try.func3, Try.ntmps3
    go_wp2_with fail
    refine H0.out.mono ?_
    rintro e u1 ⟨rfl, hb1⟩
    go_wp2
    go_ret
    exact ⟨rfl, ((Below.refl _ _).alloc (Nat.le_refl _) _).trans (hb1.mono (by simp))⟩
  have hb : decide ((500 : Int) < (n1 : Int)) = false := by simp; omega
  have hn1 : n1 ≤ 500 := by omega
  clear hbig
  obtain ⟨p, q, r, s, t, ok, hp⟩ := Pl.some_ k0 a0 b0 c0 v0
  have HP := hide hp
  obtain ⟨p', q', r', s', t', ok', hp'⟩ := Op1.some_ z1
  have HP' := hide hp'
  obtain ⟨m, hm, hle⟩ := flat_len _ z1 (Nat.le_refl _)
  have HM := hide hm
  have hm5 : m ≤ 500 := by have := HN.out.1; omega
  have he := eq23
  clear hp hp' hm hle
  go_enter Try.func3, Try.ntmps3
  go_wp2_with fail
  refine H0.out.mono ?_
  rintro e u1 ⟨rfl, hb1⟩
  have X1 := hide ((Box.new w k0 a0 b0 c0 v0).step hb1)
  have B1 := hide (((Below.refl w.heap.size w).alloc (Nat.le_refl _) (.cells #[.int .i64 k0, .int .i64 a0, .int .i64 b0, .int .i64 c0, .int .i64 v0] 23)).trans (hb1.mono (by simp)))
  clear hb1
  have hc1 := X1.out.cells
  go_wp2_with fail
  refine (plain_any _ _ _ _ _ _ _ _ _ _ _ _ HP).mono ?_
  rintro e u2 ⟨rfl, hb2⟩
  have X2 := hide (X1.out.step hb2)
  have B2 := hide (B1.out.trans (hb2.mono B1.out.size))
  clear hb2 hc1 X1
  have hc2 := X2.out.cells
  have hl2 := X2.out.lt
  have Y2 := hide (Box.new u2 p q r s t)
  have C2 := hide (B2.out.alloc B2.out.size (.cells #[.int .i64 p, .int .i64 q, .int .i64 r, .int .i64 s, .int .i64 t] 23))
  go_wp2_with fail
  refine (rplain_any _ _ _ _ _ _ _ _ _ _ _ _ HP).mono ?_
  rintro e u3 ⟨rfl, hb3⟩
  have Y3 := hide (Y2.out.step hb3)
  have B3 := hide (C2.out.trans (hb3.mono C2.out.size))
  have Z3 := hide (Box.new u3 p q r s t)
  have C3 := hide (B3.out.alloc B3.out.size (.cells #[.int .i64 p, .int .i64 q, .int .i64 r, .int .i64 s, .int .i64 t] 23))
  clear hb3 hc2 hl2 X2 Y2 C2
  go_wp2_with fail
  refine (op_any _ _ _ w.heap.size z1 _ _ _ _ _ _ _ (HN.out.below C3.out (Nat.le_refl _)) C3.out.size (by omega) HP').mono ?_
  rintro e u4 ⟨rfl, hb4⟩
  have Y4 := hide ((Y3.out.alloc _).step hb4)
  have Z4 := hide (Z3.out.step hb4)
  have B4 := hide (C3.out.trans (hb4.mono C3.out.size))
  have V4 := hide (Box.new u4 p' q' r' s' t')
  have C4 := hide (B4.out.alloc B4.out.size (.cells #[.int .i64 p', .int .i64 q', .int .i64 r', .int .i64 s', .int .i64 t'] 23))
  clear hb4 Y3 Z3 C3
  go_wp2_with fail
  refine (rop_any _ _ _ w.heap.size z1 _ _ _ _ _ _ _ (HN.out.below C4.out (Nat.le_refl _)) C4.out.size (by omega) HP').mono ?_
  rintro e u5 ⟨rfl, hb5⟩
  have Y5 := hide ((Y4.out.alloc _).step hb5)
  have Z5 := hide ((Z4.out.alloc _).step hb5)
  have V5 := hide (V4.out.step hb5)
  have B5 := hide (C4.out.trans (hb5.mono C4.out.size))
  have C5 := hide (B5.out.alloc B5.out.size (.cells #[.int .i64 p', .int .i64 q', .int .i64 r', .int .i64 s', .int .i64 t'] 23))
  clear hb5 Y4 Z4 V4 C4
  have hy := Y5.out.cells
  have hyl := Y5.out.lt
  have hz := Z5.out.cells
  have hzl := Z5.out.lt
  have hv := V5.out.cells
  have hvl := V5.out.lt
  go_wp2_with fail
  refine (ops_any _ _ _ w.heap.size z1 _ (HN.out.below C5.out (Nat.le_refl _)) hnc C5.out.size (by omega)).mono ?_
  rintro e u6 ⟨A6, s6, d6, rfl, hA6, hr6, hb6⟩
  obtain rfl : s6 = m := own_count hr6 (by omega) HM.out
  have R6 := hide hr6
  have B6 := hide (C5.out.trans (hb6.mono C5.out.size))
  clear hr6 hb6 hA6 hy hyl hz hzl hv hvl
  go_wp2_with fail
  refine (rops_any _ _ _ w.heap.size z1 _ (HN.out.below B6.out (Nat.le_refl _)) hnc B6.out.size (by omega)).mono ?_
  rintro e u7 ⟨A7, s7, d7, rfl, hA7, hr7, hb7⟩
  obtain rfl : s7 = s6 := own_count hr7 (by omega) HM.out
  have R7 := hide hr7
  have N6 := hide ((own_nums R6.out).below hb7 (Nat.le_refl _))
  have B7 := hide (B6.out.trans (hb7.mono B6.out.size))
  clear hr7 hb7 hA7
  go_wp2_with fail
  refine (sameOps_yes _ _ _ _ _ _ _ (flat z1) _ N6.out (own_nums R7.out) (by omega)).mono ?_
  rintro e u8 ⟨rfl, hb8⟩
  go_wp2
  go_ret
  exact ⟨rfl, B7.out.trans (hb8.mono B7.out.size)⟩


theorem lifted (os : Os) (started : os.Started) (H : Type) (enc : TypeId × Value → H) :
    ReturnsInHanded {} Try.checked os 3 .any (Rows.lineReadsSpec.pre6 enc Try.prog Try.f3 Rows.lineReadsRow.domain false) (Rows.lineReadsSpec.post enc Try.prog Try.f3 false true false false) := by
  refine returnsInHanded_of_change (C := Try.checked) own started (by kernel_rfl) Try.func3
    (ChangeSpec.witness6 (enc := enc) (C := Try.checked) false ⟨#[], #[.agg #[.int .i64 0, .int .i64 0, .int .i64 0, .int .i64 0, .int .i64 0], .slice none 0 0], []⟩ 8 (by kernel_rfl) (by kernel_rfl) (by kernel_rfl) (by kernel_rfl)) ?_
  intro W base args ds gs before hval0 hW hcnd _
  have hval : ∀ (j : Nat) t v, Try.f3.params[j]? = some t → args[j]? = some v → Value.okWide Try.prog W .any base t v := hval0
  have hW' := hW
  obtain ⟨p, q, hA0, hV, rfl, hfz, hnd⟩ := hW
  have hA : DataW.TrodAll enc Try.prog W 0 (fun _ => true) true Try.f3.params.toList args.toList ds p := hA0
  rw [Try.params3] at hA hval
  obtain ⟨x0, vs0, d0, ds0, p0, q0, hargs, rfl, rfl, h0, r0⟩ := trodAll_cons hA
  obtain ⟨x1, vs1, d1, ds1, p1, q1, rfl, rfl, rfl, h1, r1⟩ := trodAll_cons r0
  obtain ⟨rfl, rfl, rfl⟩ := trodAll_nil r1
  obtain rfl : args = #[x0, x1] := by cases args; simp_all
  obtain ⟨rfl, rfl⟩ := trodVars_none hV
  have lt0 : ∀ x ∈ p0, x.block < W.heap.size := by obtain ⟨m, hm⟩ := h0; exact DataW.trod_lt m _ _ _ hm
  have lt1 : ∀ x ∈ p1, x.block < W.heap.size := by obtain ⟨m, hm⟩ := h1; exact DataW.trod_lt m _ _ _ hm
  obtain ⟨k0, a0, b0, c0, v0, rfl⟩ := open_op (hval 0 23 x0 rfl rfl) h0
  obtain ⟨A1, n1, c1, rfl⟩ := okWide_slice Try.underlying24 (hval 1 24 x1 rfl rfl)
  obtain ⟨z1, w1⟩ := open_flat Try.underlying24 cells3 (by omega) elem3 h1
  clear hA0 hval0
  refine (walk k0 a0 b0 c0 v0 A1 n1 c1 z1 W w1).mono fun e W' ⟨he, bel⟩ => ?_
  subst he
  exact ⟨_, rfl, _, _, _, [], _, [], hW', trodAll_mk1 (shut_bool Try.underlying4 _), (trodAll_cons_mk (Below.trod laidOut (by kernel_rfl) (of_decide_eq_true (by kernel_rfl)) h0 bel lt0) (trodAll_cons_mk (Below.trod laidOut (by kernel_rfl) (of_decide_eq_true (by kernel_rfl)) h1 bel lt1) trodAll_mk0)), rfl, bel.frame _, fun h => by cases h⟩

theorem over : Rows.lineReadsRow.holds Try.pinned (OpenSpec.ofChange Rows.lineReadsSpec) :=
  OpenClaim.holds_of_wide 3 Try.f3 rfl rfl rfl rfl rfl rfl rfl ⟨rfl, rfl, rfl, rfl, rfl⟩ rfl rfl rfl rfl rfl (by kernel_rfl) Try.func3 (by kernel_rfl)
    (of_decide_eq_true (by kernel_rfl)) (by unfold Func.isWrapper; first | (rw [if_pos (by decide +kernel)]; kernel_rfl) | (rw [if_neg (by decide +kernel)]; exact ⟨rfl, rfl⟩))
    (fun os started H enc _ => lifted os started H enc)

end Go.Proofs.Ytpldcmhbbhjhgaa.lineReads

namespace Go.Proofs.Ytpldcmhbbhjhgaa
/-- The statement. -/
theorem lineReads_holds : Rows.LineReadsSaid := lineReads.over
#print axioms lineReads_holds
end Go.Proofs.Ytpldcmhbbhjhgaa
