/- For everything that is shared and every thread: both Pins tell the same, both Turns do, and both Ends, or it is too great to be gone through. (The statement tendrillaw07.ArenaTurns.) -/
import Derived.Test.YthficfmakbblkaaRows
import Derived.Test.YthficfmakbblkaaArC
import Derived.WalkKit
import Derived.Deep.DeepCutAuto
namespace Go.Proofs.Ythficfmakbblkaa.arenaTurns
open Go.Joins Go.ChangeShapes Go.WideShapes Go.ChangeAt Go.RowKit Go.Deep
open Pool (Pl PL MayBe noP noPl Drew Told4)
set_option linter.unusedVariables false

set_option maxRecDepth 100000 in
set_option maxHeartbeats 8000000 in
theorem walk (s0 : Sh) (X0 : SL) (a1 : Int) (w : World) (w0 : Sees w s0 X0) (f0 : (Lit.int .i64 s0.t).wf = true) (w1 : (Lit.int .i64 a1).wf = true) :
    Calls Try.prog 5 #[s0.val, .int .i64 a1] w (Drew (.bool true) w) := by
  have T0 := hide (St.arg w0)
  clear w0 f0
  obtain ⟨b, HB⟩ := bool7 (OkS X0)
  obtain ⟨f, HFW⟩ := bool7 (FewV s0)
  obtain ⟨q, HQ⟩ := bool7 (Era.Step X0.T X0.Z)
  obtain ⟨q2, HQ2⟩ := bool7 (Era.Step X0.T (Era.unpZ b X0.Z a1))
  go_enter Try.func5, Try.ntmps5
  go_wp2_with fail
  refine (live_yes _).mono ?_
  rintro e u1 ⟨rfl, b1⟩
  have T1 := hide (T0.out.step b1)
  clear b1 T0
  go_wp2_with (first | ((with_reducible refine ld31 (.tmp 2) w.heap.size ?_ s0 ?_ ?_); (exact rfl); (exact T1.out.box)))
  refine (few_any s0 f _ HFW).mono ?_
  rintro e u2 ⟨rfl, b2⟩
  have T2 := hide (T1.out.step b2)
  clear b2 T1
  cases f with
  | false =>
    go_wp2
    go_ret
    exact ⟨rfl, T2.out.bel⟩
  | true =>
    have HF := hide (few_of T2.out.sees (HFW.out.1 rfl))
    clear HFW
    go_wp2_with (first | ((with_reducible refine ld31 (.tmp 2) w.heap.size ?_ s0 ?_ ?_); (exact rfl); (exact T2.out.box)))
    refine (pin_any s0 X0 b a1 _ T2.out.sees HF.out HB).mono ?_
    rintro e u3 ⟨r3, rfl, S3, K3, b3⟩
    have T3 := hide (T2.out.side b3 r3.cs)
    have Q3 := hide (St.first (Pool.next_call T2.out.bel (Nat.le_refl _) b3) S3)
    clear S3 K3 b3 T2
    go_wp2_with (first | ((with_reducible refine st31 (.tmp 5) (.tmp 26) u3.heap.size ?_ r3 ?_ noSh ?_ ?_); (exact rfl); (exact rfl); (exact heap_alloc_new _ _)) | ((with_reducible refine ld31 (.tmp 2) w.heap.size ?_ s0 ?_ ?_); (exact rfl); (exact T3.out.box)))
    refine (rpin_any s0 X0 b a1 _ T3.out.sees HF.out HB).mono ?_
    rintro e u4 ⟨r4, rfl, S4, K4, b4⟩
    have T4 := hide (T3.out.side b4 r4.cs)
    have Q4 := hide (St.first (Pool.next_call T3.out.bel (Nat.le_refl _) b4) S4)
    replace Q3 := hide (Q3.out.side b4 r4.cs)
    clear S4 K4 b4 T3
    go_wp2_with (first | ((with_reducible refine st31 (.tmp 7) (.tmp 32) u4.heap.size ?_ r4 ?_ noSh ?_ ?_); (exact rfl); (exact rfl); (exact heap_alloc_new _ _)) | ((with_reducible refine ld31 (.tmp 2) w.heap.size ?_ s0 ?_ ?_); (exact rfl); (exact T4.out.box)))
    refine (turn_any s0 X0 b q _ T4.out.sees HF.out HB HQ).mono ?_
    rintro e u5 ⟨r5, rfl, S5, K5, b5⟩
    have T5 := hide (T4.out.side b5 r5.cs)
    have Q5 := hide (St.first (Pool.next_call T4.out.bel (Nat.le_refl _) b5) S5)
    replace Q3 := hide (Q3.out.side b5 r5.cs)
    replace Q4 := hide (Q4.out.side b5 r5.cs)
    clear S5 K5 b5 T4
    go_wp2_with (first | ((with_reducible refine st31 (.tmp 9) (.tmp 37) u5.heap.size ?_ r5 ?_ noSh ?_ ?_); (exact rfl); (exact rfl); (exact heap_alloc_new _ _)) | ((with_reducible refine ld31 (.tmp 2) w.heap.size ?_ s0 ?_ ?_); (exact rfl); (exact T5.out.box)))
    refine (rturn_any s0 X0 b q _ T5.out.sees HF.out HB HQ).mono ?_
    rintro e u6 ⟨r6, rfl, S6, K6, b6⟩
    have T6 := hide (T5.out.side b6 r6.cs)
    have Q6 := hide (St.first (Pool.next_call T5.out.bel (Nat.le_refl _) b6) S6)
    replace Q3 := hide (Q3.out.side b6 r6.cs)
    replace Q4 := hide (Q4.out.side b6 r6.cs)
    replace Q5 := hide (Q5.out.side b6 r6.cs)
    clear S6 K6 b6 T5
    go_wp2_with (first | ((with_reducible refine st31 (.tmp 11) (.tmp 42) u6.heap.size ?_ r6 ?_ noSh ?_ ?_); (exact rfl); (exact rfl); (exact heap_alloc_new _ _)) | ((with_reducible refine ld31 (.tmp 2) w.heap.size ?_ s0 ?_ ?_); (exact rfl); (exact T6.out.box)))
    refine (end_any s0 X0 b q2 a1 _ T6.out.sees HF.out HB HQ2).mono ?_
    rintro e u7 ⟨r7, rfl, S7, K7, b7⟩
    have T7 := hide (T6.out.side b7 r7.cs)
    have Q7 := hide (St.first (Pool.next_call T6.out.bel (Nat.le_refl _) b7) S7)
    replace Q3 := hide (Q3.out.side b7 r7.cs)
    replace Q4 := hide (Q4.out.side b7 r7.cs)
    replace Q5 := hide (Q5.out.side b7 r7.cs)
    replace Q6 := hide (Q6.out.side b7 r7.cs)
    clear S7 K7 b7 T6
    go_wp2_with (first | ((with_reducible refine st31 (.tmp 13) (.tmp 48) u7.heap.size ?_ r7 ?_ noSh ?_ ?_); (exact rfl); (exact rfl); (exact heap_alloc_new _ _)) | ((with_reducible refine ld31 (.tmp 2) w.heap.size ?_ s0 ?_ ?_); (exact rfl); (exact T7.out.box)))
    refine (rend_any s0 X0 b q2 a1 _ T7.out.sees HF.out HB HQ2).mono ?_
    rintro e u8 ⟨r8, rfl, S8, K8, b8⟩
    have T8 := hide (T7.out.side b8 r8.cs)
    have Q8 := hide (St.first (Pool.next_call T7.out.bel (Nat.le_refl _) b8) S8)
    replace Q3 := hide (Q3.out.side b8 r8.cs)
    replace Q4 := hide (Q4.out.side b8 r8.cs)
    replace Q5 := hide (Q5.out.side b8 r8.cs)
    replace Q6 := hide (Q6.out.side b8 r8.cs)
    replace Q7 := hide (Q7.out.side b8 r8.cs)
    clear S8 K8 b8 T7
    have q1 : (piE b X0 a1 == piE b X0 a1) = true := by simp
    have q3 : (trB b q X0 == trB b q X0) = true := by simp
    have q4 : (enE b X0 a1 == enE b X0 a1) = true := by simp
    go_wp2_with (first | ((with_reducible refine st31 (.tmp 15) (.tmp 54) u8.heap.size ?_ r8 ?_ noSh ?_ ?_); (exact rfl); (exact rfl); (exact heap_alloc_new _ _)) | ((with_reducible refine ld31 (.tmp 5) u3.heap.size ?_ r3 ?_ ?_); (exact rfl); (exact Q3.out.box)) | ((with_reducible refine ld31 (.tmp 7) u4.heap.size ?_ r4 ?_ ?_); (exact rfl); (exact Q4.out.box)))
    refine (same_yes r3 r4 _ _ Q3.out.sees Q4.out.sees (few_pi HF.out)).mono ?_
    rintro e u9 ⟨rfl, b9⟩
    have T9 := hide (T8.out.step b9)
    replace Q3 := hide (Q3.out.step b9)
    replace Q4 := hide (Q4.out.step b9)
    replace Q5 := hide (Q5.out.step b9)
    replace Q6 := hide (Q6.out.step b9)
    replace Q7 := hide (Q7.out.step b9)
    replace Q8 := hide (Q8.out.step b9)
    clear b9 T8
    go_wp2_with (first | ((with_reducible refine ld31w (.tmp 9) u5.heap.size ?_ ?_ r5 ?_ ?_); (exact rfl); (exact rfl); (exact Q5.out.box)) | ((with_reducible refine ld31w (.tmp 11) u6.heap.size ?_ ?_ r6 ?_ ?_); (exact rfl); (exact rfl); (exact Q6.out.box)))
    refine (same_yes r5 r6 _ _ Q5.out.sees Q6.out.sees (few_tr HF.out HB.out)).mono ?_
    rintro e u10 ⟨rfl, b10⟩
    have T10 := hide (T9.out.step b10)
    replace Q3 := hide (Q3.out.step b10)
    replace Q4 := hide (Q4.out.step b10)
    replace Q5 := hide (Q5.out.step b10)
    replace Q6 := hide (Q6.out.step b10)
    replace Q7 := hide (Q7.out.step b10)
    replace Q8 := hide (Q8.out.step b10)
    clear b10 T9
    go_wp2_with (first | ((with_reducible refine ld31w (.tmp 13) u7.heap.size ?_ ?_ r7 ?_ ?_); (exact rfl); (exact rfl); (exact Q7.out.box)) | ((with_reducible refine ld31w (.tmp 15) u8.heap.size ?_ ?_ r8 ?_ ?_); (exact rfl); (exact rfl); (exact Q8.out.box)))
    refine (same_yes r7 r8 _ _ Q7.out.sees Q8.out.sees (few_en HF.out HB.out)).mono ?_
    rintro e u11 ⟨rfl, b11⟩
    have T11 := hide (T10.out.step b11)
    replace Q3 := hide (Q3.out.step b11)
    replace Q4 := hide (Q4.out.step b11)
    replace Q5 := hide (Q5.out.step b11)
    replace Q6 := hide (Q6.out.step b11)
    replace Q7 := hide (Q7.out.step b11)
    replace Q8 := hide (Q8.out.step b11)
    clear b11 T10
    go_wp2
    go_ret
    exact ⟨rfl, T11.out.bel⟩

set_option maxRecDepth 100000 in
theorem lifted (os : Os) (started : os.Started) (H : Type) (enc : TypeId × Value → H) :
    ReturnsInHanded {} Try.checked os 5 .any (Rows.arenaTurnsSpec.pre6 enc Try.prog Try.f5 Rows.arenaTurnsRow.domain false) (Rows.arenaTurnsSpec.post enc Try.prog Try.f5 false true false false) := by
  refine returnsInHanded_of_change (C := Try.checked) own started (by kernel_rfl) Try.func5
    (ChangeSpec.witness6 (enc := enc) (C := Try.checked) false ⟨#[], #[.agg #[.slice none 0 0, .slice none 0 0, .slice none 0 0, .slice none 0 0, .slice none 0 0, .slice none 0 0, .slice none 0 0, .slice none 0 0, .slice none 0 0, .slice none 0 0, .slice none 0 0, .slice none 0 0, .slice none 0 0, .slice none 0 0, .int .i64 0, .slice none 0 0], .int .i64 0], []⟩ 8 (by kernel_rfl) (by kernel_rfl) (by kernel_rfl) (by kernel_rfl)) ?_
  intro W base args ds gs before hval0 hW hcnd _
  have hval : ∀ (j : Nat) t v, Try.f5.params[j]? = some t → args[j]? = some v → Value.okWide Try.prog W .any base t v := hval0
  have hW' := hW
  obtain ⟨p, q, hA0, hV, rfl, hfz, hnd⟩ := hW
  have hA : DataW.TrodAll enc Try.prog W 0 (fun _ => true) true Try.f5.params.toList args.toList ds p := hA0
  rw [Try.params5] at hA hval
  obtain ⟨x0, vs0, d0, ds0, p0_, q0, hargs, rfl, rfl, h0, r0⟩ := trodAll_cons hA
  obtain ⟨x1, vs1, d1, ds1, p1_, q1, rfl, rfl, rfl, h1, r1⟩ := trodAll_cons r0
  obtain ⟨rfl, rfl, rfl⟩ := trodAll_nil r1
  obtain rfl : args = #[x0, x1] := by cases args; simp_all
  obtain ⟨rfl, rfl⟩ := trodVars_none hV
  have lt0 : ∀ x ∈ p0_, x.block < W.heap.size := by obtain ⟨m, hm⟩ := h0; exact DataW.trod_lt m _ _ _ hm
  obtain ⟨s0, X0, rfl, w0, f0⟩ := open_shared (hval 0 31 x0 rfl rfl) h0
  obtain ⟨a1, rfl, rfl, rfl, w1⟩ := open_int Try.underlying3 (hval 1 3 x1 rfl rfl) h1
  clear hA0 hval0
  refine (walk s0 X0 a1 W w0 f0 w1).mono fun e W' ⟨he, bel⟩ => ?_
  subst he
  exact ⟨_, rfl, _, _, _, [], _, [], hW', trodAll_mk1 (shut_bool Try.underlying4 _), (trodAll_cons_mk (Below.trod laidOut (by kernel_rfl) (of_decide_eq_true (by kernel_rfl)) h0 bel lt0) (trodAll_cons_mk (shut_int Try.underlying3 w1) trodAll_mk0)), rfl, bel.frame _, fun h => by cases h⟩

theorem over : Rows.arenaTurnsRow.holds Try.pinned (OpenSpec.ofChange Rows.arenaTurnsSpec) :=
  OpenClaim.holds_of_wide 5 Try.f5 rfl rfl rfl rfl rfl rfl rfl ⟨rfl, rfl, rfl, rfl, rfl⟩ rfl rfl rfl rfl rfl (by kernel_rfl) Try.func5 (by kernel_rfl)
    (of_decide_eq_true (by kernel_rfl)) (by unfold Func.isWrapper; first | (rw [if_pos (by decide +kernel)]; kernel_rfl) | (rw [if_neg (by decide +kernel)]; exact ⟨rfl, rfl⟩))
    (fun os started H enc _ => lifted os started H enc)

end Go.Proofs.Ythficfmakbblkaa.arenaTurns

namespace Go.Proofs.Ythficfmakbblkaa
/-- The statement. -/
theorem arenaTurns_holds : Rows.ArenaTurnsSaid := arenaTurns.over
#print axioms arenaTurns_holds
end Go.Proofs.Ythficfmakbblkaa
