/- What is in any lists, in both, and above any number, is as the document says: for every two lists and every number the answer is true. (The statement tendrillaw09.OrderLooks.) -/
import Derived.Test.YtijiolkjnlgleaaRows
import Derived.Test.YtijiolkjnlgleaaLaws
import Derived.Test.YtijiolkjnlgleaaFrame
import Derived.WalkKit
namespace Go.Proofs.Ytijiolkjnlgleaa.orderLooks
open Go.Joins Go.ChangeShapes Go.WideShapes Go.ChangeAt Go.RowKit Go.Deep
set_option linter.unusedVariables false

set_option maxRecDepth 100000 in
set_option maxHeartbeats 2000000 in
theorem walk (A0 : Option Addr) (n0 c0 : Nat) (z0 : List Int) (A1 : Option Addr) (n1 c1 : Nat) (z1 : List Int) (a2 : Int) (w : World) (w0 : Came w 1 A0 n0 c0 z0) (s0 : n0 ≤ 17592186044416) (w1 : Came w 1 A1 n1 c1 z1) (s1 : n1 ≤ 17592186044416) (w2 : (Lit.int .i64 a2).wf = true) :
    Calls Try.prog 4 #[.slice A0 n0 c0, .slice A1 n1 c1, .int .i64 a2] w (Drew (.bool true) w) := by
  obtain ⟨hN, hnc, hA, hwf⟩ := w0
  obtain ⟨hN1, hnc1, hA1, hwf1⟩ := w1
  have HN := hide hN
  have HA := hide hA
  have HW := hide hwf
  have HL : Hid (z0.length = n0) := by have := hN.1; show _ = _; omega
  have HM := hide hN1
  have HA1 := hide hA1
  have HW1 := hide hwf1
  have HL1 : Hid (z1.length = n1) := by have := hN1.1; show _ = _; omega
  clear hN hA hwf hnc hN1 hA1 hwf1 hnc1
  have H0 := hide (live_yes w)
  by_cases h1 : 150 < n0
  · have t1 : decide ((150 : Int) < (n0 : Int)) = true := by simp; omega
    go_enter Try.func4, Try.ntmps4
    go_wp2_with fail
    refine H0.out.mono ?_
    rintro e u1 ⟨rfl, hb1⟩
    go_wp2
    go_ret
    exact ⟨rfl, hb1⟩
  have t1 : decide ((150 : Int) < (n0 : Int)) = false := by simp; omega
  by_cases h2 : 150 < n1
  · have t2 : decide ((150 : Int) < (n1 : Int)) = true := by simp; omega
    go_enter Try.func4, Try.ntmps4
    go_wp2_with fail
    refine H0.out.mono ?_
    rintro e u1 ⟨rfl, hb1⟩
    go_wp2
    go_ret
    exact ⟨rfl, hb1⟩
  have t2 : decide ((150 : Int) < (n1 : Int)) = false := by simp; omega
  have hn0 : n0 ≤ 150 := by omega
  have hn1 : n1 ≤ 150 := by omega
  clear h1 h2
  obtain ⟨q1, Q1⟩ : ∃ q, Hid (z0.contains a2 = q) := ⟨_, rfl⟩
  obtain ⟨q2, Q2⟩ : ∃ q, Hid (within z0 z1 = q) := ⟨_, rfl⟩
  obtain ⟨r, q3, Q3⟩ : ∃ r q, Hid (pick (fun z => decide (a2 < z)) z0 = (r, q)) := ⟨_, _, rfl⟩
  go_enter Try.func4, Try.ntmps4
  go_wp2_with fail
  refine (H0.out).mono ?_
  rintro e u1 ⟨rfl, hb⟩
  have HN := hide (HN.out.step hb)
  have HM := hide (HM.out.step hb)
  have B := hide hb
  clear hb
  go_wp2_with fail
  refine (above_any A0 n0 c0 _ z0 a2 r q3 u1 HN.out Q3 s0).mono ?_
  rintro e v0 ⟨rfl, rfl⟩
  go_wp2_with fail
  refine (rabove_any A0 n0 c0 _ z0 a2 r q3 u1 HN.out Q3 s0).mono ?_
  rintro e v0 ⟨rfl, rfl⟩
  go_wp2_with fail
  refine (has_any A0 n0 c0 _ z0 a2 q1 u1 HN.out Q1 s0).mono ?_
  rintro e v0 ⟨rfl, rfl⟩
  go_wp2_with fail
  refine (rhas_any A0 n0 c0 _ z0 a2 q1 u1 HN.out Q1 s0).mono ?_
  rintro e v0 ⟨rfl, rfl⟩
  go_wp2_with fail
  refine (within_any A0 A1 n0 n1 c0 c1 z0 z1 q2 u1 HN.out HM.out HW HW1 Q2 s0 s1).mono ?_
  rintro e u2 ⟨rfl, hb⟩
  have HN := hide (HN.out.step hb)
  have HM := hide (HM.out.step hb)
  have B := hide (B.out.trans (hb.mono B.out.size))
  clear hb
  go_wp2_with fail
  refine (rwithin_any A0 A1 n0 n1 c0 c1 _ _ z0 z1 q2 u2 HN.out HM.out Q2 s0 s1).mono ?_
  rintro e v0 ⟨rfl, rfl⟩
  go_wp2_with fail
  refine (union_any A0 A1 n0 c0 n1 c1 z0 z1 u2 HN.out HM.out HW HW1 s0 s1).mono ?_
  rintro e u3 ⟨As, ms, ds, rfl, hAs, hr, hb⟩
  have HN := hide (HN.out.step hb)
  have HM := hide (HM.out.step hb)
  have B := hide (B.out.trans (hb.mono B.out.size))
  have Ns := hide (own_nums hr)
  have Ls := hide (own_len hr)
  clear hr hb
  go_wp2_with fail
  refine (runion_any A0 A1 n0 c0 n1 c1 z0 z1 u3 HN.out HM.out HA HA1 (by omega)).mono ?_
  rintro e u4 ⟨Ar, mr, dr, rfl, hAr, hr, hb⟩
  have HN := hide (HN.out.step hb)
  have HM := hide (HM.out.step hb)
  have Ns := hide (Ns.out.step hb)
  have B := hide (B.out.trans (hb.mono B.out.size))
  have Nr := hide (own_nums hr)
  have Lr := hide (own_len hr)
  clear hr hb
  obtain rfl : mr = ms := by have := Ls.out; have := Lr.out; omega
  have hmr : mr ≤ 300 := by have := Lr.out; have := len_sset (z0 ++ z1); have e : (z0 ++ z1).length = z0.length + z1.length := List.length_append; have := HL.out; have := HL1.out; omega
  go_wp2_with fail
  refine (same_yes As Ar mr ds dr _ _ (sset (z0 ++ z1)) u4 Ns.out Nr.out (by omega)).mono ?_
  rintro e u5 ⟨rfl, hb⟩
  have HN := hide (HN.out.step hb)
  have HM := hide (HM.out.step hb)
  have Ns := hide (Ns.out.step hb)
  have Nr := hide (Nr.out.step hb)
  have B := hide (B.out.trans (hb.mono B.out.size))
  clear hb
  go_wp2
  go_ret
  exact ⟨rfl, B.out⟩

theorem lifted (os : Os) (started : os.Started) (H : Type) (enc : TypeId × Value → H) :
    ReturnsInHanded {} Try.checked os 4 .any (Rows.orderLooksSpec.pre6 enc Try.prog Try.f4 Rows.orderLooksRow.domain false) (Rows.orderLooksSpec.post enc Try.prog Try.f4 false true false false) := by
  refine returnsInHanded_of_change_sized (C := Try.checked) own started (by kernel_rfl) Try.func4
    (ChangeSpec.witness6 (enc := enc) (C := Try.checked) false ⟨#[], #[.slice none 0 0, .slice none 0 0, .int .i64 0], []⟩ 8 (by kernel_rfl) (by kernel_rfl) (by kernel_rfl) (by kernel_rfl)) ?_
  intro W base args ds gs before hval0 hW hcnd hz0 _
  have hval : ∀ (j : Nat) t v, Try.f4.params[j]? = some t → args[j]? = some v → Value.okWide Try.prog W .any base t v := hval0
  have hW' := hW
  obtain ⟨p, q, hA0, hV, rfl, hfz, hnd⟩ := hW
  have hA : DataW.TrodAll enc Try.prog W 0 (fun _ => true) true Try.f4.params.toList args.toList ds p := hA0
  have hz := hz0
  rw [Try.params4] at hA hval hz
  obtain ⟨x0, vs0, d0, ds0, p0, q0, hargs, rfl, rfl, h0, r0⟩ := trodAll_cons hA
  obtain ⟨x1, vs1, d1, ds1, p1, q1, rfl, rfl, rfl, h1, r1⟩ := trodAll_cons r0
  obtain ⟨x2, vs2, d2, ds2, p2, q2, rfl, rfl, rfl, h2, r2⟩ := trodAll_cons r1
  obtain ⟨rfl, rfl, rfl⟩ := trodAll_nil r2
  obtain rfl : args = #[x0, x1, x2] := by cases args; simp_all
  obtain ⟨rfl, rfl⟩ := trodVars_none hV
  have lt0 : ∀ x ∈ p0, x.block < W.heap.size := by obtain ⟨m, hm⟩ := h0; exact DataW.trod_lt m _ _ _ hm
  have lt1 : ∀ x ∈ p1, x.block < W.heap.size := by obtain ⟨m, hm⟩ := h1; exact DataW.trod_lt m _ _ _ hm
  obtain ⟨A0, n0, c0, rfl⟩ := okWide_slice Try.underlying22 (hval 0 22 x0 rfl rfl)
  obtain ⟨z0, w0⟩ := open_flat Try.underlying22 cells3 (by omega) elem3 h0
  have s0 := open_size (j := 0) h0 hz rfl rfl
  obtain ⟨A1, n1, c1, rfl⟩ := okWide_slice Try.underlying22 (hval 1 22 x1 rfl rfl)
  obtain ⟨z1, w1⟩ := open_flat Try.underlying22 cells3 (by omega) elem3 h1
  have s1 := open_size (j := 1) h1 hz rfl rfl
  obtain ⟨a2, rfl, rfl, rfl, w2⟩ := open_int Try.underlying3 (hval 2 3 x2 rfl rfl) h2
  clear hA0 hval0 hz0
  refine (walk A0 n0 c0 z0 A1 n1 c1 z1 a2 W w0 s0 w1 s1 w2).mono fun e W' ⟨he, bel⟩ => ?_
  subst he
  exact ⟨_, rfl, _, _, _, [], _, [], hW', trodAll_mk1 (shut_bool Try.underlying4 _), (trodAll_cons_mk (Below.trod laidOut (by kernel_rfl) (of_decide_eq_true (by kernel_rfl)) h0 bel lt0) (trodAll_cons_mk (Below.trod laidOut (by kernel_rfl) (of_decide_eq_true (by kernel_rfl)) h1 bel lt1) (trodAll_cons_mk (shut_int Try.underlying3 w2) trodAll_mk0))), rfl, bel.frame _, fun h => by cases h⟩

theorem over : Rows.orderLooksRow.holds Try.pinned (OpenSpec.ofChange Rows.orderLooksSpec) :=
  OpenClaim.holds_of_wide 4 Try.f4 rfl rfl rfl rfl rfl rfl rfl ⟨rfl, rfl, rfl, rfl, rfl⟩ rfl rfl rfl rfl rfl (by kernel_rfl) Try.func4 (by kernel_rfl)
    (of_decide_eq_true (by kernel_rfl)) (by unfold Func.isWrapper; first | (rw [if_pos (by decide +kernel)]; kernel_rfl) | (rw [if_neg (by decide +kernel)]; exact ⟨rfl, rfl⟩))
    (fun os started H enc _ => lifted os started H enc)

end Go.Proofs.Ytijiolkjnlgleaa.orderLooks

namespace Go.Proofs.Ytijiolkjnlgleaa
/-- The statement. -/
theorem orderLooks_holds : Rows.OrderLooksSaid := orderLooks.over
#print axioms orderLooks_holds
end Go.Proofs.Ytijiolkjnlgleaa
