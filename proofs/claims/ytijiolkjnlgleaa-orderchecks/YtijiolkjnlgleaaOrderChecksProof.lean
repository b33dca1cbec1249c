/- A list is a set just if it is the set of its numbers: for every list the answer is true. (The statement tendrillaw09.OrderChecks.) -/
import Derived.Test.YtijiolkjnlgleaaRows
import Derived.Test.YtijiolkjnlgleaaLaws
import Derived.Test.YtijiolkjnlgleaaFrame
import Derived.WalkKit
namespace Go.Proofs.Ytijiolkjnlgleaa.orderChecks
open Go.Joins Go.ChangeShapes Go.WideShapes Go.ChangeAt Go.RowKit Go.Deep
set_option linter.unusedVariables false

set_option maxRecDepth 100000 in
set_option maxHeartbeats 2000000 in
theorem walk (A0 : Option Addr) (n0 c0 : Nat) (z0 : List Int) (w : World) (w0 : Came w 1 A0 n0 c0 z0) (s0 : n0 ≤ 17592186044416) :
    Calls Try.prog 8 #[.slice A0 n0 c0] w (Drew (.bool true) w) := by
  obtain ⟨hN, hnc, hA, hwf⟩ := w0
  have HN := hide hN
  have HA := hide hA
  have HW := hide hwf
  have HL : Hid (z0.length = n0) := by have := hN.1; show _ = _; omega
  clear hN hA hwf hnc
  have H0 := hide (live_yes w)
  by_cases h1 : 200 < n0
  · have t1 : decide ((200 : Int) < (n0 : Int)) = true := by simp; omega
    go_enter Try.func8, Try.ntmps8
    go_wp2_with fail
    refine H0.out.mono ?_
    rintro e u1 ⟨rfl, hb1⟩
    go_wp2
    go_ret
    exact ⟨rfl, hb1⟩
  have t1 : decide ((200 : Int) < (n0 : Int)) = false := by simp; omega
  obtain ⟨q, HQ⟩ := ups_bool z0
  have HS : Hid (q = true ↔ sset z0 = z0) := by show _ ↔ _; rw [HQ.out, ups_iff, sset_up]
  cases q
  · have HU : Hid (¬ Ups z0) := fun h => by have := HQ.out.2 h; cases this
    have HE : Hid (sset z0 ≠ z0) := fun h => by have := HS.out.2 h; cases this
    clear HQ HS
    go_enter Try.func8, Try.ntmps8
    go_wp2_with fail
    refine (H0.out).mono ?_
    rintro e u1 ⟨rfl, hb⟩
    have HN := hide (HN.out.step hb)
    have B := hide hb
    clear hb
    go_wp2_with fail
    refine (chk_no A0 n0 c0 _ z0 u1 HN.out HU.out s0).mono ?_
    rintro e u2 ⟨rfl, hb⟩
    have HN := hide (HN.out.step hb)
    have B := hide (B.out.trans (hb.mono B.out.size))
    clear hb
    go_wp2_with fail
    refine (set_any A0 n0 c0 z0 u2 HN.out HW s0).mono ?_
    rintro e u3 ⟨As, ms, ds, rfl, hAs, hr, hb⟩
    have HN := hide (HN.out.step hb)
    have B := hide (B.out.trans (hb.mono B.out.size))
    have Ns := hide (own_nums hr)
    have Ls := hide (own_len hr)
    clear hr hb
    have hms : ms ≤ 200 := by have := Ls.out; have := len_sset z0; have := HL.out; omega
    go_wp2_with fail
    refine (same_any As A0 ms n0 ds c0 _ _ (sset z0) z0 false u3 Ns.out HN.out ⟨(fun h => by cases h), fun h => absurd h HE.out⟩ (by omega) s0).mono ?_
    rintro e u4 ⟨rfl, hb⟩
    have HN := hide (HN.out.step hb)
    have Ns := hide (Ns.out.step hb)
    have B := hide (B.out.trans (hb.mono B.out.size))
    clear hb
    go_wp2
    go_ret
    exact ⟨rfl, B.out⟩
  · have HU : Hid (Ups z0) := HQ.out.1 rfl
    have HE : Hid (sset z0 = z0) := HS.out.1 rfl
    clear HQ HS
    go_enter Try.func8, Try.ntmps8
    go_wp2_with fail
    refine (H0.out).mono ?_
    rintro e u1 ⟨rfl, hb⟩
    have HN := hide (HN.out.step hb)
    have B := hide hb
    clear hb
    go_wp2_with fail
    refine (chk_yes A0 n0 c0 _ z0 u1 HN.out HU.out s0).mono ?_
    rintro e u2 ⟨rfl, hb⟩
    have HN := hide (HN.out.step hb)
    have B := hide (B.out.trans (hb.mono B.out.size))
    clear hb
    go_wp2_with fail
    refine (set_any A0 n0 c0 z0 u2 HN.out HW s0).mono ?_
    rintro e u3 ⟨As, ms, ds, rfl, hAs, hr, hb⟩
    have HN := hide (HN.out.step hb)
    have B := hide (B.out.trans (hb.mono B.out.size))
    have Ns := hide (own_nums hr)
    have Ls := hide (own_len hr)
    clear hr hb
    have hms : ms ≤ 200 := by have := Ls.out; have := len_sset z0; have := HL.out; omega
    go_wp2_with fail
    refine (same_any As A0 ms n0 ds c0 _ _ (sset z0) z0 true u3 Ns.out HN.out ⟨fun _ => HE.out, fun _ => rfl⟩ (by omega) s0).mono ?_
    rintro e u4 ⟨rfl, hb⟩
    have HN := hide (HN.out.step hb)
    have Ns := hide (Ns.out.step hb)
    have B := hide (B.out.trans (hb.mono B.out.size))
    clear hb
    go_wp2
    go_ret
    exact ⟨rfl, B.out⟩

theorem lifted (os : Os) (started : os.Started) (H : Type) (enc : TypeId × Value → H) :
    ReturnsInHanded {} Try.checked os 8 .any (Rows.orderChecksSpec.pre6 enc Try.prog Try.f8 Rows.orderChecksRow.domain false) (Rows.orderChecksSpec.post enc Try.prog Try.f8 false true false false) := by
  refine returnsInHanded_of_change_sized (C := Try.checked) own started (by kernel_rfl) Try.func8
    (ChangeSpec.witness6 (enc := enc) (C := Try.checked) false ⟨#[], #[.slice none 0 0], []⟩ 8 (by kernel_rfl) (by kernel_rfl) (by kernel_rfl) (by kernel_rfl)) ?_
  intro W base args ds gs before hval0 hW hcnd hz0 _
  have hval : ∀ (j : Nat) t v, Try.f8.params[j]? = some t → args[j]? = some v → Value.okWide Try.prog W .any base t v := hval0
  have hW' := hW
  obtain ⟨p, q, hA0, hV, rfl, hfz, hnd⟩ := hW
  have hA : DataW.TrodAll enc Try.prog W 0 (fun _ => true) true Try.f8.params.toList args.toList ds p := hA0
  have hz := hz0
  rw [Try.params8] at hA hval hz
  obtain ⟨x0, vs0, d0, ds0, p0, q0, hargs, rfl, rfl, h0, r0⟩ := trodAll_cons hA
  obtain ⟨rfl, rfl, rfl⟩ := trodAll_nil r0
  obtain rfl : args = #[x0] := by cases args; simp_all
  obtain ⟨rfl, rfl⟩ := trodVars_none hV
  have lt0 : ∀ x ∈ p0, x.block < W.heap.size := by obtain ⟨m, hm⟩ := h0; exact DataW.trod_lt m _ _ _ hm
  obtain ⟨A0, n0, c0, rfl⟩ := okWide_slice Try.underlying22 (hval 0 22 x0 rfl rfl)
  obtain ⟨z0, w0⟩ := open_flat Try.underlying22 cells3 (by omega) elem3 h0
  have s0 := open_size (j := 0) h0 hz rfl rfl
  clear hA0 hval0 hz0
  refine (walk A0 n0 c0 z0 W w0 s0).mono fun e W' ⟨he, bel⟩ => ?_
  subst he
  exact ⟨_, rfl, _, _, _, [], _, [], hW', trodAll_mk1 (shut_bool Try.underlying4 _), (trodAll_cons_mk (Below.trod laidOut (by kernel_rfl) (of_decide_eq_true (by kernel_rfl)) h0 bel lt0) trodAll_mk0), rfl, bel.frame _, fun h => by cases h⟩

theorem over : Rows.orderChecksRow.holds Try.pinned (OpenSpec.ofChange Rows.orderChecksSpec) :=
  OpenClaim.holds_of_wide 8 Try.f8 rfl rfl rfl rfl rfl rfl rfl ⟨rfl, rfl, rfl, rfl, rfl⟩ rfl rfl rfl rfl rfl (by kernel_rfl) Try.func8 (by kernel_rfl)
    (of_decide_eq_true (by kernel_rfl)) (by unfold Func.isWrapper; first | (rw [if_pos (by decide +kernel)]; kernel_rfl) | (rw [if_neg (by decide +kernel)]; exact ⟨rfl, rfl⟩))
    (fun os started H enc _ => lifted os started H enc)

end Go.Proofs.Ytijiolkjnlgleaa.orderChecks

namespace Go.Proofs.Ytijiolkjnlgleaa
/-- The statement. -/
theorem orderChecks_holds : Rows.OrderChecksSaid := orderChecks.over
#print axioms orderChecks_holds
end Go.Proofs.Ytijiolkjnlgleaa
