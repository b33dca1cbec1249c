/- The set of any numbers, and whether any list is one, are as the document says, and the list stays as it was: for every list the answer is true. (The statement tendrillaw09.OrderMakes.) -/
import Derived.Test.YtijiolkjnlgleaaRows
import Derived.Test.YtijiolkjnlgleaaLaws
import Derived.Test.YtijiolkjnlgleaaFrame
import Derived.WalkKit
namespace Go.Proofs.Ytijiolkjnlgleaa.orderMakes
open Go.Joins Go.ChangeShapes Go.WideShapes Go.ChangeAt Go.RowKit Go.Deep
set_option linter.unusedVariables false

set_option maxRecDepth 100000 in
set_option maxHeartbeats 2000000 in
theorem walk (A0 : Option Addr) (n0 c0 : Nat) (z0 : List Int) (w : World) (w0 : Came w 1 A0 n0 c0 z0) (s0 : n0 ≤ 17592186044416) :
    Calls Try.prog 3 #[.slice A0 n0 c0] w (Drew (.bool true) w) := by
  obtain ⟨hN, hnc, hA, hwf⟩ := w0
  have HN := hide hN
  have HA := hide hA
  have HW := hide hwf
  have HL : Hid (z0.length = n0) := by have := hN.1; show _ = _; omega
  clear hN hA hwf hnc
  have H0 := hide (live_yes w)
  by_cases h1 : 200 < n0
  · have t1 : decide ((200 : Int) < (n0 : Int)) = true := by simp; omega
    go_enter Try.func3, Try.ntmps3
    go_wp2_with fail
    refine H0.out.mono ?_
    rintro e u1 ⟨rfl, hb1⟩
    go_wp2
    go_ret
    exact ⟨rfl, hb1⟩
  have t1 : decide ((200 : Int) < (n0 : Int)) = false := by simp; omega
  obtain ⟨q, HQ⟩ := ups_bool z0
  have HM0 := HN
  go_enter Try.func3, Try.ntmps3
  go_wp2_with fail
  refine (H0.out).mono ?_
  rintro e u1 ⟨rfl, hb⟩
  have HN := hide (HN.out.step hb)
  have B := hide hb
  clear hb
  go_wp2_with fail
  refine (copy_any A0 n0 c0 z0 u1 HN.out HA s0).mono ?_
  rintro e u2 ⟨Aw, mw, dw, rfl, hAw, hr, hb⟩
  have HN := hide (HN.out.step hb)
  have B := hide (B.out.trans (hb.mono B.out.size))
  have Nw := hide (own_nums hr)
  have Lw := hide (own_len hr)
  clear hr hb
  have NW := Nw
  have BW := B
  obtain rfl : mw = n0 := by have := Lw.out; have := HL.out; omega
  go_wp2_with fail
  refine (set_any A0 mw c0 z0 u2 HN.out HW s0).mono ?_
  rintro e u3 ⟨As, ms, ds, rfl, hAs, hr, hb⟩
  have RS := hide hr
  have Ns := hide (own_nums hr)
  have Ls := hide (own_len hr)
  have C1 := hide hb
  have HN := hide (HN.out.step hb)
  clear hr hb
  have hms : ms ≤ 200 := by have := Ls.out; have := len_sset z0; have := HL.out; omega
  go_wp2_with fail
  refine (rset_any A0 mw c0 z0 u3 HN.out s0).mono ?_
  rintro e u4 ⟨Ar, mr, dr, rfl, hAr, hr, hb⟩
  have Nr := hide (own_nums hr)
  have Lr := hide (own_len hr)
  have C1 := hide (C1.out.trans (hb.mono C1.out.size))
  have RS := hide (own_below RS.out hb)
  have Ns := hide (Ns.out.step hb)
  have HN := hide (HN.out.step hb)
  clear hr hb
  obtain rfl : mr = ms := by have := Ls.out; have := Lr.out; omega
  go_wp2_with fail
  refine (same_yes As Ar mr ds dr _ _ (sset z0) u4 Ns.out Nr.out (by omega)).mono ?_
  rintro e u5 ⟨rfl, hb⟩
  have C1 := hide (C1.out.trans (hb.mono C1.out.size))
  have RS := hide (own_below RS.out hb)
  have Ns := hide (Ns.out.step hb)
  have HN := hide (HN.out.step hb)
  clear hb
  go_wp2_with fail
  refine (chk_any A0 mw c0 _ z0 q u5 HN.out HQ s0).mono ?_
  rintro e u6 ⟨rfl, hb⟩
  have C1 := hide (C1.out.trans (hb.mono C1.out.size))
  have RS := hide (own_below RS.out hb)
  have Ns := hide (Ns.out.step hb)
  have HN := hide (HN.out.step hb)
  clear hb
  go_wp2_with fail
  refine (rchk_any A0 mw c0 _ z0 q u6 HN.out HQ s0).mono ?_
  rintro e u7 ⟨rfl, hb⟩
  have C1 := hide (C1.out.trans (hb.mono C1.out.size))
  have RS := hide (own_below RS.out hb)
  have Ns := hide (Ns.out.step hb)
  have HN := hide (HN.out.step hb)
  clear hb
  go_wp2
  go_loopw [29] (fun i wr => ∃ (k : Nat) (L : List Int), k ≤ mr ∧ i = .int .i64 k ∧ Hid (wr.ownsRow u2.heap.size 3 1 (.slice As mr ds) mr (ints L)) ∧ Hid (Below u2.heap.size u2 wr)) (fun i _ => mr - (intOf i).toNat)
  case atStart => exact ⟨0, sset z0, by omega, rfl, RS, C1⟩
  case round =>
    clear RS C1 Ns Nr HN
    obtain ⟨k, L, hk, rfl, RS, C1⟩ := hrel
    by_cases hlt : k < mr
    · obtain ⟨g, rfl, hB, hc, hfz⟩ := own_at RS.out hlt
      have RS' := fun x => hide (own_set RS.out k x)
      have C1' := fun x => hide (C1.out.setCell (p := ⟨g, k, none⟩) hB (.int .i64 x))
      generalize L.getD k 0 = z at hc
      go_wp2
      go_roundw
      case rel => exact ⟨k + 1, _, by omega, by go_num, RS' _, C1' _⟩
      case measure => simp [intOf]; omega
    · have NW' := hide (NW.out.below C1.out (Nat.le_refl _))
      have B := hide (BW.out.trans (C1.out.mono BW.out.size))
      have HM := hide (HM0.out.below B.out (Nat.le_refl _))
      go_wp2_with fail
      refine (same_yes A0 Aw mw c0 dw _ _ z0 wr HM.out NW'.out (by omega)).mono ?_
      rintro e v1 ⟨rfl, hb⟩
      go_wp2
      go_ret
      exact ⟨rfl, B.out.trans (hb.mono B.out.size)⟩

theorem lifted (os : Os) (started : os.Started) (H : Type) (enc : TypeId × Value → H) :
    ReturnsInHanded {} Try.checked os 3 .any (Rows.orderMakesSpec.pre6 enc Try.prog Try.f3 Rows.orderMakesRow.domain false) (Rows.orderMakesSpec.post enc Try.prog Try.f3 false true false false) := by
  refine returnsInHanded_of_change_sized (C := Try.checked) own started (by kernel_rfl) Try.func3
    (ChangeSpec.witness6 (enc := enc) (C := Try.checked) false ⟨#[], #[.slice none 0 0], []⟩ 8 (by kernel_rfl) (by kernel_rfl) (by kernel_rfl) (by kernel_rfl)) ?_
  intro W base args ds gs before hval0 hW hcnd hz0 _
  have hval : ∀ (j : Nat) t v, Try.f3.params[j]? = some t → args[j]? = some v → Value.okWide Try.prog W .any base t v := hval0
  have hW' := hW
  obtain ⟨p, q, hA0, hV, rfl, hfz, hnd⟩ := hW
  have hA : DataW.TrodAll enc Try.prog W 0 (fun _ => true) true Try.f3.params.toList args.toList ds p := hA0
  have hz := hz0
  rw [Try.params3] at hA hval hz
  obtain ⟨x0, vs0, d0, ds0, p0, q0, hargs, rfl, rfl, h0, r0⟩ := trodAll_cons hA
  obtain ⟨rfl, rfl, rfl⟩ := trodAll_nil r0
  obtain rfl : args = #[x0] := by cases args; simp_all
  obtain ⟨rfl, rfl⟩ := trodVars_none hV
  have lt0 : ∀ x ∈ p0, x.block < W.heap.size := by obtain ⟨m, hm⟩ := h0; exact DataW.trod_lt m _ _ _ hm
  obtain ⟨A0, n0, c0, rfl⟩ := okWide_slice Try.underlying22 (hval 0 22 x0 rfl rfl)
  obtain ⟨z0, w0⟩ := open_flat Try.underlying22 cells3 (by omega) elem3 h0
  have s0 := open_size (j := 0) h0 hz rfl rfl
  clear hA0 hval0 hz0
  refine (walk A0 n0 c0 z0 W w0 s0).mono fun e W' ⟨he, bel⟩ => ?_
  subst he
  exact ⟨_, rfl, _, _, _, [], _, [], hW', trodAll_mk1 (shut_bool Try.underlying4 _), (trodAll_cons_mk (Below.trod laidOut (by kernel_rfl) (of_decide_eq_true (by kernel_rfl)) h0 bel lt0) trodAll_mk0), rfl, bel.frame _, fun h => by cases h⟩

theorem over : Rows.orderMakesRow.holds Try.pinned (OpenSpec.ofChange Rows.orderMakesSpec) :=
  OpenClaim.holds_of_wide 3 Try.f3 rfl rfl rfl rfl rfl rfl rfl ⟨rfl, rfl, rfl, rfl, rfl⟩ rfl rfl rfl rfl rfl (by kernel_rfl) Try.func3 (by kernel_rfl)
    (of_decide_eq_true (by kernel_rfl)) (by unfold Func.isWrapper; first | (rw [if_pos (by decide +kernel)]; kernel_rfl) | (rw [if_neg (by decide +kernel)]; exact ⟨rfl, rfl⟩))
    (fun os started H enc _ => lifted os started H enc)

end Go.Proofs.Ytijiolkjnlgleaa.orderMakes

namespace Go.Proofs.Ytijiolkjnlgleaa
/-- The statement. -/
theorem orderMakes_holds : Rows.OrderMakesSaid := orderMakes.over
#print axioms orderMakes_holds
end Go.Proofs.Ytijiolkjnlgleaa
