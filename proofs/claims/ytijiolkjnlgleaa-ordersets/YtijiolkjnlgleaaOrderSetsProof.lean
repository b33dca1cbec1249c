/- A set is a set, has what it was made of, and nothing else, and is the same, whatever order that was told in: for every list and every number the answer is true. (The statement tendrillaw09.OrderSets.) -/
import Derived.Test.YtijiolkjnlgleaaRows
import Derived.Test.YtijiolkjnlgleaaStep
import Derived.Test.YtijiolkjnlgleaaFrame
import Derived.WalkKit
namespace Go.Proofs.Ytijiolkjnlgleaa.orderSets
open Go.Joins Go.ChangeShapes Go.WideShapes Go.ChangeAt Go.RowKit Go.Deep
set_option linter.unusedVariables false

set_option maxRecDepth 100000 in
set_option maxHeartbeats 2000000 in
theorem walk (A0 : Option Addr) (n0 c0 : Nat) (z0 : List Int) (a1 : Int) (w : World) (w0 : Came w 1 A0 n0 c0 z0) (s0 : n0 ≤ 17592186044416) (w1 : (Lit.int .i64 a1).wf = true) :
    Calls Try.prog 5 #[.slice A0 n0 c0, .int .i64 a1] w (Drew (.bool true) w) := by
  obtain ⟨hN, hnc, hA, hwf⟩ := w0
  have HN := hide hN
  have HA := hide hA
  have HW := hide hwf
  have HL : Hid (z0.length = n0) := by have := hN.1; show _ = _; omega
  clear hN hA hwf
  have H0 := hide (live_yes w)
  have HU := hide (len_sset z0)
  by_cases h1 : 200 < n0
  · have t1 : decide ((200 : Int) < (n0 : Int)) = true := by simp; omega
    have t2 : decide ((0 : Int) < (n0 : Int)) = true := by simp; omega
    go_enter Try.func5, Try.ntmps5
    go_wp2_with fail
    refine (H0.out).mono ?_
    rintro e u1 ⟨rfl, hb⟩
    have HN := hide (HN.out.step hb)
    have B := hide hb
    clear hb
    go_wp2
    go_ret
    exact ⟨rfl, B.out⟩
  have t1 : decide ((200 : Int) < (n0 : Int)) = false := by simp; omega
  have hn0 : n0 ≤ 200 := by omega
  clear h1
  by_cases h2 : n0 = 0
  · subst h2
    go_enter Try.func5, Try.ntmps5
    go_wp2_with fail
    refine (H0.out).mono ?_
    rintro e u1 ⟨rfl, hb⟩
    have HN := hide (HN.out.step hb)
    have B := hide hb
    clear hb
    go_wp2_with fail
    refine (set_any none 0 0 [] u1 Nums.nil (by intro z hz; cases hz) (by omega)).mono ?_
    rintro e u2 ⟨Ae, me, de, rfl, hAe, hr, hb⟩
    have HN := hide (HN.out.step hb)
    have B := hide (B.out.trans (hb.mono B.out.size))
    have Ne := hide (own_nums hr)
    have Le := hide (own_len hr)
    clear hr hb
    obtain rfl : me = 0 := Le.out
    go_wp2
    go_ret
    exact ⟨rfl, B.out⟩
  have t2 : ((n0 : Int) == 0) = false := by simp; omega
  have hpos : 1 ≤ n0 := by omega
  clear h2
  have hb := wf_bounds w1
  clear w1
  obtain ⟨k, hkn, hk⟩ := turn_k a1 n0 hpos hn0
  obtain ⟨b, off, rfl, hbl, _⟩ := HN.out.at_ (k := 0) (by omega)
  have HWT : Hid (∀ z ∈ z0.drop k ++ z0.take k, (Lit.int .i64 z).wf = true) := fun z hz => HW.out z ((List.mem_append.1 hz).elim List.mem_of_mem_drop List.mem_of_mem_take)
  have HWS : Hid (∀ z ∈ sset z0, (Lit.int .i64 z).wf = true) := fun z hz => HW.out z (mem_sset.1 hz)
  have IU : Hid (Ups (sset z0)) := (ups_iff _).2 (up_sset _)
  have HI : Hid (within (sset z0) z0 = true) := within_iff.2 fun z hz => mem_sset.1 hz
  go_enter Try.func5, Try.ntmps5
  go_wp2_with fail
  refine (H0.out).mono ?_
  rintro e u1 ⟨rfl, hb⟩
  have HN := hide (HN.out.step hb)
  have B := hide hb
  clear hb
  go_wp2_with fail
  refine (set_any _ n0 c0 z0 u1 HN.out HW s0).mono ?_
  rintro e u2 ⟨As, ms, ds, rfl, hAs, hr, hb⟩
  have HN := hide (HN.out.step hb)
  have B := hide (B.out.trans (hb.mono B.out.size))
  have Ns := hide (own_nums hr)
  have Ls := hide (own_len hr)
  clear hr hb
  have hms : ms ≤ n0 := by have := Ls.out; have := HU.out; have := HL.out; omega
  go_wp2
  clear hk
  generalize wrap64 (a1.tmod n0 + n0) = r1
  generalize a1.tmod n0 = r2
  have N1 := hide (news_drop (k := k) HN.out (by omega))
  have N2 := hide (news_take (k := k) HN.out (by omega))
  have i1 : (0 : Int) ≤ (k : Int) := by omega
  have i2 : (k : Int) ≤ (n0 : Int) := by omega
  have i3 : (n0 : Int) ≤ (c0 : Int) := by omega
  have i4 : (k : Int) ≤ (c0 : Int) := by omega
  have i5 : ¬ c0 - k = 0 := by omega
  have i6 : ((k : Int)).toNat = k := by omega
  have i7 : ¬ c0 = k := by omega
  have K1 : Hid ((z0.drop k).length = n0 - k) := by have := HL.out; show _ = _; rw [List.length_drop]; omega
  have K2 : Hid ((z0.take k).length = k) := by have := HL.out; show _ = _; rw [List.length_take]; omega
  have K3 : Hid (0 + (n0 - k) ≤ 1000) := by show _ ≤ _; omega
  have K4 : Hid (0 + (n0 - k) + k ≤ 1000) := by show _ ≤ _; omega
  have K5 : Hid (n0 - k + k ≤ 17592186044416) := by show _ ≤ _; omega
  have K6 : Hid (k ≤ n0) := by show _ ≤ _; omega
  have D0 := hide ((Below.refl u2.heap.size u2).drew)
  go_region_held3 (fun _ => True) (trivial)
    (first
      | ((go_at_call 11; refine (set_any A4 (n0 - k + k) c4 (z0.drop k ++ z0.take k) x4 (own_nums O4.out) HWT K5.out).mono ?_; rintro e x5 ⟨A5, m5, c5, rfl, hA5, hr5, hb5⟩))
      | ((refine step_app _ (by rfl) _ _ (by rfl) u2.heap.size none 0 0 [] (by rfl) (World.ownsRow_nil _ _ _ _) ⟨b, off + k, none⟩ (n0 - k) (c0 - k) (z0.drop k) (by rfl) K1.out N1.out K3.out (Nat.le_refl _) ?_; intro A3 c3 x3 O3 B3'; have B3 := hide (D0.out.trans B3'.out); clear B3'))
      | ((refine step_app _ (by rfl) _ _ (by rfl) u2.heap.size A3 (0 + (n0 - k)) c3 ([] ++ z0.drop k) (by rfl) O3.out ⟨b, off, none⟩ k c0 (z0.take k) (by rfl) K2.out (news_take (k := k) (HN.out.below B3.out (Nat.le_refl _)) K6.out) K4.out B3.out.size ?_; intro A4 c4 x4 O4' B4'; have O4 := hide (own_turn O4'.out); have B4 := hide (B3.out.trans B4'.out); clear B4' O4'))
      )
  have hb := B4.out.trans (hb5.mono B4.out.size)
  have HN := hide (HN.out.step hb)
  have Ns := hide (Ns.out.step hb)
  have B := hide (B.out.trans (hb.mono B.out.size))
  rw [sset_turn] at hr5
  have Nt := hide (own_nums hr5)
  have Lt := hide (own_len hr5)
  obtain rfl : m5 = ms := by have := Ls.out; have := Lt.out; omega
  clear hb hb5 hr5 hA5 O4 B4 O3 B3 D0 N1 N2 K1 K2 K3 K4 K5 K6 i1 i2 i3 i4 i5 i6 i7
  go_wp2_with fail
  refine (chk_yes As m5 ds _ (sset z0) x5 Ns.out IU.out (by omega)).mono ?_
  rintro e u3 ⟨rfl, hb⟩
  have HN := hide (HN.out.step hb)
  have Ns := hide (Ns.out.step hb)
  have Nt := hide (Nt.out.step hb)
  have B := hide (B.out.trans (hb.mono B.out.size))
  clear hb
  go_wp2_with fail
  refine (same_yes As A5 m5 ds c5 _ _ (sset z0) u3 Ns.out Nt.out (by omega)).mono ?_
  rintro e u4 ⟨rfl, hb⟩
  have HN := hide (HN.out.step hb)
  have Ns := hide (Ns.out.step hb)
  have Nt := hide (Nt.out.step hb)
  have B := hide (B.out.trans (hb.mono B.out.size))
  clear hb
  go_wp2_with fail
  refine (set_any As m5 ds (sset z0) u4 Ns.out HWS (by omega)).mono ?_
  rintro e u5 ⟨Av, mv, dv, rfl, hAv, hr, hb⟩
  have HN := hide (HN.out.step hb)
  have Ns := hide (Ns.out.step hb)
  have Nt := hide (Nt.out.step hb)
  have B := hide (B.out.trans (hb.mono B.out.size))
  have Nv := hide (own_nums hr)
  have Lv := hide (own_len hr)
  clear hr hb
  obtain rfl : mv = m5 := by have := Ls.out; have := Lv.out; rw [sset_sset] at this; omega
  have Nv := hide (Nv.out.as (sset_sset z0))
  go_wp2_with fail
  refine (same_yes Av As mv dv ds _ _ (sset z0) u5 Nv.out Ns.out (by omega)).mono ?_
  rintro e u6 ⟨rfl, hb⟩
  have HN := hide (HN.out.step hb)
  have Ns := hide (Ns.out.step hb)
  have Nt := hide (Nt.out.step hb)
  have Nv := hide (Nv.out.step hb)
  have B := hide (B.out.trans (hb.mono B.out.size))
  clear hb
  go_wp2
  go_loopw [67] (fun i wr => ∃ k : Nat, k ≤ n0 ∧ i = .int .i64 k ∧ wr = u6) (fun i _ => n0 - (intOf i).toNat)
  case atStart => exact ⟨0, by omega, rfl, rfl⟩
  case round =>
    obtain ⟨j, hj, rfl, rfl⟩ := hrel
    by_cases hlt : j < n0
    · obtain ⟨b', off', e1, _, hc⟩ := HN.out.at_ hlt
      simp only [Option.some.injEq, Addr.mk.injEq, and_true] at e1
      obtain ⟨rfl, rfl⟩ := e1
      have HC : Hid ((sset z0).contains (z0.getD j 0) = true) := List.contains_iff_mem.2 (mem_sset.2 (by have := HL.out; simp [show j < z0.length by omega]))
      generalize z0.getD j 0 = z at hc HC
      go_wp2_with fail
      refine (has_any As mv ds _ (sset z0) z true _ Ns.out HC (by omega)).mono ?_
      rintro e v0 ⟨rfl, rfl⟩
      go_wp2
      go_roundw
      case rel => exact ⟨j + 1, by omega, by go_num, trivial⟩
      case measure => simp [intOf]; omega
    · have t9 : decide ((mv : Int) ≤ (n0 : Int)) = true := by simp; omega
      go_wp2_with fail
      refine (within_any As (some ⟨b, off, none⟩) mv n0 ds c0 (sset z0) z0 true _ Ns.out HN.out HWS HW HI (by omega) s0).mono ?_
      rintro e v1 ⟨rfl, hb⟩
      go_wp2
      go_ret
      exact ⟨rfl, B.out.trans (hb.mono B.out.size)⟩

theorem lifted (os : Os) (started : os.Started) (H : Type) (enc : TypeId × Value → H) :
    ReturnsInHanded {} Try.checked os 5 .any (Rows.orderSetsSpec.pre6 enc Try.prog Try.f5 Rows.orderSetsRow.domain false) (Rows.orderSetsSpec.post enc Try.prog Try.f5 false true false false) := by
  refine returnsInHanded_of_change_sized (C := Try.checked) own started (by kernel_rfl) Try.func5
    (ChangeSpec.witness6 (enc := enc) (C := Try.checked) false ⟨#[], #[.slice none 0 0, .int .i64 0], []⟩ 8 (by kernel_rfl) (by kernel_rfl) (by kernel_rfl) (by kernel_rfl)) ?_
  intro W base args ds gs before hval0 hW hcnd hz0 _
  have hval : ∀ (j : Nat) t v, Try.f5.params[j]? = some t → args[j]? = some v → Value.okWide Try.prog W .any base t v := hval0
  have hW' := hW
  obtain ⟨p, q, hA0, hV, rfl, hfz, hnd⟩ := hW
  have hA : DataW.TrodAll enc Try.prog W 0 (fun _ => true) true Try.f5.params.toList args.toList ds p := hA0
  have hz := hz0
  rw [Try.params5] at hA hval hz
  obtain ⟨x0, vs0, d0, ds0, p0, q0, hargs, rfl, rfl, h0, r0⟩ := trodAll_cons hA
  obtain ⟨x1, vs1, d1, ds1, p1, q1, rfl, rfl, rfl, h1, r1⟩ := trodAll_cons r0
  obtain ⟨rfl, rfl, rfl⟩ := trodAll_nil r1
  obtain rfl : args = #[x0, x1] := by cases args; simp_all
  obtain ⟨rfl, rfl⟩ := trodVars_none hV
  have lt0 : ∀ x ∈ p0, x.block < W.heap.size := by obtain ⟨m, hm⟩ := h0; exact DataW.trod_lt m _ _ _ hm
  obtain ⟨A0, n0, c0, rfl⟩ := okWide_slice Try.underlying22 (hval 0 22 x0 rfl rfl)
  obtain ⟨z0, w0⟩ := open_flat Try.underlying22 cells3 (by omega) elem3 h0
  have s0 := open_size (j := 0) h0 hz rfl rfl
  obtain ⟨a1, rfl, rfl, rfl, w1⟩ := open_int Try.underlying3 (hval 1 3 x1 rfl rfl) h1
  clear hA0 hval0 hz0
  refine (walk A0 n0 c0 z0 a1 W w0 s0 w1).mono fun e W' ⟨he, bel⟩ => ?_
  subst he
  exact ⟨_, rfl, _, _, _, [], _, [], hW', trodAll_mk1 (shut_bool Try.underlying4 _), (trodAll_cons_mk (Below.trod laidOut (by kernel_rfl) (of_decide_eq_true (by kernel_rfl)) h0 bel lt0) (trodAll_cons_mk (shut_int Try.underlying3 w1) trodAll_mk0)), rfl, bel.frame _, fun h => by cases h⟩

theorem over : Rows.orderSetsRow.holds Try.pinned (OpenSpec.ofChange Rows.orderSetsSpec) :=
  OpenClaim.holds_of_wide 5 Try.f5 rfl rfl rfl rfl rfl rfl rfl ⟨rfl, rfl, rfl, rfl, rfl⟩ rfl rfl rfl rfl rfl (by kernel_rfl) Try.func5 (by kernel_rfl)
    (of_decide_eq_true (by kernel_rfl)) (by unfold Func.isWrapper; first | (rw [if_pos (by decide +kernel)]; kernel_rfl) | (rw [if_neg (by decide +kernel)]; exact ⟨rfl, rfl⟩))
    (fun os started H enc _ => lifted os started H enc)

end Go.Proofs.Ytijiolkjnlgleaa.orderSets

namespace Go.Proofs.Ytijiolkjnlgleaa
/-- The statement. -/
theorem orderSets_holds : Rows.OrderSetsSaid := orderSets.over
#print axioms orderSets_holds
end Go.Proofs.Ytijiolkjnlgleaa
