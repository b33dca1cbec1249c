/- For every pool and all numbers: a reference of another generation than its slot's retires nothing, and one that was retired, or reclaimed, does not either. (The statement tendrillaw05.PoolStale.) -/
import Derived.Test.YtfdbbfjnianahaaRows
import Derived.Test.YtfdbbfjnianahaaLaw
import Derived.Test.YtfdbbfjnianahaaFrame
import Derived.WalkKit
namespace Go.Proofs.Ytfdbbfjnianahaa.poolStale
open Go.Joins Go.ChangeShapes Go.WideShapes Go.ChangeAt Go.RowKit Go.Deep
set_option linter.unusedVariables false

set_option maxRecDepth 100000 in
set_option maxHeartbeats 3000000 in
theorem walk (p0 : Pl) (P0 : PL) (a1 : Int) (a2 : Int) (a3 : Int) (w : World) (w0 : Reads w w.heap.size p0 P0) (w1 : (Lit.int .i64 a1).wf = true) (w2 : (Lit.int .i64 a2).wf = true) (w3 : (Lit.int .i64 a3).wf = true) :
    Calls Try.prog 7 #[p0.val, .int .i64 a1, .int .i64 a2, .int .i64 a3] w (Drew (.bool true) w) := by
  clear w1 w2 w3
  have R0 := hide w0
  clear w0
  obtain ⟨A0, A1, A2, A3, n0, n1, n2, n3, c0, c1, c2, c3⟩ := p0
  obtain ⟨G, S, W, F⟩ := P0
  have S0 := hide (stand_in w _ _ R0.out)
  go_enter Try.func7, Try.ntmps7
  go_wp2_with fail
  refine (live_yes _).mono ?_
  rintro e u1 ⟨rfl, b1⟩
  have X1 := hide (S0.out.step b1)
  clear b1 S0
  have hc := X1.out.box.cells
  have hl := X1.out.box.lt
  by_cases few : n0 ≤ 200 ∧ n1 ≤ 200 ∧ n2 ≤ 200 ∧ n3 ≤ 200
  case neg =>
    have HFE := hide few
    clear few
    go_wp2_with fail
    refine (few_no _ _ _ _ _ _ _ _ _ _ _ _ _ HFE).mono ?_
    rintro e u2 ⟨rfl, b2⟩
    have X2 := hide (X1.out.step b2)
    clear b2 X1 hc hl
    go_wp2
    go_ret
    exact ⟨rfl, X2.out.bel⟩
  obtain ⟨m0, m1, m2, m3⟩ := few
  have HM : Hid (Small ⟨A0, A1, A2, A3, n0, n1, n2, n3, c0, c1, c2, c3⟩) := ⟨m0, m1, m2, m3⟩
  obtain ⟨b, hb⟩ := bool_of (MayBe ⟨G, S, W, F⟩)
  have HB := hide hb
  clear hb
  go_wp2_with fail
  refine (few_yes _ _ _ _ _ _ _ _ _ _ _ _ _ m0 m1 m2 m3).mono ?_
  rintro e u2 ⟨rfl, b2⟩
  have X2 := hide (X1.out.step b2)
  clear b2 X1 hc hl
  have hc := X2.out.box.cells
  have hl := X2.out.box.lt
  go_wp2_with fail
  refine (check_any ⟨A0, A1, A2, A3, n0, n1, n2, n3, c0, c1, c2, c3⟩ _ _ b _ X2.out.reads (Nat.le_refl _) HM.out HB).mono ?_
  rintro e u3 ⟨rfl, b3⟩
  have X3 := hide (X2.out.step b3)
  clear b3 X2 hc hl
  have hc := X3.out.box.cells
  have hl := X3.out.box.lt
  cases b with
  | false =>
    have hch : (chk false != 0) = true := by decide
    go_wp2
    go_ret
    exact ⟨rfl, X3.out.bel⟩
  | true =>
    have hch : (chk true != 0) = false := by decide
    have MB := hide (HB.out.1 rfl)
    clear HB
    by_cases hr1 : a1 < 1 ∨ 1125899906842624 < a1
    · have HE := hide (ret_bad (P := ⟨G, S, W, F⟩) hr1 a2)
      have HR1 := hide hr1
      clear hr1
      go_wp2_with fail
      refine (unpack_no _ _ HR1.out).mono ?_
      rintro e w' ⟨rfl, rfl⟩
      go_wp2_with fail
      refine (retire_any ⟨A0, A1, A2, A3, n0, n1, n2, n3, c0, c1, c2, c3⟩ _ _ true a1 a2 _ X3.out.reads (Nat.le_refl _) HM.out (yes_may MB.out)).mono ?_
      rw [HE.out.1, HE.out.2]
      rintro e u4 ⟨q4, rfl, t4, b4⟩
      have hz : q4.n0 = 0 := by have := t4.g.1; simpa [noP] using this.symm
      obtain ⟨D0, D1, D2, D3, e0, e1, e2, e3, d0, d1, d2, d3⟩ := q4
      dsimp only at hz
      subst hz
      have X4 := hide (X3.out.step b4)
      clear t4 b4 X3 hc hl
      have hc := X4.out.box.cells
      have hl := X4.out.box.lt
      go_wp2
      go_ret
      exact ⟨rfl, X4.out.bel.alloc X4.out.bel.size _⟩
    · obtain ⟨X, hX⟩ : ∃ X : Nat, (a1 - 1) % 1024 = (X : Int) := ⟨((a1 - 1) % 1024).toNat, by omega⟩
      obtain ⟨gn, hgn⟩ : ∃ gn : Int, (a1 - 1) / 1024 = gn := ⟨_, rfl⟩
      have HX := hide hX
      have HGN := hide hgn
      have hr2 : 1 ≤ a1 := by omega
      have hr3 : a1 ≤ 1125899906842624 := by omega
      clear hr1 hX hgn
      have HLe := hide (may_lens R0.out MB.out)
      go_wp2_with fail
      refine (unpack_is _ X gn _ hr2 hr3 HX HGN).mono ?_
      rintro e w' ⟨rfl, rfl⟩
      by_cases hXn : n0 ≤ X
      · have HE := hide (ret_far (P := ⟨G, S, W, F⟩) HX.out (show G.length ≤ X by rw [HLe.out.2.2.2.2.2.1]; exact hXn) a2)
        have hd : decide ((n0 : Int) ≤ (X : Int)) = true := by simp; omega
        go_wp2_with fail
        refine (retire_any ⟨A0, A1, A2, A3, n0, n1, n2, n3, c0, c1, c2, c3⟩ _ _ true a1 a2 _ X3.out.reads (Nat.le_refl _) HM.out (yes_may MB.out)).mono ?_
        rw [HE.out.1, HE.out.2]
        rintro e u4 ⟨q4, rfl, t4, b4⟩
        have hz : q4.n0 = 0 := by have := t4.g.1; simpa [noP] using this.symm
        obtain ⟨D0, D1, D2, D3, e0, e1, e2, e3, d0, d1, d2, d3⟩ := q4
        dsimp only at hz
        subst hz
        have X4 := hide (X3.out.step b4)
        clear t4 b4 X3 hc hl
        have hc := X4.out.box.cells
        have hl := X4.out.box.lt
        go_wp2
        go_ret
        exact ⟨rfl, X4.out.bel.alloc X4.out.bel.size _⟩
      have hX1 : X < n0 := by omega
      have hX2 : X < n1 := by rw [HLe.out.1]; exact hX1
      have HXG : Hid (X < G.length) := by show _ < _; rw [HLe.out.2.2.2.2.2.1]; exact hX1
      clear hXn
      have hd : decide ((n0 : Int) ≤ (X : Int)) = false := by simp; omega
      by_cases hok : S.getD X 0 = 1 ∧ G.getD X 0 = gn
      · have ES := hide hok.1
        have EG := hide hok.2
        have HE := hide (ret_good (P := ⟨G, S, W, F⟩) hr2 hr3 HX.out HGN.out HXG.out hok.1 hok.2 a2)
        have HST := hide (stale (P := ⟨G, S, W, F⟩) MB.out hr2 hr3 HX.out HXG.out hok.1 a2 a3)
        have HFA := hide (few_may HST.out.1)
        have HFC := hide (few_may HST.out.2.2.1)
        clear hok
        go_wp2_with fail
        refine (retire_any ⟨A0, A1, A2, A3, n0, n1, n2, n3, c0, c1, c2, c3⟩ _ _ true a1 a2 _ X3.out.reads (Nat.le_refl _) HM.out (yes_may MB.out)).mono ?_
        rw [HE.out.1, HE.out.2]
        rintro e u4 ⟨q4, rfl, t4, b4⟩
        obtain ⟨D0, D1, D2, D3, e0, e1, e2, e3, d0, d1, d2, d3⟩ := q4
        have X4 := hide (X3.out.step b4)
        have Y4 := hide (Stand.first X4.out.bel t4 HFA.out)
        clear t4 b4 X3 hc hl
        have hc := X4.out.box.cells
        have hl := X4.out.box.lt
        have R4 := X4.out.reads
        obtain ⟨bG, oG, eG, hbG, cG⟩ := R4.g.at_ hX1
        obtain ⟨bS, oS, eS, hbS, cS⟩ := R4.s.at_ hX2
        dsimp only at eG eS cG cS
        subst eG
        subst eS
        rw [ES.out] at cS
        rw [EG.out] at cG
        clear R4
        go_wp2_with fail
        refine (reclaim_any ⟨D0, D1, D2, D3, e0, e1, e2, e3, d0, d1, d2, d3⟩ _ _ true a3 _ Y4.out.reads (Nat.le_refl _) Y4.out.small (yes_may HST.out.1)).mono ?_
        rintro e u5 ⟨q5, rfl, t5, b5⟩
        clear hc hl cG cS
        obtain ⟨h, hh⟩ : ∃ h, Hid (u4.heap.size = h) := ⟨_, rfl⟩
        have Y5 := hide (Y4.out.step b5)
        rw [hh.out] at Y5
        rw [hh.out]
        have Z5 := hide (Stand.first Y5.out.bel t5 HFC.out)
        have Y5' := hide (Y5.out.alloc (.cells q5.cs 24))
        obtain ⟨E0, E1, E2, E3, f0, f1, f2, f3, x0, x1, x2, x3⟩ := q5
        clear t5 b5 Y4 X4
        have hc := Y5.out.box.cells
        have hl := Y5.out.box.lt
        go_wp2_with fail
        refine (retire_any ⟨D0, D1, D2, D3, e0, e1, e2, e3, d0, d1, d2, d3⟩ _ _ true a1 a2 _ Y5'.out.reads (Nat.le_refl _) Y5'.out.small (yes_may HST.out.1)).mono ?_
        rw [HST.out.2.1]
        rintro e u6 ⟨q6, rfl, t6, b6⟩
        clear hc hl
        obtain ⟨j, hj⟩ : ∃ j, Hid (u5.heap.size = j) := ⟨_, rfl⟩
        have Z6 := hide (Z5.out.step b6)
        rw [hj.out] at Z6
        rw [hj.out]
        have Z6' := hide (Z6.out.alloc (.cells q6.cs 24))
        obtain ⟨F0, F1, F2, F3, g0, g1, g2, g3, y0, y1, y2, y3⟩ := q6
        clear t6 b6 Y5 Y5' Z5
        have hc := Z6.out.box.cells
        have hl := Z6.out.box.lt
        go_wp2_with fail
        refine (retire_any ⟨E0, E1, E2, E3, f0, f1, f2, f3, x0, x1, x2, x3⟩ _ _ true a1 a2 _ Z6'.out.reads (Nat.le_refl _) Z6'.out.small (yes_may HST.out.2.2.1)).mono ?_
        rw [HST.out.2.2.2]
        rintro e u7 ⟨q7, rfl, t7, b7⟩
        have Z7 := hide (Z6'.out.step b7)
        clear hc hl t7 b7
        go_wp2
        go_ret
        exact ⟨rfl, Z7.out.bel.alloc Z7.out.bel.size _⟩
      · have HE := hide (ret_other (P := ⟨G, S, W, F⟩) hr2 hr3 HX.out HGN.out HXG.out hok a2)
        have HOK := hide hok
        clear hok
        go_wp2_with fail
        refine (retire_any ⟨A0, A1, A2, A3, n0, n1, n2, n3, c0, c1, c2, c3⟩ _ _ true a1 a2 _ X3.out.reads (Nat.le_refl _) HM.out (yes_may MB.out)).mono ?_
        rw [HE.out.1, HE.out.2]
        rintro e u4 ⟨q4, rfl, t4, b4⟩
        obtain ⟨D0, D1, D2, D3, e0, e1, e2, e3, d0, d1, d2, d3⟩ := q4
        have X4 := hide (X3.out.step b4)
        clear t4 b4 X3 hc hl
        have hc := X4.out.box.cells
        have hl := X4.out.box.lt
        have R4 := X4.out.reads
        obtain ⟨bG, oG, eG, hbG, cG⟩ := R4.g.at_ hX1
        obtain ⟨bS, oS, eS, hbS, cS⟩ := R4.s.at_ hX2
        dsimp only at eG eS cG cS
        subst eG
        subst eS
        obtain ⟨sv, hsv⟩ : ∃ sv, Hid (S.getD X 0 = sv) := ⟨_, rfl⟩
        obtain ⟨gv, hgv⟩ : ∃ gv, Hid (G.getD X 0 = gv) := ⟨_, rfl⟩
        rw [hsv.out] at cS
        rw [hgv.out] at cG
        clear R4
        by_cases hg1 : gv = gn
        · have f1 : (gv == gn) = true := by simpa using hg1
          have f2 : (sv == 1) = false := by
            have : ¬ sv = 1 := fun h => HOK.out ⟨hsv.out.trans h, hgv.out.trans hg1⟩
            simpa using this
          clear hg1
          go_wp2
          go_ret
          exact ⟨rfl, X4.out.bel.alloc X4.out.bel.size _⟩
        · have f1 : (gv == gn) = false := by simpa using hg1
          clear hg1
          go_wp2
          go_ret
          exact ⟨rfl, X4.out.bel.alloc X4.out.bel.size _⟩

theorem lifted (os : Os) (started : os.Started) (H : Type) (enc : TypeId × Value → H) :
    ReturnsInHanded {} Try.checked os 7 .any (Rows.poolStaleSpec.pre6 enc Try.prog Try.f7 Rows.poolStaleRow.domain false) (Rows.poolStaleSpec.post enc Try.prog Try.f7 false true false false) := by
  refine returnsInHanded_of_change (C := Try.checked) own started (by kernel_rfl) Try.func7
    (ChangeSpec.witness6 (enc := enc) (C := Try.checked) false ⟨#[], #[.agg #[.slice none 0 0, .slice none 0 0, .slice none 0 0, .slice none 0 0], .int .i64 0, .int .i64 0, .int .i64 0], []⟩ 8 (by kernel_rfl) (by kernel_rfl) (by kernel_rfl) (by kernel_rfl)) ?_
  intro W base args ds gs before hval0 hW hcnd _
  have hval : ∀ (j : Nat) t v, Try.f7.params[j]? = some t → args[j]? = some v → Value.okWide Try.prog W .any base t v := hval0
  have hW' := hW
  obtain ⟨p, q, hA0, hV, rfl, hfz, hnd⟩ := hW
  have hA : DataW.TrodAll enc Try.prog W 0 (fun _ => true) true Try.f7.params.toList args.toList ds p := hA0
  rw [Try.params7] at hA hval
  obtain ⟨x0, vs0, d0, ds0, p0, q0, hargs, rfl, rfl, h0, r0⟩ := trodAll_cons hA
  obtain ⟨x1, vs1, d1, ds1, p1, q1, rfl, rfl, rfl, h1, r1⟩ := trodAll_cons r0
  obtain ⟨x2, vs2, d2, ds2, p2, q2, rfl, rfl, rfl, h2, r2⟩ := trodAll_cons r1
  obtain ⟨x3, vs3, d3, ds3, p3, q3, rfl, rfl, rfl, h3, r3⟩ := trodAll_cons r2
  obtain ⟨rfl, rfl, rfl⟩ := trodAll_nil r3
  obtain rfl : args = #[x0, x1, x2, x3] := by cases args; simp_all
  obtain ⟨rfl, rfl⟩ := trodVars_none hV
  have lt0 : ∀ x ∈ p0, x.block < W.heap.size := by obtain ⟨m, hm⟩ := h0; exact DataW.trod_lt m _ _ _ hm
  obtain ⟨p0, P0, rfl, w0⟩ := open_pool (hval 0 24 x0 rfl rfl) h0
  obtain ⟨a1, rfl, rfl, rfl, w1⟩ := open_int Try.underlying3 (hval 1 3 x1 rfl rfl) h1
  obtain ⟨a2, rfl, rfl, rfl, w2⟩ := open_int Try.underlying3 (hval 2 3 x2 rfl rfl) h2
  obtain ⟨a3, rfl, rfl, rfl, w3⟩ := open_int Try.underlying3 (hval 3 3 x3 rfl rfl) h3
  clear hA0 hval0
  refine (walk p0 P0 a1 a2 a3 W w0 w1 w2 w3).mono fun e W' ⟨he, bel⟩ => ?_
  subst he
  exact ⟨_, rfl, _, _, _, [], _, [], hW', trodAll_mk1 (shut_bool Try.underlying4 _), (trodAll_cons_mk (Below.trod laidOut (by kernel_rfl) (of_decide_eq_true (by kernel_rfl)) h0 bel lt0) (trodAll_cons_mk (shut_int Try.underlying3 w1) (trodAll_cons_mk (shut_int Try.underlying3 w2) (trodAll_cons_mk (shut_int Try.underlying3 w3) trodAll_mk0)))), rfl, bel.frame _, fun h => by cases h⟩

theorem over : Rows.poolStaleRow.holds Try.pinned (OpenSpec.ofChange Rows.poolStaleSpec) :=
  OpenClaim.holds_of_wide 7 Try.f7 rfl rfl rfl rfl rfl rfl rfl ⟨rfl, rfl, rfl, rfl, rfl⟩ rfl rfl rfl rfl rfl (by kernel_rfl) Try.func7 (by kernel_rfl)
    (of_decide_eq_true (by kernel_rfl)) (by unfold Func.isWrapper; first | (rw [if_pos (by decide +kernel)]; kernel_rfl) | (rw [if_neg (by decide +kernel)]; exact ⟨rfl, rfl⟩))
    (fun os started H enc _ => lifted os started H enc)

end Go.Proofs.Ytfdbbfjnianahaa.poolStale

namespace Go.Proofs.Ytfdbbfjnianahaa
/-- The statement. -/
theorem poolStale_holds : Rows.PoolStaleSaid := poolStale.over
#print axioms poolStale_holds
end Go.Proofs.Ytfdbbfjnianahaa
