/- For every pool and every number: what was retired later than told stays retired; what is reclaimed is free, in another generation; nothing else changes. (The statement tendrillaw05.PoolReclaims.) -/
import Derived.Test.YtfdbbfjnianahaaRows
import Derived.Test.YtfdbbfjnianahaaLaw
import Derived.Test.YtfdbbfjnianahaaFrame
import Derived.WalkKit
namespace Go.Proofs.Ytfdbbfjnianahaa.poolReclaims
open Go.Joins Go.ChangeShapes Go.WideShapes Go.ChangeAt Go.RowKit Go.Deep
set_option linter.unusedVariables false


set_option maxRecDepth 100000 in
set_option maxHeartbeats 3000000 in
theorem walk (p0 : Pl) (P0 : PL) (a1 : Int) (w : World) (w0 : Reads w w.heap.size p0 P0) (w1 : (Lit.int .i64 a1).wf = true) :
    Calls Try.prog 8 #[p0.val, .int .i64 a1] w (Drew (.bool true) w) := by
  clear w1
  have R0 := hide w0
  clear w0
  obtain ⟨A0, A1, A2, A3, n0, n1, n2, n3, c0, c1, c2, c3⟩ := p0
  obtain ⟨G, S, W, F⟩ := P0
  have S0 := hide (stand_in w _ _ R0.out)
  go_enter Try.func8, Try.ntmps8
  go_wp2_with fail
  refine (live_yes _).mono ?_
  rintro e u1 ⟨rfl, b1⟩
  have X1 := hide (S0.out.step b1)
  clear b1 S0
  have hc := X1.out.box.cells
  have hl := X1.out.box.lt
  by_cases few : n0 ≤ 200 ∧ n1 ≤ 200 ∧ n2 ≤ 200 ∧ n3 ≤ 200
  case neg =>
    have HFE := hide few
    clear few
    go_wp2_with fail
    refine (few_no _ _ _ _ _ _ _ _ _ _ _ _ _ HFE).mono ?_
    rintro e u2 ⟨rfl, b2⟩
    have X2 := hide (X1.out.step b2)
    clear b2 X1 hc hl
    go_wp2
    go_ret
    exact ⟨rfl, X2.out.bel⟩
  obtain ⟨m0, m1, m2, m3⟩ := few
  have HM : Hid (Small ⟨A0, A1, A2, A3, n0, n1, n2, n3, c0, c1, c2, c3⟩) := ⟨m0, m1, m2, m3⟩
  obtain ⟨b, hb⟩ := bool_of (MayBe ⟨G, S, W, F⟩)
  have HB := hide hb
  clear hb
  go_wp2_with fail
  refine (few_yes _ _ _ _ _ _ _ _ _ _ _ _ _ m0 m1 m2 m3).mono ?_
  rintro e u2 ⟨rfl, b2⟩
  have X2 := hide (X1.out.step b2)
  clear b2 X1 hc hl
  have hc := X2.out.box.cells
  have hl := X2.out.box.lt
  go_wp2_with fail
  refine (check_any ⟨A0, A1, A2, A3, n0, n1, n2, n3, c0, c1, c2, c3⟩ _ _ b _ X2.out.reads (Nat.le_refl _) HM.out HB).mono ?_
  rintro e u3 ⟨rfl, b3⟩
  have X3 := hide (X2.out.step b3)
  clear b3 X2 hc hl
  have hc := X3.out.box.cells
  have hl := X3.out.box.lt
  cases b with
  | false =>
    have hch : (chk false != 0) = true := by decide
    go_wp2
    go_ret
    exact ⟨rfl, X3.out.bel⟩
  | true =>
    have hch : (chk true != 0) = false := by decide
    have MB := hide (HB.out.1 rfl)
    clear HB
    have HLe := hide (may_lens R0.out MB.out)
    have HMQ := hide (may_reclaim MB.out a1)
    go_wp2_with fail
    refine (reclaim_any ⟨A0, A1, A2, A3, n0, n1, n2, n3, c0, c1, c2, c3⟩ _ _ true a1 _ X3.out.reads (Nat.le_refl _) HM.out (yes_may MB.out)).mono ?_
    rintro e u4 ⟨q4, rfl, t4, b4⟩
    have X4 := hide (X3.out.step b4)
    have X4' := hide (X4.out.alloc (.cells q4.cs 24))
    have Y4 := hide (Stand.first X4.out.bel t4 (few_may HMQ.out))
    have HQL := hide (rec_told MB.out t4)
    obtain ⟨D0, D1, D2, D3, e0, e1, e2, e3, d0, d1, d2, d3⟩ := q4
    obtain ⟨N, HN⟩ : ∃ N : Nat, Hid (recC ⟨G, S, W, F⟩ a1 G.length = N) := ⟨_, rfl⟩
    have HNr : Hid (recN true ⟨G, S, W, F⟩ a1 = (N : Int)) := by show ((recC _ _ G.length : Nat) : Int) = _; rw [HN.out]
    rw [HNr.out]
    clear t4 b4 X3 hc hl
    obtain ⟨q0, q1, q3, q4⟩ := HQL.out
    dsimp only at q0 q1 q3 q4
    rw [HN.out] at q3 q4
    obtain ⟨y1, y2, y3, y4, y5, y6, y7, y8, y9⟩ := HLe.out
    obtain rfl : e0 = n0 := by rw [q0]; exact y6
    obtain rfl : e1 = e0 := by rw [q1]; exact y6
    obtain ⟨n, rfl⟩ : ∃ n, n = e1 := ⟨_, rfl⟩
    have hN : N ≤ 64 := by omega
    obtain ⟨Ni, HNi, p1, p2⟩ : ∃ Ni : Int, Hid ((N : Int) = Ni) ∧ 0 ≤ Ni ∧ Ni ≤ 64 := ⟨_, rfl, by omega, by omega⟩
    have t1 : (((n : Nat) : Int) != (n : Int)) = false := by simp
    have t2 : ((e3 : Int) != (n3 : Int) + Ni) = false := by have := HNi.out; simp; omega
    rw [HNi.out]
    have hn64 : n ≤ 64 := y4
    have hn3 : n3 ≤ 64 := y5
    clear q0 q1 q3 q4 y1 y2 y3 y4 y5 y6 y7 y8 y9
    have hc := X4.out.box.cells
    have hl := X4.out.box.lt
    go_wp2
    obtain ⟨h, hh⟩ : ∃ h, Hid (u4.heap.size = h) := ⟨_, rfl⟩
    obtain ⟨U, hU⟩ : ∃ U, Hid (u4.alloc (.cells (Pl.cs ⟨D0, D1, D2, D3, n, n, e2, e3, d0, d1, d2, d3⟩) 24) = U) := ⟨_, rfl⟩
    have hU' : u4.alloc (.cells #[.slice D0 n d0, .slice D1 n d1, .slice D2 e2 d2, .slice D3 e3 d3] 24) = U := hU.out
    rw [hU', hh.out]
    clear hU' hc hl
    rw [hh.out, hU.out] at Y4
    rw [hU.out] at X4'
    go_loopw [7, 55] (fun c i wr => ∃ k m d : Nat, k ≤ n ∧ i = .int .i64 k ∧ c = .int .i64 m ∧ m ≤ k ∧ wr = U.drewN d ∧ Hid (recC ⟨G, S, W, F⟩ a1 k = m))
      (fun _ i _ => n - (intOf i).toNat)
    case atStart => exact ⟨0, 0, 0, by omega, rfl, rfl, by omega, rfl, rfl⟩
    case round =>
      obtain ⟨k, m, d, hk, rfl, rfl, hmk, rfl, HC⟩ := hrel
      have hcp := X4'.out.box.cells
      have hlp := X4'.out.box.lt
      have hcq := Y4.out.box.cells
      have hlq := Y4.out.box.lt
      by_cases hlt : k < n
      · have HAT := hide (rec_cases MB.out a1 (show k < G.length by rw [HLe.out.2.2.2.2.2.1]; exact hlt))
        have hltI : (k : Int) < (n : Int) := by omega
        have hltJ : (0 : Int) ≤ (k : Int) := by omega
        obtain ⟨bG, oG, eG, hbG, cG⟩ := X4'.out.reads.g.at_ hlt
        obtain ⟨bS, oS, eS, hbS, cS⟩ := X4'.out.reads.s.at_ (show k < n1 by rw [HLe.out.1]; exact hlt)
        obtain ⟨bT, oT, eT, hbT, cT⟩ := X4'.out.reads.t.at_ (show k < n2 by rw [HLe.out.2.1]; exact hlt)
        obtain ⟨rG, sG, fG, kbG, dG⟩ := Y4.out.reads.g.at_ hlt
        obtain ⟨rS, sS, fS, kbS, dS⟩ := Y4.out.reads.s.at_ hlt
        have n1I : (k : Int) < (n1 : Int) := by rw [HLe.out.1]; omega
        have n2I : (k : Int) < (n2 : Int) := by rw [HLe.out.2.1]; omega
        dsimp only at eG eS eT fG fS cG cS cT dG dS
        subst eG
        subst eS
        subst eT
        subst fG
        subst fS
        obtain ⟨sv, ES⟩ : ∃ sv, Hid (S.getD k 0 = sv) := ⟨_, rfl⟩
        obtain ⟨gv, EG⟩ : ∃ gv, Hid (G.getD k 0 = gv) := ⟨_, rfl⟩
        obtain ⟨tv, ET⟩ : ∃ tv, Hid (W.getD k 0 = tv) := ⟨_, rfl⟩
        rw [EG.out] at cG
        rw [ES.out] at cS
        rw [ET.out] at cT
        rcases HAT.out with ⟨hD, v1, v2, v3, v4, v5, v6⟩ | ⟨hD, v1, v2⟩
        · have HD := hide hD
          dsimp only at v3 v4 v5 v6
          rw [ES.out] at v3
          rw [ET.out] at v4
          rw [EG.out] at v5 v6 v1
          rw [v2] at dS
          rw [v1] at dG
          subst v3
          have z1 : IntKind.i64.wrap (gv + 1) = gv + 1 := IntWalk.i64_in _ (by omega)
          have f1 : ((0 : Int) == 2) = false := by decide
          have f2 : ((2 : Int) != 2) = false := by decide
          have f3 : ((0 : Int) != 0) = false := by decide
          have f4 : decide (a1 < tv) = false := by simp; omega
          have f5 : ((gv + 1) != (gv + 1)) = false := by simp
          clear hD v1 v2
          go_wp2
          go_quiet (fail)
          go_wp2
          go_quiet (fail)
          go_wp2
          go_roundw
          case rel => exact ⟨k + 1, m + 1, _, by omega, by go_num, by go_num, by omega, rfl, by show _ = _; rw [recC, if_pos HD.out, HC.out]⟩
          case measure => simp [intOf]; omega
        · have HD := hide hD
          dsimp only at v1 v2
          rw [EG.out] at v1
          rw [ES.out] at v2
          rw [v2] at dS
          rw [v1] at dG
          have f1 : (sv == sv) = true := by simp
          have f2 : (gv != gv) = false := by simp
          by_cases g1 : sv = 2
          · have f3 : (sv == 2) = true := by simpa using g1
            by_cases g2 : tv ≤ a1
            · have f4 : decide (tv ≤ a1) = true := by simpa using g2
              have f5 : decide (gv < 1099511627775) = false := by
                have : ¬ gv < 1099511627775 := fun h => hD ⟨ES.out.trans g1, by show W.getD k 0 ≤ a1; rw [ET.out]; exact g2, by show G.getD k 0 < _; rw [EG.out]; exact h⟩
                simpa using this
              clear hD v1 v2 g1
              go_wp2
              go_quiet (fail)
              go_wp2
              go_quiet (fail)
              go_wp2
              go_roundw
              case rel => exact ⟨k + 1, m, _, by omega, by go_num, rfl, by omega, rfl, by show _ = _; rw [recC, if_neg HD.out]; exact HC.out⟩
              case measure => simp [intOf]; omega
            · have f4 : decide (tv ≤ a1) = false := by simpa using g2
              clear hD v1 v2 g1
              go_wp2
              go_quiet (fail)
              go_wp2
              go_quiet (fail)
              go_wp2
              go_roundw
              case rel => exact ⟨k + 1, m, _, by omega, by go_num, rfl, by omega, rfl, by show _ = _; rw [recC, if_neg HD.out]; exact HC.out⟩
              case measure => simp [intOf]; omega
          · have f3 : (sv == 2) = false := by simpa using g1
            clear hD v1 v2 g1
            go_wp2
            go_quiet (fail)
            go_wp2
            go_quiet (fail)
            go_wp2
            go_roundw
            case rel => exact ⟨k + 1, m, _, by omega, by go_num, rfl, by omega, rfl, by show _ = _; rw [recC, if_neg HD.out]; exact HC.out⟩
            case measure => simp [intOf]; omega
      · have HMN : Hid ((m : Int) = Ni) := by show _ = _; rw [← HNi.out, ← HN.out, HLe.out.2.2.2.2.2.1, show n = k by omega, HC.out]
        have e1 : ((m : Int) == Ni) = true := by rw [HMN.out]; simp
        have YS := hide (Y4.out.step (Below.drewN (Below.refl U.heap.size U) d))
        have hch2 : (chk true == 0) = true := by decide
        go_wp2_with fail
        refine (check_any ⟨D0, D1, D2, D3, n, n, e2, e3, d0, d1, d2, d3⟩ _ _ true _ YS.out.reads (Nat.le_refl _) YS.out.small (yes_may HMQ.out)).mono ?_
        rintro e u5 ⟨rfl, b5⟩
        have Y5 := hide (YS.out.step b5)
        clear b5 hcp hlp hcq hlq
        go_wp2
        go_ret
        exact ⟨rfl, Y5.out.bel⟩

theorem lifted (os : Os) (started : os.Started) (H : Type) (enc : TypeId × Value → H) :
    ReturnsInHanded {} Try.checked os 8 .any (Rows.poolReclaimsSpec.pre6 enc Try.prog Try.f8 Rows.poolReclaimsRow.domain false) (Rows.poolReclaimsSpec.post enc Try.prog Try.f8 false true false false) := by
  refine returnsInHanded_of_change (C := Try.checked) own started (by kernel_rfl) Try.func8
    (ChangeSpec.witness6 (enc := enc) (C := Try.checked) false ⟨#[], #[.agg #[.slice none 0 0, .slice none 0 0, .slice none 0 0, .slice none 0 0], .int .i64 0], []⟩ 8 (by kernel_rfl) (by kernel_rfl) (by kernel_rfl) (by kernel_rfl)) ?_
  intro W base args ds gs before hval0 hW hcnd _
  have hval : ∀ (j : Nat) t v, Try.f8.params[j]? = some t → args[j]? = some v → Value.okWide Try.prog W .any base t v := hval0
  have hW' := hW
  obtain ⟨p, q, hA0, hV, rfl, hfz, hnd⟩ := hW
  have hA : DataW.TrodAll enc Try.prog W 0 (fun _ => true) true Try.f8.params.toList args.toList ds p := hA0
  rw [Try.params8] at hA hval
  obtain ⟨x0, vs0, d0, ds0, p0, q0, hargs, rfl, rfl, h0, r0⟩ := trodAll_cons hA
  obtain ⟨x1, vs1, d1, ds1, p1, q1, rfl, rfl, rfl, h1, r1⟩ := trodAll_cons r0
  obtain ⟨rfl, rfl, rfl⟩ := trodAll_nil r1
  obtain rfl : args = #[x0, x1] := by cases args; simp_all
  obtain ⟨rfl, rfl⟩ := trodVars_none hV
  have lt0 : ∀ x ∈ p0, x.block < W.heap.size := by obtain ⟨m, hm⟩ := h0; exact DataW.trod_lt m _ _ _ hm
  obtain ⟨p0, P0, rfl, w0⟩ := open_pool (hval 0 24 x0 rfl rfl) h0
  obtain ⟨a1, rfl, rfl, rfl, w1⟩ := open_int Try.underlying3 (hval 1 3 x1 rfl rfl) h1
  clear hA0 hval0
  refine (walk p0 P0 a1 W w0 w1).mono fun e W' ⟨he, bel⟩ => ?_
  subst he
  exact ⟨_, rfl, _, _, _, [], _, [], hW', trodAll_mk1 (shut_bool Try.underlying4 _), (trodAll_cons_mk (Below.trod laidOut (by kernel_rfl) (of_decide_eq_true (by kernel_rfl)) h0 bel lt0) (trodAll_cons_mk (shut_int Try.underlying3 w1) trodAll_mk0)), rfl, bel.frame _, fun h => by cases h⟩

theorem over : Rows.poolReclaimsRow.holds Try.pinned (OpenSpec.ofChange Rows.poolReclaimsSpec) :=
  OpenClaim.holds_of_wide 8 Try.f8 rfl rfl rfl rfl rfl rfl rfl ⟨rfl, rfl, rfl, rfl, rfl⟩ rfl rfl rfl rfl rfl (by kernel_rfl) Try.func8 (by kernel_rfl)
    (of_decide_eq_true (by kernel_rfl)) (by unfold Func.isWrapper; first | (rw [if_pos (by decide +kernel)]; kernel_rfl) | (rw [if_neg (by decide +kernel)]; exact ⟨rfl, rfl⟩))
    (fun os started H enc _ => lifted os started H enc)

end Go.Proofs.Ytfdbbfjnianahaa.poolReclaims

namespace Go.Proofs.Ytfdbbfjnianahaa
/-- The statement. -/
theorem poolReclaims_holds : Rows.PoolReclaimsSaid := poolReclaims.over
#print axioms poolReclaims_holds
end Go.Proofs.Ytfdbbfjnianahaa
