/- Whatever the numbers and the threads: each number picks a thread that there is, and numbers that are as many threads apart pick the same one; no conditions. (The statement tendrillaw04.LinePicks.) -/
import Derived.Test.YtpldcmhbbhjhgaaRows
import Derived.Test.YtpldcmhbbhjhgaaWalksG
import Derived.Test.YtpldcmhbbhjhgaaWalksH
import Derived.Test.YtpldcmhbbhjhgaaSteps
import Derived.Test.YtpldcmhbbhjhgaaFrame
import Derived.WalkKit
namespace Go.Proofs.Ytpldcmhbbhjhgaa.linePicks
open Go.Joins Go.ChangeShapes Go.WideShapes Go.ChangeAt Go.RowKit Go.Deep
set_option linter.unusedVariables false

theorem one_pick (wr : World) (z y t p : Int) (ht : 1 ≤ t) (ht2 : t ≤ 9223372036854775807) (h : (z + y * t) % t = p) :
    Calls Try.prog 20 #[.slice (some ⟨wr.heap.size, 0, none⟩) 1 1, .int .i64 t] (wr.alloc (.cells #[.int .i64 (z + y * t)] 3)) fun e w' =>
      ∃ g c, e = .returned (.slice (some ⟨g, 0, none⟩) 1 c) ∧ w'.cell? ⟨g, 0, none⟩ = some (.int .i64 p) ∧ Below (wr.heap.size + 1) (wr.alloc (.cells #[.int .i64 (z + y * t)] 3)) w' := by
  refine (picks_yes _ 1 1 (wr.heap.size + 1) [z + y * t] t _ (Nums.lit wr [z + y * t] 3 1 1 rfl) (by simp) (by omega) ht ht2).mono ?_
  rintro e u ⟨A, n, c, rfl, hA, hr, hb⟩
  obtain rfl : n = 1 := own_count hr (by omega) rfl
  obtain ⟨g, cap, hv⟩ := ownsRow_succ hr
  simp only [Value.slice.injEq, true_and] at hv
  obtain ⟨rfl, rfl⟩ := hv
  refine ⟨g, c, rfl, ?_, hb.mono (by simp)⟩
  rw [hr.cellAt 0 (by omega)]
  simp [h]

set_option maxRecDepth 100000 in
set_option maxHeartbeats 4000000 in
theorem walk (A0 : Option Addr) (n0 c0 : Nat) (z0 : List Int) (a1 : Int) (a2 : Int) (w : World) (w0 : Came w 1 A0 n0 c0 z0) (w1 : (Lit.int .i64 a1).wf = true) (w2 : (Lit.int .i64 a2).wf = true) :
    Calls Try.prog 8 #[.slice A0 n0 c0, .int .i64 a1, .int .i64 a2] w (Drew (.bool true) w) := by
  obtain ⟨hN, hnc, hA, hwf⟩ := w0
  have HN := hide hN
  have HW := hide hwf
  have HL : Hid (z0.length = n0) := by have := hN.1; show _ = _; omega
  clear hN hA hwf hnc w1 w2
  have H0 := hide (live_yes w)
  by_cases h0 : 500 < n0
  · have t0 : decide ((500 : Int) < (n0 : Int)) = true := by simp; omega
    go_enter Try.func8, Try.ntmps8
    go_wp2_with fail
    refine H0.out.mono ?_
    rintro e u1 ⟨rfl, hb1⟩
    go_wp2
    go_ret
    exact ⟨rfl, hb1⟩
  have t0 : decide ((500 : Int) < (n0 : Int)) = false := by simp; omega
  by_cases h1 : a1 < 1
  · have t1 : decide (a1 < 1) = true := by simp; omega
    go_enter Try.func8, Try.ntmps8
    go_wp2_with fail
    refine H0.out.mono ?_
    rintro e u1 ⟨rfl, hb1⟩
    go_wp2
    go_ret
    exact ⟨rfl, hb1⟩
  have t1 : decide (a1 < 1) = false := by simp; omega
  by_cases h2 : 1000 < a1
  · have t2 : decide ((1000 : Int) < a1) = true := by simp; omega
    go_enter Try.func8, Try.ntmps8
    go_wp2_with fail
    refine H0.out.mono ?_
    rintro e u1 ⟨rfl, hb1⟩
    go_wp2
    go_ret
    exact ⟨rfl, hb1⟩
  have t2 : decide ((1000 : Int) < a1) = false := by simp; omega
  by_cases h3 : a2 < 0
  · have t3 : decide (a2 < 0) = true := by simp; omega
    go_enter Try.func8, Try.ntmps8
    go_wp2_with fail
    refine H0.out.mono ?_
    rintro e u1 ⟨rfl, hb1⟩
    go_wp2
    go_ret
    exact ⟨rfl, hb1⟩
  have t3 : decide (a2 < 0) = false := by simp; omega
  by_cases h4 : 1000 < a2
  · have t4 : decide ((1000 : Int) < a2) = true := by simp; omega
    go_enter Try.func8, Try.ntmps8
    go_wp2_with fail
    refine H0.out.mono ?_
    rintro e u1 ⟨rfl, hb1⟩
    go_wp2
    go_ret
    exact ⟨rfl, hb1⟩
  have t4 : decide ((1000 : Int) < a2) = false := by simp; omega
  have hn : n0 ≤ 500 := by omega
  have ha1 : 1 ≤ a1 := by omega
  have ha1' : a1 ≤ 1000 := by omega
  have ha2 : 0 ≤ a2 := by omega
  have ha2' : a2 ≤ 1000 := by omega
  clear h0 h1 h2 h3 h4
  have hm0 : 0 ≤ a2 * a1 := Int.mul_nonneg ha2 (by omega)
  have hm1 : a2 * a1 ≤ 1000000 := by
    have := Int.mul_le_mul ha2' ha1' (by omega) (by omega)
    omega
  go_enter Try.func8, Try.ntmps8
  go_wp2_with fail
  refine H0.out.mono ?_
  rintro e u1 ⟨rfl, hb1⟩
  have B1 := hide hb1
  clear hb1
  go_wp2_with fail
  refine (picks_yes _ _ _ w.heap.size z0 a1 _ (HN.out.below B1.out (Nat.le_refl _)) B1.out.size (by omega) ha1 (by omega)).mono ?_
  rintro e u2 ⟨A2, s2, d2, rfl, hA2, hr2, hb2⟩
  obtain rfl : s2 = n0 := own_count hr2 (by omega) (by rw [List.length_map, HL.out]; omega)
  have N2 := hide (own_nums hr2)
  have B2 := hide (B1.out.trans (hb2.mono B1.out.size))
  have hz2 := B2.out.size
  clear hr2 hb2 hA2
  have hnn : (((s2 : Nat) : Int) != (s2 : Int)) = false := by simp
  go_wp2
  go_loopw [42] (fun i wr => ∃ k : Nat, k ≤ s2 ∧ i = .int .i64 k ∧ Hid (Below u2.heap.size u2 wr)) (fun i _ => s2 - (intOf i).toNat)
  case atStart => exact ⟨0, by omega, rfl, Below.refl _ _⟩
  case round =>
    obtain ⟨k, hk, rfl, HB⟩ := hrel
    by_cases hlt : k < s2
    · obtain ⟨b, off, rfl, hb, hc⟩ := (N2.out.below HB.out (Nat.le_refl _)).at_ hlt
      obtain ⟨b', off', rfl, hb', hc'⟩ := ((HN.out.below B2.out (Nat.le_refl _)).below HB.out hz2).at_ hlt
      have hkz : k < z0.length := by have := HL.out; omega
      have hpz : (z0.map (· % a1)).getD k 0 = z0.getD k 0 % a1 := by simp [List.getD_eq_getElem?_getD, hkz]
      obtain ⟨hzl, hzh⟩ := wf_bounds (HW.out (z0.getD k 0) (by simp [List.getD_eq_getElem?_getD, hkz]))
      rw [hpz] at hc
      clear hpz hkz
      have hp0 := Int.emod_nonneg (z0.getD k 0) (show a1 ≠ 0 by omega)
      have hp1 := Int.emod_lt_of_pos (z0.getD k 0) (show 0 < a1 by omega)
      have Hd := hide (Int.emod_add_mul_ediv (z0.getD k 0) a1)
      have Hm := hide (Int.add_mul_emod_self_right (z0.getD k 0) a2 a1)
      generalize z0.getD k 0 = z at *
      generalize hp : z % a1 = p at *
      have d1 : decide (p < 0) = false := by simp; omega
      have d2 : decide (a1 ≤ p) = false := by simp; omega
      by_cases hz : 0 ≤ z
      · have d3 : decide (0 ≤ z) = true := by simpa using hz
        have hmod : (z - p).tmod a1 = 0 := by
          have e : z - p = a1 * (z / a1) := by have := Hd.out; omega
          rw [e, Int.mul_tmod_right]
        by_cases hin : z < 1152921504606846976
        · have d4 : decide (z < 1152921504606846976) = true := by simpa using hin
          have d5 : decide (-1152921504606846976 < z) = true := by simp; omega
          go_wp2_with fail
          refine (one_pick wr z a2 a1 p ha1 (by omega) Hm.out).mono ?_
          rintro e u3 ⟨g, c3, rfl, hc3, hb3⟩
          have HB3 := hide ((HB.out.alloc HB.out.size _).trans (hb3.mono (by have := HB.out.size; omega)))
          clear hb3
          go_wp2
          go_roundw
          case rel => exact ⟨k + 1, by omega, by go_num, HB3⟩
          case measure => simp [intOf]; omega
        · have d4 : decide (z < 1152921504606846976) = false := by simpa using hin
          have d5 : decide (-1152921504606846976 < z) = true := by simp; omega
          go_wp2
          go_roundw
          case rel => exact ⟨k + 1, by omega, by go_num, HB⟩
          case measure => simp [intOf]; omega
      · have d3 : decide (0 ≤ z) = false := by simpa using hz
        by_cases hin : -1152921504606846976 < z
        · have d4 : decide (z < 1152921504606846976) = true := by simp; omega
          have d5 : decide (-1152921504606846976 < z) = true := by simpa using hin
          rcases Bool.eq_false_or_eq_true ((z - p).tmod a1 != 0) with hX | hX
          · skip
            go_wp2_with fail
            refine (one_pick wr z a2 a1 p ha1 (by omega) Hm.out).mono ?_
            rintro e u3 ⟨g, c3, rfl, hc3, hb3⟩
            have HB3 := hide ((HB.out.alloc HB.out.size _).trans (hb3.mono (by have := HB.out.size; omega)))
            clear hb3
            go_wp2
            go_roundw
            case rel => exact ⟨k + 1, by omega, by go_num, HB3⟩
            case measure => simp [intOf]; omega
          · skip
            go_wp2_with fail
            refine (one_pick wr z a2 a1 p ha1 (by omega) Hm.out).mono ?_
            rintro e u3 ⟨g, c3, rfl, hc3, hb3⟩
            have HB3 := hide ((HB.out.alloc HB.out.size _).trans (hb3.mono (by have := HB.out.size; omega)))
            clear hb3
            go_wp2
            go_roundw
            case rel => exact ⟨k + 1, by omega, by go_num, HB3⟩
            case measure => simp [intOf]; omega
        · have d5 : decide (-1152921504606846976 < z) = false := by simpa using hin
          by_cases hw : -9223372036854775808 ≤ z - p
          · rcases Bool.eq_false_or_eq_true ((z - p).tmod a1 != 0) with hX | hX
            · skip
              go_wp2
              go_roundw
              case rel => exact ⟨k + 1, by omega, by go_num, HB⟩
              case measure => simp [intOf]; omega
            · skip
              go_wp2
              go_roundw
              case rel => exact ⟨k + 1, by omega, by go_num, HB⟩
              case measure => simp [intOf]; omega
          · obtain ⟨y, hy⟩ : ∃ y, IntKind.i64.wrap (z - p) = y := ⟨_, rfl⟩
            rcases Bool.eq_false_or_eq_true (y.tmod a1 != 0) with hX | hX
            · skip
              go_wp2
              go_roundw
              case rel => exact ⟨k + 1, by omega, by go_num, HB⟩
              case measure => simp [intOf]; omega
            · skip
              go_wp2
              go_roundw
              case rel => exact ⟨k + 1, by omega, by go_num, HB⟩
              case measure => simp [intOf]; omega
    · go_wp2
      go_ret
      exact ⟨rfl, B2.out.trans (HB.out.mono hz2)⟩


theorem lifted (os : Os) (started : os.Started) (H : Type) (enc : TypeId × Value → H) :
    ReturnsInHanded {} Try.checked os 8 .any (Rows.linePicksSpec.pre6 enc Try.prog Try.f8 Rows.linePicksRow.domain false) (Rows.linePicksSpec.post enc Try.prog Try.f8 false true false false) := by
  refine returnsInHanded_of_change (C := Try.checked) own started (by kernel_rfl) Try.func8
    (ChangeSpec.witness6 (enc := enc) (C := Try.checked) false ⟨#[], #[.slice none 0 0, .int .i64 0, .int .i64 0], []⟩ 8 (by kernel_rfl) (by kernel_rfl) (by kernel_rfl) (by kernel_rfl)) ?_
  intro W base args ds gs before hval0 hW hcnd _
  have hval : ∀ (j : Nat) t v, Try.f8.params[j]? = some t → args[j]? = some v → Value.okWide Try.prog W .any base t v := hval0
  have hW' := hW
  obtain ⟨p, q, hA0, hV, rfl, hfz, hnd⟩ := hW
  have hA : DataW.TrodAll enc Try.prog W 0 (fun _ => true) true Try.f8.params.toList args.toList ds p := hA0
  rw [Try.params8] at hA hval
  obtain ⟨x0, vs0, d0, ds0, p0, q0, hargs, rfl, rfl, h0, r0⟩ := trodAll_cons hA
  obtain ⟨x1, vs1, d1, ds1, p1, q1, rfl, rfl, rfl, h1, r1⟩ := trodAll_cons r0
  obtain ⟨x2, vs2, d2, ds2, p2, q2, rfl, rfl, rfl, h2, r2⟩ := trodAll_cons r1
  obtain ⟨rfl, rfl, rfl⟩ := trodAll_nil r2
  obtain rfl : args = #[x0, x1, x2] := by cases args; simp_all
  obtain ⟨rfl, rfl⟩ := trodVars_none hV
  have lt0 : ∀ x ∈ p0, x.block < W.heap.size := by obtain ⟨m, hm⟩ := h0; exact DataW.trod_lt m _ _ _ hm
  obtain ⟨A0, n0, c0, rfl⟩ := okWide_slice Try.underlying24 (hval 0 24 x0 rfl rfl)
  obtain ⟨z0, w0⟩ := open_flat Try.underlying24 cells3 (by omega) elem3 h0
  obtain ⟨a1, rfl, rfl, rfl, w1⟩ := open_int Try.underlying3 (hval 1 3 x1 rfl rfl) h1
  obtain ⟨a2, rfl, rfl, rfl, w2⟩ := open_int Try.underlying3 (hval 2 3 x2 rfl rfl) h2
  clear hA0 hval0
  refine (walk A0 n0 c0 z0 a1 a2 W w0 w1 w2).mono fun e W' ⟨he, bel⟩ => ?_
  subst he
  exact ⟨_, rfl, _, _, _, [], _, [], hW', trodAll_mk1 (shut_bool Try.underlying4 _), (trodAll_cons_mk (Below.trod laidOut (by kernel_rfl) (of_decide_eq_true (by kernel_rfl)) h0 bel lt0) (trodAll_cons_mk (shut_int Try.underlying3 w1) (trodAll_cons_mk (shut_int Try.underlying3 w2) trodAll_mk0))), rfl, bel.frame _, fun h => by cases h⟩

theorem over : Rows.linePicksRow.holds Try.pinned (OpenSpec.ofChange Rows.linePicksSpec) :=
  OpenClaim.holds_of_wide 8 Try.f8 rfl rfl rfl rfl rfl rfl rfl ⟨rfl, rfl, rfl, rfl, rfl⟩ rfl rfl rfl rfl rfl (by kernel_rfl) Try.func8 (by kernel_rfl)
    (of_decide_eq_true (by kernel_rfl)) (by unfold Func.isWrapper; first | (rw [if_pos (by decide +kernel)]; kernel_rfl) | (rw [if_neg (by decide +kernel)]; exact ⟨rfl, rfl⟩))
    (fun os started H enc _ => lifted os started H enc)

end Go.Proofs.Ytpldcmhbbhjhgaa.linePicks

namespace Go.Proofs.Ytpldcmhbbhjhgaa
/-- The statement. -/
theorem linePicks_holds : Rows.LinePicksSaid := linePicks.over
#print axioms linePicks_holds
end Go.Proofs.Ytpldcmhbbhjhgaa
