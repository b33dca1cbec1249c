/- Whatever the configuration and the numbers: where a thing stands, that thing is told, and what is told of a word stands there; no conditions. (The statement tendrillaw03.PlaceBack, as the card that ties the table of lengths to the program's text.) -/
import Derived.Test.YtknbllhkifigbaaDoorRows
import Derived.Test.YtknbllhkifigbaaDoorCards
import Derived.Test.YtknbllhkifigbaaDoorTie
import Derived.Test.YtknbllhkifigbaaDoorSteps
import Derived.Test.YtknbllhkifigbaaDoorFrame
import Derived.SevenTiedAt
import Derived.Deep.DeepCutAuto
namespace Go.Proofs.YtknbllhkifigbaaDoor.placeBack
open Go.Joins Go.ChangeShapes Go.WideShapes Go.ChangeAt Go.RowKit Go.Deep
set_option linter.unusedVariables false

theorem whats_of {n e p i j x m fd A : Int} (h : Stands n e p i j x m fd A 0) : Whats n e p i j A x m fd 0 := stands_whats h
theorem fields_of {n e p i j x m fd A : Int} (h : Stands n e p i j x m fd A 0) (hx : 1 ≤ x ∧ x ≤ 3) : Fields n e p i j x m fd A 0 := .inl ⟨hx, h⟩

set_option maxRecDepth 100000 in
set_option maxHeartbeats 4000000 in
theorem walk (n e p i j : Int) (a1 : Int) (k1 : (Lit.int .i64 a1).wf = true) (a2 : Int) (k2 : (Lit.int .i64 a2).wf = true) (a3 : Int) (k3 : (Lit.int .i64 a3).wf = true) (a4 : Int) (k4 : (Lit.int .i64 a4).wf = true) (a5 : Int) (k5 : (Lit.int .i64 a5).wf = true) (w : World) (T : Hid (Tab w)) :
    Calls Tryd.prog 6 #[.agg #[.int .i64 n, .int .i64 e, .int .i64 p, .int .i64 i, .int .i64 j], .int .i64 a1, .int .i64 a2, .int .i64 a3, .int .i64 a4, .int .i64 a5] w (Drew (.bool true) w) := by
  obtain ⟨A1, E1, hS1⟩ := Stands.some n e p i j 4 a1 0
  obtain ⟨A2, E2, hS2⟩ := Stands.some n e p i j 5 a1 0
  obtain ⟨A3, E3, hS3⟩ := Fields.some n e p i j a2 a3 a4
  have H1 := hide hS1
  have H2 := hide hS2
  have H3 := hide hS3
  have G1 := hide hS1.err
  have G2 := hide hS2.err
  have G3 := hide hS3.err
  clear hS1 hS2 hS3 k1 k2 k3 k4 k5
  have P1 : Hid (E1 = 0 → Hid (Whats n e p i j A1 4 a1 0 0)) := fun h => by subst h; exact whats_of H1.out
  have P2 : Hid (E2 = 0 → Hid (Whats n e p i j A2 5 a1 0 0)) := fun h => by subst h; exact whats_of H2.out
  have P3 : Hid (E3 = 0 → Hid (Whats n e p i j A3 a2 a3 a4 0)) := fun h => by subst h; exact whats_of (stands_of_fields H3.out)
  have T1 : Hid (∀ o, Tab (w.alloc o)) := fun o => T.out.alloc o
  go_enter Tryd.func6, Tryd.ntmps6
  go_wp2_with fail
  refine (live_yes _ (T1.out _)).mono ?_
  rintro r w1 ⟨rfl, hb1⟩
  have B1 : Boxed w w1 n e p i j := hb1
  clear hb1
  have hcc := boxed_cells B1
  go_wp2_with fail
  refine (node_any _ _ _ _ _ _ _ _ _ H1 (boxed_tab T B1)).mono ?_
  rintro r w2 ⟨rfl, hb2⟩
  have B2 := boxed_step B1 hb2
  clear hb2
  clear hcc
  have hcc := boxed_cells B2
  go_upto_if 46 with (fail)
  go_cut [] (fun wx => Boxed w wx n e p i j)
  case first =>
    rcases G1.out with rfl | ⟨rfl, -⟩
    · have W1 := P1.out rfl
      go_wp2_with fail
      refine (where_any _ _ _ _ _ _ _ _ _ _ _ W1 (boxed_tab T B2)).mono ?_
      rintro r wz ⟨rfl, hbz⟩
      have BZ := boxed_step B2 hbz
      clear hbz
      go_wp2_with fail
      go_meet
      exact BZ
    · go_wp2_with fail
      go_meet
      exact B2
  have C2 : Boxed w wc n e p i j := hcut
  clear hcut
  clear hcc
  have hcc := boxed_cells C2
  go_wp2_with fail
  refine (edge_any _ _ _ _ _ _ _ _ _ H2 (boxed_tab T C2)).mono ?_
  rintro r w3 ⟨rfl, hb3⟩
  have B3 := boxed_step C2 hb3
  clear hb3
  clear hcc
  have hcc := boxed_cells B3
  go_upto_if 77 with (fail)
  go_cut [] (fun wx => Boxed w wx n e p i j)
  case first =>
    rcases G2.out with rfl | ⟨rfl, -⟩
    · have W1 := P2.out rfl
      go_wp2_with fail
      refine (where_any _ _ _ _ _ _ _ _ _ _ _ W1 (boxed_tab T B3)).mono ?_
      rintro r wz ⟨rfl, hbz⟩
      have BZ := boxed_step B3 hbz
      clear hbz
      go_wp2_with fail
      go_meet
      exact BZ
    · go_wp2_with fail
      go_meet
      exact B3
  have C3 : Boxed w wc n e p i j := hcut
  clear hcut
  clear hcc
  have hcc := boxed_cells C3
  go_wp2_with fail
  refine (field_any _ _ _ _ _ _ _ _ _ _ _ H3 (boxed_tab T C3)).mono ?_
  rintro r w4 ⟨rfl, hb4⟩
  have B4 := boxed_step C3 hb4
  clear hb4
  clear hcc
  have hcc := boxed_cells B4
  go_upto_if 110 with (fail)
  go_cut [] (fun wx => Boxed w wx n e p i j)
  case first =>
    rcases G3.out with rfl | ⟨rfl, -⟩
    · have W1 := P3.out rfl
      go_wp2_with fail
      refine (where_any _ _ _ _ _ _ _ _ _ _ _ W1 (boxed_tab T B4)).mono ?_
      rintro r wz ⟨rfl, hbz⟩
      have BZ := boxed_step B4 hbz
      clear hbz
      go_wp2_with fail
      go_meet
      exact BZ
    · go_wp2_with fail
      go_meet
      exact B4
  have C4 : Boxed w wc n e p i j := hcut
  clear hcut
  clear hcc
  have hcc := boxed_cells C4
  obtain ⟨v1, v2, v3, E5, hS5⟩ := Whats.some n e p i j a5
  have H5 := hide hS5
  clear hS5
  go_wp2_with fail
  refine (where_any _ _ _ _ _ _ _ _ _ _ _ H5 (boxed_tab T C4)).mono ?_
  rintro r w5 ⟨rfl, hb5⟩
  have B5 := boxed_step C4 hb5
  clear hb5 hcc
  have hcc := boxed_cells B5
  by_cases hE : E5 = 0
  · subst hE
    obtain ⟨hS, g1, g2, g3, g4, g5, g6, g7⟩ := whats_stands H5.out
    have HS := hide hS
    obtain ⟨g10, g11⟩ := g1
    obtain ⟨g20, g21⟩ := g2
    clear hS g3 g4 g7
    by_cases c0 : v1 = 0
    · have t1 : (v2 - 1 == a5) = true := by have := (g6 c0).1; simp; omega
      subst c0
      clear g5 g6 g10 g11
      go_wp2
      go_ret
      exact ⟨rfl, bbox B5.out⟩
    have t0 : (v1 == 0) = false := by simpa using c0
    by_cases c4 : v1 = 4
    · have e3 := g5 (by omega)
      subst c4 e3
      clear g6 c0 t0 g10 g11 g5
      go_wp2_with fail
      refine (node_any _ _ _ _ _ _ _ _ _ HS (boxed_tab T B5)).mono ?_
      rintro r w6 ⟨rfl, hb6⟩
      have B6 := boxed_step B5 hb6
      clear hb6
      go_wp2
      go_ret
      exact ⟨rfl, bbox B6.out⟩
    have t4 : (v1 == 4) = false := by simpa using c4
    by_cases c5 : v1 = 5
    · have e3 := g5 (by omega)
      subst c5 e3
      clear g6 c0 t0 c4 t4 g10 g11 g5
      go_wp2_with fail
      refine (edge_any _ _ _ _ _ _ _ _ _ HS (boxed_tab T B5)).mono ?_
      rintro r w6 ⟨rfl, hb6⟩
      have B6 := boxed_step B5 hb6
      clear hb6
      go_wp2
      go_ret
      exact ⟨rfl, bbox B6.out⟩
    have t5 : (v1 == 5) = false := by simpa using c5
    have HF := hide (fields_of HS.out (by omega))
    clear g5 g6 c0 c4 c5
    go_wp2_with fail
    refine (field_any _ _ _ _ _ _ _ _ _ _ _ HF (boxed_tab T B5)).mono ?_
    rintro r w6 ⟨rfl, hb6⟩
    have B6 := boxed_step B5 hb6
    clear hb6
    go_wp2
    go_ret
    exact ⟨rfl, bbox B6.out⟩
  · have HX : Hid (¬ Ok n e p i j ∨ a5 < 0 ∨ po n e p i j 6 ≤ a5) := by
      rcases H5.out with ⟨_, _, _, _, _, _, _, _, h⟩ | ⟨h, _⟩
      · exact absurd h hE
      · exact h
    obtain ⟨rfl, rfl, rfl, rfl⟩ : E5 = 1 ∧ v1 = 0 ∧ v2 = 0 ∧ v3 = 0 := by
      rcases H5.out.err with h | h
      · exact absurd h hE
      · exact h
    clear hE
    by_cases c1 : a5 < 0
    · have b1 : decide (a5 < 0) = true := by simpa using c1
      go_wp2
      go_ret
      exact ⟨rfl, bbox B5.out⟩
    have b1 : decide (a5 < 0) = false := by simpa using c1
    by_cases o : Ok n e p i j
    · have HO := hide o
      obtain ⟨sz, HZ⟩ : ∃ sz, Hid (po n e p i j 6 = sz) := ⟨_, rfl⟩
      have b2 : decide (sz ≤ a5) = true := by
        rcases HX.out with h | h
        · exact absurd o h
        · rw [HZ.out] at h; simp; omega
      clear o
      go_wp2_with fail
      refine (size_ok _ _ _ _ _ _ HO (boxed_tab T B5)).mono ?_
      rw [HZ.out]
      rintro r w6 ⟨rfl, hb6⟩
      have B6 := boxed_step B5 hb6
      clear hb6
      go_wp2
      go_ret
      exact ⟨rfl, bbox B6.out⟩
    · have HO := hide o
      have b2 : decide (0 ≤ a5) = true := by simpa using c1
      clear o
      go_wp2_with fail
      refine (size_no _ _ _ _ _ _ HO).mono ?_
      rintro r w6 ⟨rfl, hb6⟩
      have B6 := boxed_step B5 hb6
      clear hb6
      go_wp2
      go_ret
      exact ⟨rfl, bbox B6.out⟩

set_option maxRecDepth 100000 in
theorem lifted (os : Os) (started : os.Started) (H : Type) (enc : TypeId × Value → H) :
    ReturnsInHanded {} Tryd.checked os 6 .any (fun w args => (Rows.placeBackSpec.pre enc Tryd.prog Tryd.f6 [] false w args ∧ laidMetH Tryd.prog laid1 w) ∧ sizedMet enc Tryd.prog Tryd.f6 (OpenSpec.ofChange Rows.placeBackSpec) false w args)
      (Rows.placeBackSpec.post enc Tryd.prog Tryd.f6 false true false false) := by
  refine returnsInHanded_of_change_and (C := Tryd.checked) (X := fun w _ => laidMetH Tryd.prog laid1 w) (fun _ _ _ hh h => h.of_heap hh) own started (by kernel_rfl) Tryd.func6
    (ChangeSpec.witness_shaped (enc := enc) (C := Tryd.checked) (os := os) (X := fun w _ => laidMetH Tryd.prog laid1 w) false (World.doorLaid Tryd.prog 400 os) #[.agg #[.int .i64 0, .int .i64 0, .int .i64 0, .int .i64 0, .int .i64 0], .int .i64 0, .int .i64 0, .int .i64 0, .int .i64 0, .int .i64 0] 8 rfl (World.shaped_of_RefB (by kernel_rfl) (by kernel_rfl)) (by kernel_rfl) (by kernel_rfl) (by kernel_rfl) (door_met os _)) ?_
  intro W base args ds gs before hval0 hW _ _ hL _
  have hval : ∀ (j : Nat) t v, Tryd.f6.params[j]? = some t → args[j]? = some v → Value.okWide Tryd.prog W .any base t v := hval0
  have hW' := hW
  obtain ⟨p, q, hA0, hV, rfl, hfz, hnd⟩ := hW
  have hA : DataW.TrodAll enc Tryd.prog W 0 (fun _ => true) true Tryd.f6.params.toList args.toList ds p := hA0
  rw [Tryd.params6] at hA hval
  obtain ⟨v0, vs0, d0, ds0, p0, q0, hargs, rfl, rfl, h0, r0⟩ := trodAll_cons hA
  obtain ⟨v1, vs1, d1, ds1, p1, q1, rfl, rfl, rfl, h1, r1⟩ := trodAll_cons r0
  obtain ⟨v2, vs2, d2, ds2, p2, q2, rfl, rfl, rfl, h2, r2⟩ := trodAll_cons r1
  obtain ⟨v3, vs3, d3, ds3, p3, q3, rfl, rfl, rfl, h3, r3⟩ := trodAll_cons r2
  obtain ⟨v4, vs4, d4, ds4, p4, q4, rfl, rfl, rfl, h4, r4⟩ := trodAll_cons r3
  obtain ⟨v5, vs5, d5, ds5, p5, q5, rfl, rfl, rfl, h5, r5⟩ := trodAll_cons r4
  obtain ⟨rfl, rfl, rfl⟩ := trodAll_nil r5
  obtain rfl : args = #[v0, v1, v2, v3, v4, v5] := by cases args; simp_all
  obtain ⟨rfl, rfl⟩ := trodVars_none hV
  obtain ⟨n, e, p, i, j, rfl, rfl⟩ := open_cfg (hval 0 23 v0 rfl rfl) h0
  obtain ⟨a1, rfl, rfl, rfl, k1⟩ := open_int Tryd.underlying3 (hval 1 3 v1 rfl rfl) h1
  obtain ⟨a2, rfl, rfl, rfl, k2⟩ := open_int Tryd.underlying3 (hval 2 3 v2 rfl rfl) h2
  obtain ⟨a3, rfl, rfl, rfl, k3⟩ := open_int Tryd.underlying3 (hval 3 3 v3 rfl rfl) h3
  obtain ⟨a4, rfl, rfl, rfl, k4⟩ := open_int Tryd.underlying3 (hval 4 3 v4 rfl rfl) h4
  obtain ⟨a5, rfl, rfl, rfl, k5⟩ := open_int Tryd.underlying3 (hval 5 3 v5 rfl rfl) h5
  clear hA0 hval0
  refine (walk n e p i j a1 k1 a2 k2 a3 k3 a4 k4 a5 k5 W (of_laid hL)).mono fun e W' ⟨he, bel⟩ => ?_
  subst he
  exact ⟨_, rfl, _, _, _, [], _, [], hW', trodAll_mk1 (shut_bool Tryd.underlying4 _), (trodAll_cons_mk (Below.trod laidOut (by kernel_rfl) (of_decide_eq_true (by kernel_rfl)) h0 bel (fun x hx => by cases hx)) (trodAll_cons_mk (shut_int Tryd.underlying3 k1) (trodAll_cons_mk (shut_int Tryd.underlying3 k2) (trodAll_cons_mk (shut_int Tryd.underlying3 k3) (trodAll_cons_mk (shut_int Tryd.underlying3 k4) (trodAll_cons_mk (shut_int Tryd.underlying3 k5) trodAll_mk0)))))), rfl, bel.frame _, fun h => by cases h⟩

theorem over : Rows.PlaceBackSaid :=
  OpenClaim.holds_of_wide 6 Tryd.f6 rfl rfl rfl rfl rfl rfl rfl ⟨rfl, rfl, rfl, rfl, rfl⟩ rfl rfl rfl rfl rfl (by kernel_rfl) Tryd.func6 (by kernel_rfl)
    (of_decide_eq_true (by kernel_rfl)) (by unfold Func.isWrapper; first | (rw [if_pos (by decide +kernel)]; kernel_rfl) | (rw [if_neg (by decide +kernel)]; exact ⟨rfl, rfl⟩))
    (fun os started H enc _ => lifted os started H enc)

end Go.Proofs.YtknbllhkifigbaaDoor.placeBack

namespace Go.Proofs.YtknbllhkifigbaaDoor
/-- The statement: the row, its listed variable tied to the program's text. -/
theorem placeBack_holds : Rows.PlaceBackCardSaid :=
  Claim7.holds_tied_plain_at .later [] [.data] true (true, "442dd6be2436c956687250717f12b8bfee1fcf7e0386f11ce72f4eac86cb00ed") false
    placeBack.over (fun _ h => by cases h) (by kernel_rfl) (fun _ h => by cases h) placeBack_row_tie rfl ⟨rfl, rfl⟩ (by kernel_rfl) rfl
    (fun f fn hf hfn => by
      obtain rfl : f = 6 := Option.some.inj ((show Tryd.prog.funcNamed Rows.placeBackRow.func = some 6 by kernel_rfl).symm.trans hf) |>.symm
      obtain rfl : fn = Tryd.f6 := (Option.some.inj (Tryd.func6.symm.trans hfn)).symm
      exact ⟨by kernel_rfl, fun j t ht => by
        rw [Tryd.params6] at ht
        have hm : t ∈ [23, 3, 3, 3, 3, 3] := by simpa using Array.mem_of_getElem? ht
        have hall : ([23, 3, 3, 3, 3, 3].all fun u => !Tryd.prog.wantsStandIn u) = true := by kernel_rfl
        exact (show Tryd.prog.wantsStandIn t = false by simpa using List.all_eq_true.1 hall t hm)⟩)
    (by kernel_rfl)
#print axioms placeBack_holds
end Go.Proofs.YtknbllhkifigbaaDoor
