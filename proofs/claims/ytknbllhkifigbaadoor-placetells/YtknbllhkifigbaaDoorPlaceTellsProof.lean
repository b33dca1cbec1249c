/- Whatever the configuration and the numbers: where a node's place, an edge's place and a record's field stand is what the document says, or the same error; no conditions. (The statement tendrillaw03.PlaceTells, as the card that ties the table of lengths to the program's text.) -/
import Derived.Test.YtknbllhkifigbaaDoorRows
import Derived.Test.YtknbllhkifigbaaDoorCards
import Derived.Test.YtknbllhkifigbaaDoorTie
import Derived.Test.YtknbllhkifigbaaDoorSteps
import Derived.Test.YtknbllhkifigbaaDoorFrame
import Derived.SevenTiedAt
namespace Go.Proofs.YtknbllhkifigbaaDoor.placeTells
open Go.Joins Go.ChangeShapes Go.WideShapes Go.ChangeAt Go.RowKit Go.Deep
set_option linter.unusedVariables false

set_option maxRecDepth 100000 in
set_option maxHeartbeats 1000000 in
theorem walk (n e p i j : Int) (a1 : Int) (k1 : (Lit.int .i64 a1).wf = true) (a2 : Int) (k2 : (Lit.int .i64 a2).wf = true) (a3 : Int) (k3 : (Lit.int .i64 a3).wf = true) (a4 : Int) (k4 : (Lit.int .i64 a4).wf = true) (w : World) (T : Hid (Tab w)) :
    Calls Tryd.prog 4 #[.agg #[.int .i64 n, .int .i64 e, .int .i64 p, .int .i64 i, .int .i64 j], .int .i64 a1, .int .i64 a2, .int .i64 a3, .int .i64 a4] w (Drew (.bool true) w) := by
  obtain ⟨A1, E1, hS1⟩ := Stands.some n e p i j 4 a1 0
  obtain ⟨A2, E2, hS2⟩ := Stands.some n e p i j 5 a1 0
  obtain ⟨A3, E3, hS3⟩ := Fields.some n e p i j a2 a3 a4
  have H1 := hide hS1
  have H2 := hide hS2
  have H3 := hide hS3
  clear hS1 hS2 hS3 k1 k2 k3 k4
  have T1 : Hid (∀ o, Tab (w.alloc o)) := fun o => T.out.alloc o
  go_enter Tryd.func4, Tryd.ntmps4
  go_wp2_with fail
  refine (live_yes _ (T1.out _)).mono ?_
  rintro r w1 ⟨rfl, hb1⟩
  have B1 : Boxed w w1 n e p i j := hb1
  clear hb1
  have hc1 := boxed_cells B1
  go_wp2_with fail
  refine (node_any _ _ _ _ _ _ _ _ _ H1 (boxed_tab T B1)).mono ?_
  rintro r w2 ⟨rfl, hb2⟩
  have B2 := boxed_step B1 hb2
  clear hb2 hc1
  have hc2 := boxed_cells B2
  go_wp2_with fail
  refine (rnode_any _ _ _ _ _ _ _ _ _ H1).mono ?_
  rintro r w3 ⟨rfl, hb3⟩
  have B3 := boxed_step B2 hb3
  clear hb3 hc2
  have hc3 := boxed_cells B3
  go_wp2_with fail
  refine (edge_any _ _ _ _ _ _ _ _ _ H2 (boxed_tab T B3)).mono ?_
  rintro r w4 ⟨rfl, hb4⟩
  have B4 := boxed_step B3 hb4
  clear hb4 hc3
  have hc4 := boxed_cells B4
  go_wp2_with fail
  refine (redge_any _ _ _ _ _ _ _ _ _ H2).mono ?_
  rintro r w5 ⟨rfl, hb5⟩
  have B5 := boxed_step B4 hb5
  clear hb5 hc4
  have hc5 := boxed_cells B5
  go_wp2_with fail
  refine (field_any _ _ _ _ _ _ _ _ _ _ _ H3 (boxed_tab T B5)).mono ?_
  rintro r w6 ⟨rfl, hb6⟩
  have B6 := boxed_step B5 hb6
  clear hb6 hc5
  have hc6 := boxed_cells B6
  go_wp2_with fail
  refine (rfield_any _ _ _ _ _ _ _ _ _ _ _ H3).mono ?_
  rintro r w7 ⟨rfl, hb7⟩
  have B7 := boxed_step B6 hb7
  clear hb7 hc6
  have hc7 := boxed_cells B7
  go_wp2
  go_ret
  exact ⟨rfl, bbox B7.out⟩

set_option maxRecDepth 100000 in
theorem lifted (os : Os) (started : os.Started) (H : Type) (enc : TypeId × Value → H) :
    ReturnsInHanded {} Tryd.checked os 4 .any (fun w args => (Rows.placeTellsSpec.pre enc Tryd.prog Tryd.f4 [] false w args ∧ laidMetH Tryd.prog laid1 w) ∧ sizedMet enc Tryd.prog Tryd.f4 (OpenSpec.ofChange Rows.placeTellsSpec) false w args)
      (Rows.placeTellsSpec.post enc Tryd.prog Tryd.f4 false true false false) := by
  refine returnsInHanded_of_change_and (C := Tryd.checked) (X := fun w _ => laidMetH Tryd.prog laid1 w) (fun _ _ _ hh h => h.of_heap hh) own started (by kernel_rfl) Tryd.func4
    (ChangeSpec.witness_shaped (enc := enc) (C := Tryd.checked) (os := os) (X := fun w _ => laidMetH Tryd.prog laid1 w) false (World.doorLaid Tryd.prog 400 os) #[.agg #[.int .i64 0, .int .i64 0, .int .i64 0, .int .i64 0, .int .i64 0], .int .i64 0, .int .i64 0, .int .i64 0, .int .i64 0] 8 rfl (World.shaped_of_RefB (by kernel_rfl) (by kernel_rfl)) (by kernel_rfl) (by kernel_rfl) (by kernel_rfl) (door_met os _)) ?_
  intro W base args ds gs before hval0 hW _ _ hL _
  have hval : ∀ (j : Nat) t v, Tryd.f4.params[j]? = some t → args[j]? = some v → Value.okWide Tryd.prog W .any base t v := hval0
  have hW' := hW
  obtain ⟨p, q, hA0, hV, rfl, hfz, hnd⟩ := hW
  have hA : DataW.TrodAll enc Tryd.prog W 0 (fun _ => true) true Tryd.f4.params.toList args.toList ds p := hA0
  rw [Tryd.params4] at hA hval
  obtain ⟨v0, vs0, d0, ds0, p0, q0, hargs, rfl, rfl, h0, r0⟩ := trodAll_cons hA
  obtain ⟨v1, vs1, d1, ds1, p1, q1, rfl, rfl, rfl, h1, r1⟩ := trodAll_cons r0
  obtain ⟨v2, vs2, d2, ds2, p2, q2, rfl, rfl, rfl, h2, r2⟩ := trodAll_cons r1
  obtain ⟨v3, vs3, d3, ds3, p3, q3, rfl, rfl, rfl, h3, r3⟩ := trodAll_cons r2
  obtain ⟨v4, vs4, d4, ds4, p4, q4, rfl, rfl, rfl, h4, r4⟩ := trodAll_cons r3
  obtain ⟨rfl, rfl, rfl⟩ := trodAll_nil r4
  obtain rfl : args = #[v0, v1, v2, v3, v4] := by cases args; simp_all
  obtain ⟨rfl, rfl⟩ := trodVars_none hV
  obtain ⟨n, e, p, i, j, rfl, rfl⟩ := open_cfg (hval 0 23 v0 rfl rfl) h0
  obtain ⟨a1, rfl, rfl, rfl, k1⟩ := open_int Tryd.underlying3 (hval 1 3 v1 rfl rfl) h1
  obtain ⟨a2, rfl, rfl, rfl, k2⟩ := open_int Tryd.underlying3 (hval 2 3 v2 rfl rfl) h2
  obtain ⟨a3, rfl, rfl, rfl, k3⟩ := open_int Tryd.underlying3 (hval 3 3 v3 rfl rfl) h3
  obtain ⟨a4, rfl, rfl, rfl, k4⟩ := open_int Tryd.underlying3 (hval 4 3 v4 rfl rfl) h4
  clear hA0 hval0
  refine (walk n e p i j a1 k1 a2 k2 a3 k3 a4 k4 W (of_laid hL)).mono fun e W' ⟨he, bel⟩ => ?_
  subst he
  exact ⟨_, rfl, _, _, _, [], _, [], hW', trodAll_mk1 (shut_bool Tryd.underlying4 _), (trodAll_cons_mk (Below.trod laidOut (by kernel_rfl) (of_decide_eq_true (by kernel_rfl)) h0 bel (fun x hx => by cases hx)) (trodAll_cons_mk (shut_int Tryd.underlying3 k1) (trodAll_cons_mk (shut_int Tryd.underlying3 k2) (trodAll_cons_mk (shut_int Tryd.underlying3 k3) (trodAll_cons_mk (shut_int Tryd.underlying3 k4) trodAll_mk0))))), rfl, bel.frame _, fun h => by cases h⟩

theorem over : Rows.PlaceTellsSaid :=
  OpenClaim.holds_of_wide 4 Tryd.f4 rfl rfl rfl rfl rfl rfl rfl ⟨rfl, rfl, rfl, rfl, rfl⟩ rfl rfl rfl rfl rfl (by kernel_rfl) Tryd.func4 (by kernel_rfl)
    (of_decide_eq_true (by kernel_rfl)) (by unfold Func.isWrapper; first | (rw [if_pos (by decide +kernel)]; kernel_rfl) | (rw [if_neg (by decide +kernel)]; exact ⟨rfl, rfl⟩))
    (fun os started H enc _ => lifted os started H enc)

end Go.Proofs.YtknbllhkifigbaaDoor.placeTells

namespace Go.Proofs.YtknbllhkifigbaaDoor
/-- The statement: the row, its listed variable tied to the program's text. -/
theorem placeTells_holds : Rows.PlaceTellsCardSaid :=
  Claim7.holds_tied_plain_at .later [] [.data] true (true, "442dd6be2436c956687250717f12b8bfee1fcf7e0386f11ce72f4eac86cb00ed") false
    placeTells.over (fun _ h => by cases h) (by kernel_rfl) (fun _ h => by cases h) placeTells_row_tie rfl ⟨rfl, rfl⟩ (by kernel_rfl) rfl
    (fun f fn hf hfn => by
      obtain rfl : f = 4 := Option.some.inj ((show Tryd.prog.funcNamed Rows.placeTellsRow.func = some 4 by kernel_rfl).symm.trans hf) |>.symm
      obtain rfl : fn = Tryd.f4 := (Option.some.inj (Tryd.func4.symm.trans hfn)).symm
      exact ⟨by kernel_rfl, fun j t ht => by
        rw [Tryd.params4] at ht
        have hm : t ∈ [23, 3, 3, 3, 3] := by simpa using Array.mem_of_getElem? ht
        have hall : ([23, 3, 3, 3, 3].all fun u => !Tryd.prog.wantsStandIn u) = true := by kernel_rfl
        exact (show Tryd.prog.wantsStandIn t = false by simpa using List.all_eq_true.1 hall t hm)⟩)
    (by kernel_rfl)
#print axioms placeTells_holds
end Go.Proofs.YtknbllhkifigbaaDoor
