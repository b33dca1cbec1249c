/- Whatever the configuration and the slot: a memory is as great as all that stands in it, and the fields of a record stand one behind the other; no conditions. (The statement tendrillaw03.PlaceSize, as the card that ties the table of lengths to the program's text.) -/
import Derived.Test.YtknbllhkifigbaaDoorRows
import Derived.Test.YtknbllhkifigbaaDoorCards
import Derived.Test.YtknbllhkifigbaaDoorTie
import Derived.Test.YtknbllhkifigbaaDoorHeld
import Derived.Test.YtknbllhkifigbaaDoorFrame
import Derived.SevenTiedAt
import Derived.Deep.RegionHeld3
namespace Go.Proofs.YtknbllhkifigbaaDoor.placeSize
open Go.Joins Go.ChangeShapes Go.WideShapes Go.ChangeAt Go.RowKit Go.Deep
set_option linter.unusedVariables false

theorem last_field {n e p i j : Int} (o : Ok n e p i j) : Fields n e p i j 3 (p - 1) 2 (2 + i + j + 4 * n + 5 * e + 3 * p - 1) 0 := by
  have o' := o
  unfold Ok at o'
  refine .inl ⟨by omega, .inl ⟨o, 5, by omega, ⟨rfl, by simp only [pf]; omega, by simp only [pf, pc]; omega, by omega, by simp only [pl]; omega⟩, by simp only [po, pf, pl]; omega, rfl⟩⟩

theorem edge_fields {n e p i j m A E B F : Int} (o : Ok n e p i j) (h : Fields n e p i j 2 m 0 A E) (g : Fields n e p i j 2 m 4 B F) :
    (E = 0 ∧ F = 0 ∧ B = A + 4 ∧ 0 ≤ A ∧ A ≤ 2000) ∨ (E = 1 ∧ F = 1 ∧ (m < 0 ∨ e ≤ m)) := by
  have o' := o
  unfold Ok at o'
  rcases fields_is 2 (by omega) (by omega) h with ⟨_, h1, h2, h3, h4, h5, h6⟩ | ⟨h1, h2, h3⟩ <;> rcases fields_is 2 (by omega) (by omega) g with ⟨_, g1, g2, g3, g4, g5, g6⟩ | ⟨g1, g2, g3⟩
  · left
    simp only [pc, pl, po] at *
    refine ⟨h6, g6, ?_, ?_, ?_⟩ <;> omega
  · exfalso
    rcases g1 with g1 | g1
    · exact g1 o
    · simp only [pc, pl, po] at *; omega
  · exfalso
    rcases h1 with h1 | h1
    · exact h1 o
    · simp only [pc, pl, po] at *; omega
  · right
    refine ⟨h3, g3, ?_⟩
    rcases h1 with h1 | h1
    · exact absurd o h1
    · simp only [pc, pl] at *; omega

set_option maxRecDepth 100000 in
set_option maxHeartbeats 4000000 in
theorem walk (n e p i j : Int) (a1 : Int) (k1 : (Lit.int .i64 a1).wf = true) (w : World) (T : Hid (Tab w)) :
    Calls Tryd.prog 8 #[.agg #[.int .i64 n, .int .i64 e, .int .i64 p, .int .i64 i, .int .i64 j], .int .i64 a1] w (Drew (.bool true) w) := by
  have T1 : Hid (∀ o, Tab (w.alloc o)) := fun o => T.out.alloc o
  by_cases o : Ok n e p i j
  · have HO := hide o
    have HL := hide (last_field o)
    obtain ⟨A, E, hS1⟩ := Fields.some n e p i j 2 a1 0
    obtain ⟨B, F, hS2⟩ := Fields.some n e p i j 2 a1 4
    have H1 := hide hS1
    have H2 := hide hS2
    have G := hide (edge_fields o hS1 hS2)
    unfold Ok at o
    obtain ⟨⟨x1, x2⟩, ⟨x3, x4⟩, ⟨x5, x6⟩, ⟨x7, x8⟩, ⟨x9, x10⟩⟩ := o
    clear hS1 hS2
    have z1 := IntWalk.i64_in (2 + i) (by omega)
    have z2 := IntWalk.i64_in (2 + i + j) (by omega)
    have z3 := IntWalk.i64_in (4 * n) (by omega)
    have z4 := IntWalk.i64_in (2 + i + j + 4 * n) (by omega)
    have z5 := IntWalk.i64_in (5 * e) (by omega)
    have z6 := IntWalk.i64_in (2 + i + j + 4 * n + 5 * e) (by omega)
    have z7 := IntWalk.i64_in (3 * p) (by omega)
    have z8 := IntWalk.i64_in (2 + i + j + 4 * n + 5 * e + 3 * p) (by omega)
    have z9 := IntWalk.i64_in (2 + i + j + 4 * n + 5 * e + 3 * p - 1) (by omega)
    have Z := hide (And.intro z1 (And.intro z2 (And.intro z3 (And.intro z4 (And.intro z5 (And.intro z6 (And.intro z7 (And.intro z8 z9))))))))
    clear z1 z2 z3 z4 z5 z6 z7 z8 z9
    have HSZ : Hid (∀ u, Hid (Tab u) → Calls Tryd.prog 14 #[.agg #[.int .i64 n, .int .i64 e, .int .i64 p, .int .i64 i, .int .i64 j]] u (Drew (.int .i64 (2 + i + j + 4 * n + 5 * e + 3 * p)) u)) := fun u hT => size_ok n e p i j u HO hT
    go_enter Tryd.func8, Tryd.ntmps8
    go_wp2_with fail
    refine (live_yes _ (T1.out _)).mono ?_
    rintro r w1 ⟨rfl, hb1⟩
    have B1 : Boxed w w1 n e p i j := hb1
    clear hb1
    have hc1 := boxed_cells B1
    go_wp2_with fail
    refine (check_ok _ _ _ _ _ _ HO).mono ?_
    rintro r w2 ⟨rfl, hb2⟩
    have B2 := boxed_step B1 hb2
    clear hb2 hc1
    have hc2 := boxed_cells B2
    go_wp2_with fail
    refine (field_any _ _ _ _ _ _ _ _ _ _ _ HL (boxed_tab T B2)).mono ?_
    rintro r w3 ⟨rfl, hb3⟩
    have B3 := boxed_step B2 hb3
    clear hb3 hc2
    have hc3 := boxed_cells B3
    go_wp2
    clear hc3
    have D3 := boxed_drew B3
    obtain ⟨z1, z2, z3, z4, z5, z6, z7, z8, z9⟩ := Z.out
    go_region_held3 (fun u => u.cell? ⟨w.heap.size, 0, none⟩ = some (.int .i64 n) ∧ u.cell? ⟨w.heap.size, 1, none⟩ = some (.int .i64 e) ∧ u.cell? ⟨w.heap.size, 2, none⟩ = some (.int .i64 p) ∧ u.cell? ⟨w.heap.size, 3, none⟩ = some (.int .i64 i) ∧ u.cell? ⟨w.heap.size, 4, none⟩ = some (.int .i64 j) ∧ Boxed w u n e p i j) (first | exact box_reads D3 | exact box_reads (by assumption))
      (first | (go_at_call 14; refine (HSZ.out _ ?_).mono ?_; (exact boxed_tab T (reads_box (by assumption))); rintro r u1 ⟨rfl, hu1⟩; have BU := boxed_step (reads_box (by assumption)) hu1))
    clear z1 z2 z3 z4 z5 z6 z7 z8 z9
    have hcc := boxed_cells BU
    go_wp2_with fail
    refine (field_any _ _ _ _ _ _ _ _ _ _ _ H1 (boxed_tab T BU)).mono ?_
    rintro r w6 ⟨rfl, hb6⟩
    have B6 := boxed_step BU hb6
    clear hb6 hcc
    have hcc := boxed_cells B6
    go_wp2_with fail
    refine (field_any _ _ _ _ _ _ _ _ _ _ _ H2 (boxed_tab T B6)).mono ?_
    rintro r w7 ⟨rfl, hb7⟩
    have B7 := boxed_step B6 hb7
    clear hb7 hcc
    have hcc := boxed_cells B7
    rcases G.out with ⟨rfl, rfl, rfl, v1, v2⟩ | ⟨rfl, rfl, v⟩
    · go_wp2
      go_ret
      exact ⟨rfl, bbox B7.out⟩
    · by_cases c1 : a1 < 0
      · have b1 : decide (a1 < 0) = true := by simpa using c1
        clear v
        go_wp2
        go_ret
        exact ⟨rfl, bbox B7.out⟩
      · have b1 : decide (a1 < 0) = false := by simpa using c1
        have b2 : decide (e ≤ a1) = true := by simp; omega
        clear v
        go_wp2
        go_ret
        exact ⟨rfl, bbox B7.out⟩
  · have HO := hide o
    clear o
    go_enter Tryd.func8, Tryd.ntmps8
    go_wp2_with fail
    refine (live_yes _ (T1.out _)).mono ?_
    rintro r w1 ⟨rfl, hb1⟩
    have B1 : Boxed w w1 n e p i j := hb1
    clear hb1
    have hc1 := boxed_cells B1
    go_wp2_with fail
    refine (check_no _ _ _ _ _ _ HO).mono ?_
    rintro r w2 ⟨rfl, hb2⟩
    have B2 := boxed_step B1 hb2
    clear hb2 hc1
    have hc2 := boxed_cells B2
    go_wp2_with fail
    refine (size_no _ _ _ _ _ _ HO).mono ?_
    rintro r w3 ⟨rfl, hb3⟩
    have B3 := boxed_step B2 hb3
    clear hb3 hc2
    have hc3 := boxed_cells B3
    go_wp2
    go_ret
    exact ⟨rfl, bbox B3.out⟩

set_option maxRecDepth 100000 in
theorem lifted (os : Os) (started : os.Started) (H : Type) (enc : TypeId × Value → H) :
    ReturnsInHanded {} Tryd.checked os 8 .any (fun w args => (Rows.placeSizeSpec.pre enc Tryd.prog Tryd.f8 [] false w args ∧ laidMetH Tryd.prog laid1 w) ∧ sizedMet enc Tryd.prog Tryd.f8 (OpenSpec.ofChange Rows.placeSizeSpec) false w args)
      (Rows.placeSizeSpec.post enc Tryd.prog Tryd.f8 false true false false) := by
  refine returnsInHanded_of_change_and (C := Tryd.checked) (X := fun w _ => laidMetH Tryd.prog laid1 w) (fun _ _ _ hh h => h.of_heap hh) own started (by kernel_rfl) Tryd.func8
    (ChangeSpec.witness_shaped (enc := enc) (C := Tryd.checked) (os := os) (X := fun w _ => laidMetH Tryd.prog laid1 w) false (World.doorLaid Tryd.prog 400 os) #[.agg #[.int .i64 0, .int .i64 0, .int .i64 0, .int .i64 0, .int .i64 0], .int .i64 0] 8 rfl (World.shaped_of_RefB (by kernel_rfl) (by kernel_rfl)) (by kernel_rfl) (by kernel_rfl) (by kernel_rfl) (door_met os _)) ?_
  intro W base args ds gs before hval0 hW _ _ hL _
  have hval : ∀ (j : Nat) t v, Tryd.f8.params[j]? = some t → args[j]? = some v → Value.okWide Tryd.prog W .any base t v := hval0
  have hW' := hW
  obtain ⟨p, q, hA0, hV, rfl, hfz, hnd⟩ := hW
  have hA : DataW.TrodAll enc Tryd.prog W 0 (fun _ => true) true Tryd.f8.params.toList args.toList ds p := hA0
  rw [Tryd.params8] at hA hval
  obtain ⟨v0, vs0, d0, ds0, p0, q0, hargs, rfl, rfl, h0, r0⟩ := trodAll_cons hA
  obtain ⟨v1, vs1, d1, ds1, p1, q1, rfl, rfl, rfl, h1, r1⟩ := trodAll_cons r0
  obtain ⟨rfl, rfl, rfl⟩ := trodAll_nil r1
  obtain rfl : args = #[v0, v1] := by cases args; simp_all
  obtain ⟨rfl, rfl⟩ := trodVars_none hV
  obtain ⟨n, e, p, i, j, rfl, rfl⟩ := open_cfg (hval 0 23 v0 rfl rfl) h0
  obtain ⟨a1, rfl, rfl, rfl, k1⟩ := open_int Tryd.underlying3 (hval 1 3 v1 rfl rfl) h1
  clear hA0 hval0
  refine (walk n e p i j a1 k1 W (of_laid hL)).mono fun e W' ⟨he, bel⟩ => ?_
  subst he
  exact ⟨_, rfl, _, _, _, [], _, [], hW', trodAll_mk1 (shut_bool Tryd.underlying4 _), (trodAll_cons_mk (Below.trod laidOut (by kernel_rfl) (of_decide_eq_true (by kernel_rfl)) h0 bel (fun x hx => by cases hx)) (trodAll_cons_mk (shut_int Tryd.underlying3 k1) trodAll_mk0)), rfl, bel.frame _, fun h => by cases h⟩

theorem over : Rows.PlaceSizeSaid :=
  OpenClaim.holds_of_wide 8 Tryd.f8 rfl rfl rfl rfl rfl rfl rfl ⟨rfl, rfl, rfl, rfl, rfl⟩ rfl rfl rfl rfl rfl (by kernel_rfl) Tryd.func8 (by kernel_rfl)
    (of_decide_eq_true (by kernel_rfl)) (by unfold Func.isWrapper; first | (rw [if_pos (by decide +kernel)]; kernel_rfl) | (rw [if_neg (by decide +kernel)]; exact ⟨rfl, rfl⟩))
    (fun os started H enc _ => lifted os started H enc)

end Go.Proofs.YtknbllhkifigbaaDoor.placeSize

namespace Go.Proofs.YtknbllhkifigbaaDoor
/-- The statement: the row, its listed variable tied to the program's text. -/
theorem placeSize_holds : Rows.PlaceSizeCardSaid :=
  Claim7.holds_tied_plain_at .later [] [.data] true (true, "442dd6be2436c956687250717f12b8bfee1fcf7e0386f11ce72f4eac86cb00ed") false
    placeSize.over (fun _ h => by cases h) (by kernel_rfl) (fun _ h => by cases h) placeSize_row_tie rfl ⟨rfl, rfl⟩ (by kernel_rfl) rfl
    (fun f fn hf hfn => by
      obtain rfl : f = 8 := Option.some.inj ((show Tryd.prog.funcNamed Rows.placeSizeRow.func = some 8 by kernel_rfl).symm.trans hf) |>.symm
      obtain rfl : fn = Tryd.f8 := (Option.some.inj (Tryd.func8.symm.trans hfn)).symm
      exact ⟨by kernel_rfl, fun j t ht => by
        rw [Tryd.params8] at ht
        have hm : t ∈ [23, 3] := by simpa using Array.mem_of_getElem? ht
        have hall : ([23, 3].all fun u => !Tryd.prog.wantsStandIn u) = true := by kernel_rfl
        exact (show Tryd.prog.wantsStandIn t = false by simpa using List.all_eq_true.1 hall t hm)⟩)
    (by kernel_rfl)
#print axioms placeSize_holds
end Go.Proofs.YtknbllhkifigbaaDoor
