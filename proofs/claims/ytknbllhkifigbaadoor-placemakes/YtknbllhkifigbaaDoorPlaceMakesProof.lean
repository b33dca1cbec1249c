/- Whatever the configuration: whether it may be, how great its memory is and how it begins is what the document says; no conditions. (The statement tendrillaw03.PlaceMakes, as the card that ties the table of lengths to the program's text.) -/
import Derived.Test.YtknbllhkifigbaaDoorRows
import Derived.Test.YtknbllhkifigbaaDoorCards
import Derived.Test.YtknbllhkifigbaaDoorTie
import Derived.Test.YtknbllhkifigbaaDoorWalksG
import Derived.Test.YtknbllhkifigbaaDoorFrame
import Derived.SevenTiedAt
import Derived.Deep.RegionHeld3
namespace Go.Proofs.YtknbllhkifigbaaDoor.placeMakes
open Go.Joins Go.ChangeShapes Go.WideShapes Go.ChangeAt Go.RowKit Go.Deep
set_option linter.unusedVariables false

section
variable {w w3 u u1 : World} {n e p i j : Int}
theorem reads (B3 : Boxed w w3 n e p i j) (h : Hid (Below w3.heap.size w3 u)) : u.cell? ⟨w.heap.size, 0, none⟩ = some (.int .i64 n) ∧ u.cell? ⟨w.heap.size, 1, none⟩ = some (.int .i64 e) ∧ u.cell? ⟨w.heap.size, 2, none⟩ = some (.int .i64 p) ∧ u.cell? ⟨w.heap.size, 3, none⟩ = some (.int .i64 i) ∧ u.cell? ⟨w.heap.size, 4, none⟩ = some (.int .i64 j) ∧ Hid (Below w3.heap.size w3 u) := by
  obtain ⟨h0, h1, h2, h3, h4, _⟩ := box_reads (boxed_step B3 h.out)
  exact ⟨h0, h1, h2, h3, h4, h⟩
theorem late (h : u.cell? ⟨w.heap.size, 0, none⟩ = some (.int .i64 n) ∧ u.cell? ⟨w.heap.size, 1, none⟩ = some (.int .i64 e) ∧ u.cell? ⟨w.heap.size, 2, none⟩ = some (.int .i64 p) ∧ u.cell? ⟨w.heap.size, 3, none⟩ = some (.int .i64 i) ∧ u.cell? ⟨w.heap.size, 4, none⟩ = some (.int .i64 j) ∧ Hid (Below w3.heap.size w3 u)) : Hid (Below w3.heap.size w3 u) := h.2.2.2.2.2
theorem later (h : Hid (Below w3.heap.size w3 u)) (hb : Below u.heap.size u u1) : Hid (Below w3.heap.size w3 u1) := bstep h.out hb h.out.size
end

set_option maxRecDepth 100000 in
set_option maxHeartbeats 4000000 in
theorem walk (n e p i j : Int) (w : World) (T : Hid (Tab w)) :
    Calls Tryd.prog 3 #[.agg #[.int .i64 n, .int .i64 e, .int .i64 p, .int .i64 i, .int .i64 j]] w (Drew (.bool true) w) := by
  have T1 : Hid (∀ o, Tab (w.alloc o)) := fun o => T.out.alloc o
  by_cases o : Ok n e p i j
  · have HO := hide o
    obtain ⟨k, hk⟩ : ∃ k : Nat, po n e p i j 6 = (k : Int) := Int.eq_ofNat_of_zero_le (by rw [po_six]; unfold Ok at o; omega)
    have k2 : 2 ≤ k := by rw [po_six] at hk; unfold Ok at o; omega
    have k9 : k ≤ 2000 := by rw [po_six] at hk; unfold Ok at o; omega
    have HK := hide hk
    clear hk o
    have C12 : Hid (∀ u, Calls Tryd.prog 12 #[.agg #[.int .i64 n, .int .i64 e, .int .i64 p, .int .i64 i, .int .i64 j]] u (Drew (.int .i64 0) u)) := fun u => check_ok n e p i j u HO
    have C13 : Hid (∀ u, Calls Tryd.prog 13 #[.agg #[.int .i64 n, .int .i64 e, .int .i64 p, .int .i64 i, .int .i64 j]] u (Drew (.int .i64 0) u)) := fun u => rcheck_ok n e p i j u HO
    have C14 : Hid (∀ u, Hid (Tab u) → Calls Tryd.prog 14 #[.agg #[.int .i64 n, .int .i64 e, .int .i64 p, .int .i64 i, .int .i64 j]] u (Drew (.int .i64 (k : Int)) u)) := fun u hT => by rw [← HK.out]; exact size_ok n e p i j u HO hT
    have C15 : Hid (∀ u, Calls Tryd.prog 15 #[.agg #[.int .i64 n, .int .i64 e, .int .i64 p, .int .i64 i, .int .i64 j]] u (Drew (.int .i64 (k : Int)) u)) := fun u => by rw [← HK.out]; exact rsize_ok n e p i j u HO
    go_enter Tryd.func3, Tryd.ntmps3
    go_wp2_with fail
    refine (live_yes _ (T1.out _)).mono ?_
    rintro r w1 ⟨rfl, hb1⟩
    have B1 : Boxed w w1 n e p i j := hb1
    clear hb1
    have hc1 := boxed_cells B1
    go_wp2_with fail
    refine (pnew_ok n e p i j k _ HO (boxed_tab T B1) HK k2 k9).mono ?_
    rintro r w2 ⟨A2, c2, rfl, hf2, hb2⟩
    have B2 := boxed_step B1 hb2
    clear hb2 hc1
    have hc2 := boxed_cells B2
    go_wp2_with fail
    refine (rnew_ok n e p i j k _ HO HK k2 k9).mono ?_
    rintro r w3 ⟨A3, c3, rfl, hf3, hb3⟩
    have B3 := boxed_step B2 hb3
    have N2 := hf2.nums.below hb3 (Nat.le_refl _)
    have N3 := hf3.nums
    have C16 : Hid (∀ u, Hid (Below w3.heap.size w3 u) → Calls Tryd.prog 16 #[.slice A2 k c2, .slice A3 k c3] u (Drew (.bool true) u)) := fun u hU =>
      same_yes A2 A3 k c2 c3 w2.heap.size w3.heap.size (news k) u (N2.below hU.out hb3.size) (N3.below hU.out (Nat.le_refl _)) (by omega)
    clear hb3 hc2 hf2 hf3 N2 N3
    go_wp2
    have D3 : Hid (Below w3.heap.size w3 w3.drew) := (Below.refl _ _).drew
    go_region_held3 (fun u => u.cell? ⟨w.heap.size, 0, none⟩ = some (.int .i64 n) ∧ u.cell? ⟨w.heap.size, 1, none⟩ = some (.int .i64 e) ∧ u.cell? ⟨w.heap.size, 2, none⟩ = some (.int .i64 p) ∧ u.cell? ⟨w.heap.size, 3, none⟩ = some (.int .i64 i) ∧ u.cell? ⟨w.heap.size, 4, none⟩ = some (.int .i64 j) ∧ Hid (Below w3.heap.size w3 u)) (first | exact reads B3 D3 | exact reads B3 (by assumption))
      (first | (go_at_call 12; refine (C12.out _).mono ?_; rintro r u1 ⟨rfl, hu1⟩; have BU := later (late (by assumption)) hu1) | (go_at_call 13; refine (C13.out _).mono ?_; rintro r u1 ⟨rfl, hu1⟩; have BU := later (late (by assumption)) hu1) | (go_at_call 14; refine (C14.out _ ?_).mono ?_; (exact boxed_tab T (boxed_step B3 (late (by assumption)).out)); rintro r u1 ⟨rfl, hu1⟩; have BU := later (late (by assumption)) hu1) | (go_at_call 15; refine (C15.out _).mono ?_; rintro r u1 ⟨rfl, hu1⟩; have BU := later (late (by assumption)) hu1) | (go_at_call 16; refine (C16.out _ ?_).mono ?_; (exact late (by assumption)); rintro r u1 ⟨rfl, hu1⟩; have BU := later (late (by assumption)) hu1))
    all_goals go_wp2
    all_goals (go_ret; exact ⟨rfl, bbox (boxed_step B3 BU.out).out⟩)
  · have HO := hide o
    clear o
    have C12 : Hid (∀ u, Calls Tryd.prog 12 #[.agg #[.int .i64 n, .int .i64 e, .int .i64 p, .int .i64 i, .int .i64 j]] u (Drew (.int .i64 1) u)) := fun u => check_no n e p i j u HO
    have C13 : Hid (∀ u, Calls Tryd.prog 13 #[.agg #[.int .i64 n, .int .i64 e, .int .i64 p, .int .i64 i, .int .i64 j]] u (Drew (.int .i64 1) u)) := fun u => rcheck_no n e p i j u HO
    have C14 : Hid (∀ u, Hid (Tab u) → Calls Tryd.prog 14 #[.agg #[.int .i64 n, .int .i64 e, .int .i64 p, .int .i64 i, .int .i64 j]] u (Drew (.int .i64 0) u)) := fun u hT => size_no n e p i j u HO
    have C15 : Hid (∀ u, Calls Tryd.prog 15 #[.agg #[.int .i64 n, .int .i64 e, .int .i64 p, .int .i64 i, .int .i64 j]] u (Drew (.int .i64 0) u)) := fun u => rsize_no n e p i j u HO
    go_enter Tryd.func3, Tryd.ntmps3
    go_wp2_with fail
    refine (live_yes _ (T1.out _)).mono ?_
    rintro r w1 ⟨rfl, hb1⟩
    have B1 : Boxed w w1 n e p i j := hb1
    clear hb1
    have hc1 := boxed_cells B1
    go_wp2_with fail
    refine (pnew_no _ _ _ _ _ _ HO).mono ?_
    rintro r w2 ⟨rfl, hb2⟩
    have B2 := boxed_step B1 hb2
    clear hb2 hc1
    have hc2 := boxed_cells B2
    go_wp2_with fail
    refine (rnew_no _ _ _ _ _ _ HO).mono ?_
    rintro r w3 ⟨rfl, hb3⟩
    have B3 := boxed_step B2 hb3
    clear hb3 hc2
    have hc3 := boxed_cells B3
    clear hc3
    have C16 : Hid (∀ u, Hid (Below w3.heap.size w3 u) → Calls Tryd.prog 16 #[.slice none 0 0, .slice none 0 0] u (Drew (.bool true) u)) := fun u hU =>
      same_yes none none 0 0 0 0 0 [] u Nums.nil Nums.nil (by omega)
    go_wp2
    have D3 : Hid (Below w3.heap.size w3 w3.drew) := (Below.refl _ _).drew
    go_region_held3 (fun u => u.cell? ⟨w.heap.size, 0, none⟩ = some (.int .i64 n) ∧ u.cell? ⟨w.heap.size, 1, none⟩ = some (.int .i64 e) ∧ u.cell? ⟨w.heap.size, 2, none⟩ = some (.int .i64 p) ∧ u.cell? ⟨w.heap.size, 3, none⟩ = some (.int .i64 i) ∧ u.cell? ⟨w.heap.size, 4, none⟩ = some (.int .i64 j) ∧ Hid (Below w3.heap.size w3 u)) (first | exact reads B3 D3 | exact reads B3 (by assumption))
      (first | (go_at_call 12; refine (C12.out _).mono ?_; rintro r u1 ⟨rfl, hu1⟩; have BU := later (late (by assumption)) hu1) | (go_at_call 13; refine (C13.out _).mono ?_; rintro r u1 ⟨rfl, hu1⟩; have BU := later (late (by assumption)) hu1) | (go_at_call 14; refine (C14.out _ ?_).mono ?_; (exact boxed_tab T (boxed_step B3 (late (by assumption)).out)); rintro r u1 ⟨rfl, hu1⟩; have BU := later (late (by assumption)) hu1) | (go_at_call 15; refine (C15.out _).mono ?_; rintro r u1 ⟨rfl, hu1⟩; have BU := later (late (by assumption)) hu1) | (go_at_call 16; refine (C16.out _ ?_).mono ?_; (exact late (by assumption)); rintro r u1 ⟨rfl, hu1⟩; have BU := later (late (by assumption)) hu1))
    all_goals go_wp2
    all_goals (go_ret; exact ⟨rfl, bbox (boxed_step B3 BU.out).out⟩)

set_option maxRecDepth 100000 in
theorem lifted (os : Os) (started : os.Started) (H : Type) (enc : TypeId × Value → H) :
    ReturnsInHanded {} Tryd.checked os 3 .any (fun w args => (Rows.placeMakesSpec.pre enc Tryd.prog Tryd.f3 [] false w args ∧ laidMetH Tryd.prog laid1 w) ∧ sizedMet enc Tryd.prog Tryd.f3 (OpenSpec.ofChange Rows.placeMakesSpec) false w args)
      (Rows.placeMakesSpec.post enc Tryd.prog Tryd.f3 false true false false) := by
  refine returnsInHanded_of_change_and (C := Tryd.checked) (X := fun w _ => laidMetH Tryd.prog laid1 w) (fun _ _ _ hh h => h.of_heap hh) own started (by kernel_rfl) Tryd.func3
    (ChangeSpec.witness_shaped (enc := enc) (C := Tryd.checked) (os := os) (X := fun w _ => laidMetH Tryd.prog laid1 w) false (World.doorLaid Tryd.prog 400 os) #[.agg #[.int .i64 0, .int .i64 0, .int .i64 0, .int .i64 0, .int .i64 0]] 8 rfl (World.shaped_of_RefB (by kernel_rfl) (by kernel_rfl)) (by kernel_rfl) (by kernel_rfl) (by kernel_rfl) (door_met os _)) ?_
  intro W base args ds gs before hval0 hW _ _ hL _
  have hval : ∀ (j : Nat) t v, Tryd.f3.params[j]? = some t → args[j]? = some v → Value.okWide Tryd.prog W .any base t v := hval0
  have hW' := hW
  obtain ⟨p, q, hA0, hV, rfl, hfz, hnd⟩ := hW
  have hA : DataW.TrodAll enc Tryd.prog W 0 (fun _ => true) true Tryd.f3.params.toList args.toList ds p := hA0
  rw [Tryd.params3] at hA hval
  obtain ⟨v0, vs0, d0, ds0, p0, q0, hargs, rfl, rfl, h0, r0⟩ := trodAll_cons hA
  obtain ⟨rfl, rfl, rfl⟩ := trodAll_nil r0
  obtain rfl : args = #[v0] := by cases args; simp_all
  obtain ⟨rfl, rfl⟩ := trodVars_none hV
  obtain ⟨n, e, p, i, j, rfl, rfl⟩ := open_cfg (hval 0 23 v0 rfl rfl) h0
  clear hA0 hval0
  refine (walk n e p i j W (of_laid hL)).mono fun e W' ⟨he, bel⟩ => ?_
  subst he
  exact ⟨_, rfl, _, _, _, [], _, [], hW', trodAll_mk1 (shut_bool Tryd.underlying4 _), (trodAll_cons_mk (Below.trod laidOut (by kernel_rfl) (of_decide_eq_true (by kernel_rfl)) h0 bel (fun x hx => by cases hx)) trodAll_mk0), rfl, bel.frame _, fun h => by cases h⟩

theorem over : Rows.PlaceMakesSaid :=
  OpenClaim.holds_of_wide 3 Tryd.f3 rfl rfl rfl rfl rfl rfl rfl ⟨rfl, rfl, rfl, rfl, rfl⟩ rfl rfl rfl rfl rfl (by kernel_rfl) Tryd.func3 (by kernel_rfl)
    (of_decide_eq_true (by kernel_rfl)) (by unfold Func.isWrapper; first | (rw [if_pos (by decide +kernel)]; kernel_rfl) | (rw [if_neg (by decide +kernel)]; exact ⟨rfl, rfl⟩))
    (fun os started H enc _ => lifted os started H enc)

end Go.Proofs.YtknbllhkifigbaaDoor.placeMakes

namespace Go.Proofs.YtknbllhkifigbaaDoor
/-- The statement: the row, its listed variable tied to the program's text. -/
theorem placeMakes_holds : Rows.PlaceMakesCardSaid :=
  Claim7.holds_tied_plain_at .later [] [.data] true (true, "442dd6be2436c956687250717f12b8bfee1fcf7e0386f11ce72f4eac86cb00ed") false
    placeMakes.over (fun _ h => by cases h) (by kernel_rfl) (fun _ h => by cases h) placeMakes_row_tie rfl ⟨rfl, rfl⟩ (by kernel_rfl) rfl
    (fun f fn hf hfn => by
      obtain rfl : f = 3 := Option.some.inj ((show Tryd.prog.funcNamed Rows.placeMakesRow.func = some 3 by kernel_rfl).symm.trans hf) |>.symm
      obtain rfl : fn = Tryd.f3 := (Option.some.inj (Tryd.func3.symm.trans hfn)).symm
      exact ⟨by kernel_rfl, fun j t ht => by
        rw [Tryd.params3] at ht
        have hm : t ∈ [23] := by simpa using Array.mem_of_getElem? ht
        have hall : ([23].all fun u => !Tryd.prog.wantsStandIn u) = true := by kernel_rfl
        exact (show Tryd.prog.wantsStandIn t = false by simpa using List.all_eq_true.1 hall t hm)⟩)
    (by kernel_rfl)
#print axioms placeMakes_holds
end Go.Proofs.YtknbllhkifigbaaDoor
