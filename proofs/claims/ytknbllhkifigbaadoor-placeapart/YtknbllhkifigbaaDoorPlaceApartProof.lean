/- Whatever the configuration and the two threes of numbers: two things have not the same word; no conditions. (The statement tendrillaw03.PlaceApart, as the card that ties the table of lengths to the program's text.) -/
import Derived.Test.YtknbllhkifigbaaDoorRows
import Derived.Test.YtknbllhkifigbaaDoorCards
import Derived.Test.YtknbllhkifigbaaDoorTie
import Derived.Test.YtknbllhkifigbaaDoorSteps
import Derived.Test.YtknbllhkifigbaaDoorFrame
import Derived.SevenTiedAt
namespace Go.Proofs.YtknbllhkifigbaaDoor.placeApart
open Go.Joins Go.ChangeShapes Go.WideShapes Go.ChangeAt Go.RowKit Go.Deep
set_option linter.unusedVariables false

theorem eq41 (a b c d f g : Int) (w : World) : (Op.equalIn 10000 41 (.agg #[.int .i64 a, .int .i64 b, .int .i64 c]) (.agg #[.int .i64 d, .int .i64 f, .int .i64 g])).run Tryd.prog w = .ok (a == d && (b == f && c == g)) w := by
  have u3 := Tryd.underlying3
  have a3 := Tryd.isAgg3
  have z3 := Tryd.sizeOf3
  rw [show (10000 : Nat) = 9999 + 1 from rfl, Op.equalIn]
  simp only [Sem.run_bind, run_underlying Tryd.underlying41, Result.andThen_ok]
  simp only [Std.Legacy.Range.forIn_eq_forIn_range', Std.Legacy.Range.size, Nat.sub_zero, Nat.add_sub_cancel, Nat.div_one, List.range'_succ, List.range'_zero, List.forIn_cons, List.forIn_nil]
  go_simp
  by_cases h1 : a = d <;> by_cases h2 : b = f <;> by_cases h3 : c = g <;> simp [h1, h2, h3]

/-- The three boxes stand, and nothing old has turned. -/
abbrev Boxes (w wr : World) (n e p i j x1 y1 z1 x2 y2 z2 : Int) : Prop :=
  Hid (Below (((w.alloc (.cells #[.int .i64 n, .int .i64 e, .int .i64 p, .int .i64 i, .int .i64 j] 23)).alloc (.cells #[.int .i64 x1, .int .i64 y1, .int .i64 z1] 41)).alloc (.cells #[.int .i64 x2, .int .i64 y2, .int .i64 z2] 41)).heap.size
    (((w.alloc (.cells #[.int .i64 n, .int .i64 e, .int .i64 p, .int .i64 i, .int .i64 j] 23)).alloc (.cells #[.int .i64 x1, .int .i64 y1, .int .i64 z1] 41)).alloc (.cells #[.int .i64 x2, .int .i64 y2, .int .i64 z2] 41)) wr)

section
variable {w wr w' : World} {n e p i j x1 y1 z1 x2 y2 z2 : Int}
theorem Boxes.tab (T : Hid (Tab w)) (h : Boxes w wr n e p i j x1 y1 z1 x2 y2 z2) : Hid (Tab wr) := (((T.out.alloc _).alloc _).alloc _).below h.out
theorem Boxes.step (h : Boxes w wr n e p i j x1 y1 z1 x2 y2 z2) (hb : Below wr.heap.size wr w') : Boxes w w' n e p i j x1 y1 z1 x2 y2 z2 := bstep h.out hb h.out.size
theorem Boxes.end_ (h : Boxes w wr n e p i j x1 y1 z1 x2 y2 z2) : Below w.heap.size w wr :=
  ((((Below.refl _ _).alloc (Nat.le_refl _) _).alloc (by simp) _).alloc (by simp; omega) _).trans (h.out.mono (by simp; omega))

theorem two_le {x m fd A : Int} (h : Stands n e p i j x m fd A 0) (hx : x ≠ 0) : 2 ≤ A := by
  obtain ⟨_, _, _, _, _, _, _, g⟩ := whats_stands (stands_whats h)
  exact g hx
theorem not_same {x m fd x' m' fd' A A' : Int} (h : Stands n e p i j x m fd A 0) (h' : Stands n e p i j x' m' fd' A' 0) (hx : ¬ (x = x' ∧ m = m' ∧ fd = fd')) : A ≠ A' := by
  intro hA
  subst hA
  exact hx (told_same (stands_whats h) h')
theorem kind {x m fd A : Int} (h : Fields n e p i j x m fd A 0) : 1 ≤ x ∧ x ≤ 3 := h.elim (fun g => g.1) (fun g => absurd g.2.2 (by omega))
end

set_option maxRecDepth 100000 in
set_option maxHeartbeats 4000000 in
theorem walk_same (n e p i j x1 y1 z1 : Int) (w : World) (T : Hid (Tab w)) :
    Calls Tryd.prog 7 #[.agg #[.int .i64 n, .int .i64 e, .int .i64 p, .int .i64 i, .int .i64 j], .agg #[.int .i64 x1, .int .i64 y1, .int .i64 z1], .agg #[.int .i64 x1, .int .i64 y1, .int .i64 z1]] w (Drew (.bool true) w) := by
  obtain ⟨A1, E1, hS1⟩ := Fields.some n e p i j x1 y1 z1
  obtain ⟨A3, E3, hS3⟩ := Stands.some n e p i j 4 y1 0
  obtain ⟨A4, E4, hS4⟩ := Stands.some n e p i j 5 y1 0
  have H1 := hide hS1
  have H3 := hide hS3
  have H4 := hide hS4
  have G1 := hide hS1.err
  have G3 := hide hS3.err
  have G4 := hide hS4.err
  clear hS1 hS3 hS4
  have P1 : Hid (E1 = 0 → decide (A1 < 2) = false) := fun h => by subst h; simpa using two_le (stands_of_fields H1.out) (by have := kind H1.out; omega)
  have P2 : Hid (E3 = 0 → decide (2 ≤ A3) = true) := fun h => by subst h; simpa using two_le H3.out (by omega)
  have P3 : Hid (E4 = 0 → decide (2 ≤ A4) = true) := fun h => by subst h; simpa using two_le H4.out (by omega)
  have P4 : Hid (E1 = 0 → E3 = 0 → (A1 == A3) = false) := fun h h' => by subst h h'; simpa using not_same (stands_of_fields H1.out) H3.out (by have := kind H1.out; omega)
  have P5 : Hid (E1 = 0 → E4 = 0 → (A1 == A4) = false) := fun h h' => by subst h h'; simpa using not_same (stands_of_fields H1.out) H4.out (by have := kind H1.out; omega)
  have P6 : Hid (E3 = 0 → E4 = 0 → (A3 != A4) = true) := fun h h' => by subst h h'; simpa using not_same H3.out H4.out (by omega)
  have HE : Hid (∀ w, (Op.equalIn 10000 41 (.agg #[.int .i64 x1, .int .i64 y1, .int .i64 z1]) (.agg #[.int .i64 x1, .int .i64 y1, .int .i64 z1])).run Tryd.prog w = .ok true w) := fun w => by rw [eq41]; simp
  have T1 : Hid (∀ o o' o'', Tab (((w.alloc o).alloc o').alloc o'')) := fun o o' o'' => ((T.out.alloc o).alloc o').alloc o''
  go_enter Tryd.func7, Tryd.ntmps7
  go_wp2_with fail
  refine (live_yes _ (T1.out _ _ _)).mono ?_
  rintro r w1 ⟨rfl, hb1⟩
  have B1 : Boxes w w1 n e p i j x1 y1 z1 x1 y1 z1 := hb1
  clear hb1
  have hc1 := old_cells B1.out
  have hf1 := old_marks B1.out
  go_wp2_with fail
  refine (field_any _ _ _ _ _ _ _ _ _ _ _ H1 (Boxes.tab T B1)).mono ?_
  rintro r w2 ⟨rfl, hb2⟩
  have B2 := Boxes.step B1 hb2
  clear hb2 hc1 hf1
  have hc2 := old_cells B2.out
  have hf2 := old_marks B2.out
  go_wp2_with fail
  refine (field_any _ _ _ _ _ _ _ _ _ _ _ H1 (Boxes.tab T B2)).mono ?_
  rintro r w3 ⟨rfl, hb3⟩
  have B3 := Boxes.step B2 hb3
  clear hb3 hc2 hf2
  have hc3 := old_cells B3.out
  have hf3 := old_marks B3.out
  go_wp2_with fail
  refine (node_any _ _ _ _ _ _ _ _ _ H3 (Boxes.tab T B3)).mono ?_
  rintro r w4 ⟨rfl, hb4⟩
  have B4 := Boxes.step B3 hb4
  clear hb4 hc3 hf3
  have hc4 := old_cells B4.out
  have hf4 := old_marks B4.out
  go_wp2_with fail
  refine (edge_any _ _ _ _ _ _ _ _ _ H4 (Boxes.tab T B4)).mono ?_
  rintro r w5 ⟨rfl, hb5⟩
  have B5 := Boxes.step B4 hb5
  clear hb5 hc4 hf4
  have hc5 := old_cells B5.out
  have hf5 := old_marks B5.out
  have hE := HE.out
  rcases G1.out with rfl | ⟨rfl, _⟩ <;> rcases G3.out with rfl | ⟨rfl, _⟩ <;> rcases G4.out with rfl | ⟨rfl, _⟩
  all_goals
    (try have q1 := P1.out rfl); (try have q2 := P2.out rfl); (try have q3 := P3.out rfl); (try have q4 := P4.out rfl rfl); (try have q5 := P5.out rfl rfl); (try have q6 := P6.out rfl rfl)
    go_wp2
    go_ret
    exact ⟨rfl, B5.end_⟩

set_option maxRecDepth 100000 in
set_option maxHeartbeats 4000000 in
theorem walk_diff (n e p i j x1 y1 z1 x2 y2 z2 : Int) (w : World) (T : Hid (Tab w)) (hd : Hid (¬ (x1 = x2 ∧ y1 = y2 ∧ z1 = z2))) :
    Calls Tryd.prog 7 #[.agg #[.int .i64 n, .int .i64 e, .int .i64 p, .int .i64 i, .int .i64 j], .agg #[.int .i64 x1, .int .i64 y1, .int .i64 z1], .agg #[.int .i64 x2, .int .i64 y2, .int .i64 z2]] w (Drew (.bool true) w) := by
  obtain ⟨A1, E1, hS1⟩ := Fields.some n e p i j x1 y1 z1
  obtain ⟨A2, E2, hS2⟩ := Fields.some n e p i j x2 y2 z2
  obtain ⟨A3, E3, hS3⟩ := Stands.some n e p i j 4 y1 0
  obtain ⟨A4, E4, hS4⟩ := Stands.some n e p i j 5 y2 0
  have H1 := hide hS1
  have H2 := hide hS2
  have H3 := hide hS3
  have H4 := hide hS4
  have G1 := hide hS1.err
  have G2 := hide hS2.err
  have G3 := hide hS3.err
  have G4 := hide hS4.err
  clear hS1 hS2 hS3 hS4
  have P1 : Hid (E1 = 0 → decide (A1 < 2) = false) := fun h => by subst h; simpa using two_le (stands_of_fields H1.out) (by have := kind H1.out; omega)
  have P2 : Hid (E3 = 0 → decide (2 ≤ A3) = true) := fun h => by subst h; simpa using two_le H3.out (by omega)
  have P3 : Hid (E4 = 0 → decide (2 ≤ A4) = true) := fun h => by subst h; simpa using two_le H4.out (by omega)
  have P4 : Hid (E1 = 0 → E3 = 0 → (A1 == A3) = false) := fun h h' => by subst h h'; simpa using not_same (stands_of_fields H1.out) H3.out (by have := kind H1.out; omega)
  have P5 : Hid (E1 = 0 → E4 = 0 → (A1 == A4) = false) := fun h h' => by subst h h'; simpa using not_same (stands_of_fields H1.out) H4.out (by have := kind H1.out; omega)
  have P6 : Hid (E3 = 0 → E4 = 0 → (A3 != A4) = true) := fun h h' => by subst h h'; simpa using not_same H3.out H4.out (by omega)
  have P7 : Hid (E1 = 0 → E2 = 0 → (A1 == A2) = false) := fun h h' => by subst h h'; simpa using not_same (stands_of_fields H1.out) (stands_of_fields H2.out) hd.out
  have HE : Hid (∀ w, (Op.equalIn 10000 41 (.agg #[.int .i64 x1, .int .i64 y1, .int .i64 z1]) (.agg #[.int .i64 x2, .int .i64 y2, .int .i64 z2])).run Tryd.prog w = .ok false w) := fun w => by
    rw [eq41]
    have : (x1 == x2 && (y1 == y2 && z1 == z2)) = false := by
      have := hd.out
      cases hb : (x1 == x2 && (y1 == y2 && z1 == z2)) with
      | false => rfl
      | true => exact absurd (by simpa using hb) this
    rw [this]
  have T1 : Hid (∀ o o' o'', Tab (((w.alloc o).alloc o').alloc o'')) := fun o o' o'' => ((T.out.alloc o).alloc o').alloc o''
  go_enter Tryd.func7, Tryd.ntmps7
  go_wp2_with fail
  refine (live_yes _ (T1.out _ _ _)).mono ?_
  rintro r w1 ⟨rfl, hb1⟩
  have B1 : Boxes w w1 n e p i j x1 y1 z1 x2 y2 z2 := hb1
  clear hb1
  have hc1 := old_cells B1.out
  have hf1 := old_marks B1.out
  go_wp2_with fail
  refine (field_any _ _ _ _ _ _ _ _ _ _ _ H1 (Boxes.tab T B1)).mono ?_
  rintro r w2 ⟨rfl, hb2⟩
  have B2 := Boxes.step B1 hb2
  clear hb2 hc1 hf1
  have hc2 := old_cells B2.out
  have hf2 := old_marks B2.out
  go_wp2_with fail
  refine (field_any _ _ _ _ _ _ _ _ _ _ _ H2 (Boxes.tab T B2)).mono ?_
  rintro r w3 ⟨rfl, hb3⟩
  have B3 := Boxes.step B2 hb3
  clear hb3 hc2 hf2
  have hc3 := old_cells B3.out
  have hf3 := old_marks B3.out
  go_wp2_with fail
  refine (node_any _ _ _ _ _ _ _ _ _ H3 (Boxes.tab T B3)).mono ?_
  rintro r w4 ⟨rfl, hb4⟩
  have B4 := Boxes.step B3 hb4
  clear hb4 hc3 hf3
  have hc4 := old_cells B4.out
  have hf4 := old_marks B4.out
  go_wp2_with fail
  refine (edge_any _ _ _ _ _ _ _ _ _ H4 (Boxes.tab T B4)).mono ?_
  rintro r w5 ⟨rfl, hb5⟩
  have B5 := Boxes.step B4 hb5
  clear hb5 hc4 hf4
  have hc5 := old_cells B5.out
  have hf5 := old_marks B5.out
  have hE := HE.out
  rcases G1.out with rfl | ⟨rfl, _⟩ <;> rcases G2.out with rfl | ⟨rfl, _⟩ <;> rcases G3.out with rfl | ⟨rfl, _⟩ <;> rcases G4.out with rfl | ⟨rfl, _⟩
  all_goals
    (try have q1 := P1.out rfl); (try have q2 := P2.out rfl); (try have q3 := P3.out rfl); (try have q4 := P4.out rfl rfl); (try have q5 := P5.out rfl rfl); (try have q6 := P6.out rfl rfl); (try have q7 := P7.out rfl rfl)
    go_wp2
    go_ret
    exact ⟨rfl, B5.end_⟩

set_option maxHeartbeats 1000000 in
theorem walk (n e p i j : Int) (x1 y1 z1 : Int) (x2 y2 z2 : Int) (w : World) (T : Hid (Tab w)) :
    Calls Tryd.prog 7 #[.agg #[.int .i64 n, .int .i64 e, .int .i64 p, .int .i64 i, .int .i64 j], .agg #[.int .i64 x1, .int .i64 y1, .int .i64 z1], .agg #[.int .i64 x2, .int .i64 y2, .int .i64 z2]] w (Drew (.bool true) w) := by
  by_cases hd : x1 = x2 ∧ y1 = y2 ∧ z1 = z2
  · obtain ⟨rfl, rfl, rfl⟩ := hd
    exact walk_same n e p i j x1 y1 z1 w T
  · exact walk_diff n e p i j x1 y1 z1 x2 y2 z2 w T hd

set_option maxRecDepth 100000 in
theorem lifted (os : Os) (started : os.Started) (H : Type) (enc : TypeId × Value → H) :
    ReturnsInHanded {} Tryd.checked os 7 .any (fun w args => (Rows.placeApartSpec.pre enc Tryd.prog Tryd.f7 [] false w args ∧ laidMetH Tryd.prog laid1 w) ∧ sizedMet enc Tryd.prog Tryd.f7 (OpenSpec.ofChange Rows.placeApartSpec) false w args)
      (Rows.placeApartSpec.post enc Tryd.prog Tryd.f7 false true false false) := by
  refine returnsInHanded_of_change_and (C := Tryd.checked) (X := fun w _ => laidMetH Tryd.prog laid1 w) (fun _ _ _ hh h => h.of_heap hh) own started (by kernel_rfl) Tryd.func7
    (ChangeSpec.witness_shaped (enc := enc) (C := Tryd.checked) (os := os) (X := fun w _ => laidMetH Tryd.prog laid1 w) false (World.doorLaid Tryd.prog 400 os) #[.agg #[.int .i64 0, .int .i64 0, .int .i64 0, .int .i64 0, .int .i64 0], .agg #[.int .i64 0, .int .i64 0, .int .i64 0], .agg #[.int .i64 0, .int .i64 0, .int .i64 0]] 8 rfl (World.shaped_of_RefB (by kernel_rfl) (by kernel_rfl)) (by kernel_rfl) (by kernel_rfl) (by kernel_rfl) (door_met os _)) ?_
  intro W base args ds gs before hval0 hW _ _ hL _
  have hval : ∀ (j : Nat) t v, Tryd.f7.params[j]? = some t → args[j]? = some v → Value.okWide Tryd.prog W .any base t v := hval0
  have hW' := hW
  obtain ⟨p, q, hA0, hV, rfl, hfz, hnd⟩ := hW
  have hA : DataW.TrodAll enc Tryd.prog W 0 (fun _ => true) true Tryd.f7.params.toList args.toList ds p := hA0
  rw [Tryd.params7] at hA hval
  obtain ⟨v0, vs0, d0, ds0, p0, q0, hargs, rfl, rfl, h0, r0⟩ := trodAll_cons hA
  obtain ⟨v1, vs1, d1, ds1, p1, q1, rfl, rfl, rfl, h1, r1⟩ := trodAll_cons r0
  obtain ⟨v2, vs2, d2, ds2, p2, q2, rfl, rfl, rfl, h2, r2⟩ := trodAll_cons r1
  obtain ⟨rfl, rfl, rfl⟩ := trodAll_nil r2
  obtain rfl : args = #[v0, v1, v2] := by cases args; simp_all
  obtain ⟨rfl, rfl⟩ := trodVars_none hV
  obtain ⟨n, e, p, i, j, rfl, rfl⟩ := open_cfg (hval 0 23 v0 rfl rfl) h0
  obtain ⟨x1, y1, z1, rfl, rfl⟩ := open_three (hval 1 41 v1 rfl rfl) h1
  obtain ⟨x2, y2, z2, rfl, rfl⟩ := open_three (hval 2 41 v2 rfl rfl) h2
  clear hA0 hval0
  refine (walk n e p i j x1 y1 z1 x2 y2 z2 W (of_laid hL)).mono fun e W' ⟨he, bel⟩ => ?_
  subst he
  exact ⟨_, rfl, _, _, _, [], _, [], hW', trodAll_mk1 (shut_bool Tryd.underlying4 _), (trodAll_cons_mk (Below.trod laidOut (by kernel_rfl) (of_decide_eq_true (by kernel_rfl)) h0 bel (fun x hx => by cases hx)) (trodAll_cons_mk (Below.trod laidOut (by kernel_rfl) (of_decide_eq_true (by kernel_rfl)) h1 bel (fun x hx => by cases hx)) (trodAll_cons_mk (Below.trod laidOut (by kernel_rfl) (of_decide_eq_true (by kernel_rfl)) h2 bel (fun x hx => by cases hx)) trodAll_mk0))), rfl, bel.frame _, fun h => by cases h⟩

theorem over : Rows.PlaceApartSaid :=
  OpenClaim.holds_of_wide 7 Tryd.f7 rfl rfl rfl rfl rfl rfl rfl ⟨rfl, rfl, rfl, rfl, rfl⟩ rfl rfl rfl rfl rfl (by kernel_rfl) Tryd.func7 (by kernel_rfl)
    (of_decide_eq_true (by kernel_rfl)) (by unfold Func.isWrapper; first | (rw [if_pos (by decide +kernel)]; kernel_rfl) | (rw [if_neg (by decide +kernel)]; exact ⟨rfl, rfl⟩))
    (fun os started H enc _ => lifted os started H enc)

end Go.Proofs.YtknbllhkifigbaaDoor.placeApart

namespace Go.Proofs.YtknbllhkifigbaaDoor
/-- The statement: the row, its listed variable tied to the program's text. -/
theorem placeApart_holds : Rows.PlaceApartCardSaid :=
  Claim7.holds_tied_plain_at .later [] [.data] true (true, "442dd6be2436c956687250717f12b8bfee1fcf7e0386f11ce72f4eac86cb00ed") false
    placeApart.over (fun _ h => by cases h) (by kernel_rfl) (fun _ h => by cases h) placeApart_row_tie rfl ⟨rfl, rfl⟩ (by kernel_rfl) rfl
    (fun f fn hf hfn => by
      obtain rfl : f = 7 := Option.some.inj ((show Tryd.prog.funcNamed Rows.placeApartRow.func = some 7 by kernel_rfl).symm.trans hf) |>.symm
      obtain rfl : fn = Tryd.f7 := (Option.some.inj (Tryd.func7.symm.trans hfn)).symm
      exact ⟨by kernel_rfl, fun j t ht => by
        rw [Tryd.params7] at ht
        have hm : t ∈ [23, 41, 41] := by simpa using Array.mem_of_getElem? ht
        have hall : ([23, 41, 41].all fun u => !Tryd.prog.wantsStandIn u) = true := by kernel_rfl
        exact (show Tryd.prog.wantsStandIn t = false by simpa using List.all_eq_true.1 hall t hm)⟩)
    (by kernel_rfl)
#print axioms placeApart_holds
end Go.Proofs.YtknbllhkifigbaaDoor
