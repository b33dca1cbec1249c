/- For every number and every pool: both News tell the same, both Checks do, and both Counts. (The statement tendrillaw05.PoolMakes.) -/
import Derived.Test.YtfdbbfjnianahaaRows
import Derived.Test.YtfdbbfjnianahaaLaw
import Derived.Test.YtfdbbfjnianahaaNew2
import Derived.Test.YtfdbbfjnianahaaWalksX
import Derived.Test.YtfdbbfjnianahaaWalksY
import Derived.Test.YtfdbbfjnianahaaFrame
import Derived.WalkKit
namespace Go.Proofs.Ytfdbbfjnianahaa.poolMakes
open Go.Joins Go.ChangeShapes Go.WideShapes Go.ChangeAt Go.RowKit Go.Deep
set_option linter.unusedVariables false

/-- Three boxes. -/
def Trip (w u : World) (p : Pl) (P : PL) (h j : Nat) (q r : Pl) (Q : PL) : Prop := Keep w u w.heap.size p P ∧ Stand w u h q Q ∧ Stand w u j r Q
theorem Trip.step {w u u' : World} {p : Pl} {P : PL} {h j : Nat} {q r : Pl} {Q : PL} (t : Trip w u p P h j q r Q) (hb : Below u.heap.size u u') : Trip w u' p P h j q r Q := ⟨t.1.step hb, t.2.1.step hb, t.2.2.step hb⟩

/-- Both New's tell the same. -/
theorem new_any (n : Int) : ∃ Q err, (∀ w, Calls Try.prog 11 #[.int .i64 n] w (TellE w Q err)) ∧ (∀ w, Calls Try.prog 12 #[.int .i64 n] w (TellE w Q err)) ∧ Few Q := by
  by_cases h : 1 ≤ n ∧ n ≤ 64
  · obtain ⟨k, rfl⟩ : ∃ k : Nat, n = (k : Int) := ⟨n.toNat, by omega⟩
    exact ⟨newP k, 0, fun w => new_ok k w (by omega) (by omega), fun w => rnew_ok k w (by omega) (by omega), Few.new (by omega)⟩
  · have h' : n < 1 ∨ 64 < n := by omega
    exact ⟨noP, 1, fun w => new_no n w h', fun w => rnew_no n w h', by simp [Few, noP]⟩

set_option maxRecDepth 100000 in
set_option maxHeartbeats 3000000 in
theorem walk (a0 : Int) (p1 : Pl) (P1 : PL) (w : World) (w0 : (Lit.int .i64 a0).wf = true) (w1 : Reads w w.heap.size p1 P1) :
    Calls Try.prog 3 #[.int .i64 a0, p1.val] w (Drew (.bool true) w) := by
  clear w0
  have R0 := hide w1
  clear w1
  obtain ⟨A0, A1, A2, A3, n0, n1, n2, n3, c0, c1, c2, c3⟩ := p1
  obtain ⟨G, S, W, F⟩ := P1
  have S0 := hide (stand_in w _ _ R0.out)
  obtain ⟨NQ, err, hnew, hrnew, hfew⟩ := new_any a0
  have HNew := hide hnew
  have HRNew := hide hrnew
  have HFew := hide hfew
  clear hnew hrnew hfew
  go_enter Try.func3, Try.ntmps3
  go_wp2_with fail
  refine (live_yes _).mono ?_
  rintro e u1 ⟨rfl, b1⟩
  have X1 := hide (S0.out.step b1)
  clear b1 S0
  have hc := X1.out.box.cells
  have hl := X1.out.box.lt
  by_cases few : n0 ≤ 200 ∧ n1 ≤ 200 ∧ n2 ≤ 200 ∧ n3 ≤ 200
  case neg =>
    have HFE := hide few
    clear few
    go_wp2_with fail
    refine (few_no _ _ _ _ _ _ _ _ _ _ _ _ _ HFE).mono ?_
    rintro e u2 ⟨rfl, b2⟩
    have X2 := hide (X1.out.step b2)
    clear b2 X1 hc hl
    go_wp2
    go_ret
    exact ⟨rfl, X2.out.bel⟩
  obtain ⟨m0, m1, m2, m3⟩ := few
  have HM : Hid (Small ⟨A0, A1, A2, A3, n0, n1, n2, n3, c0, c1, c2, c3⟩) := ⟨m0, m1, m2, m3⟩
  obtain ⟨b, hb⟩ := bool_of (MayBe ⟨G, S, W, F⟩)
  have HB := hide hb
  clear hb
  go_wp2_with fail
  refine (few_yes _ _ _ _ _ _ _ _ _ _ _ _ _ m0 m1 m2 m3).mono ?_
  rintro e u2 ⟨rfl, b2⟩
  have X2 := hide (X1.out.step b2)
  clear b2 X1 hc hl
  go_wp2_with fail
  refine (HNew.out _).mono ?_
  rintro e u3 ⟨q3, rfl, o3, b3⟩
  have X3 := hide (X2.out.step b3)
  have Y3 := hide (Stand.first X3.out.bel o3.told HFew.out)
  have X3' := hide (X3.out.alloc (.cells q3.cs 24))
  obtain ⟨h, hh⟩ : ∃ h, Hid (u3.heap.size = h) := ⟨_, rfl⟩
  obtain ⟨D0, D1, D2, D3, e0, e1, e2, e3, d0, d1, d2, d3⟩ := q3
  clear o3 b3 X2 X3
  rw [hh.out] at Y3
  go_wp2_with fail
  refine (HRNew.out _).mono ?_
  rintro e u4 ⟨q4, rfl, o4, b4⟩
  have X4 := hide (X3'.out.step b4)
  have Y4 := hide (Y3.out.step b4)
  have Z4 := hide (Stand.first X4.out.bel o4.told HFew.out)
  have X4' := hide (X4.out.alloc (.cells q4.cs 24))
  have Y4' := hide (Y4.out.alloc (.cells q4.cs 24))
  obtain ⟨j, hj⟩ : ∃ j, Hid (u4.heap.size = j) := ⟨_, rfl⟩
  rw [hj.out] at Z4
  obtain ⟨E0, E1, E2, E3, f0, f1, f2, f3, x0, x1, x2, x3⟩ := q4
  rw [hh.out]
  have hc := X4.out.box.cells
  have hl := X4.out.box.lt
  clear o4 b4 X3' Y3
  go_wp2_with fail
  refine (count_any ⟨A0, A1, A2, A3, n0, n1, n2, n3, c0, c1, c2, c3⟩ _ _ b _ X4'.out.reads (Nat.le_refl _) HM.out HB).mono ?_
  rintro e u5 ⟨rfl, b5⟩
  have T5 : Hid (Trip w u5 ⟨A0, A1, A2, A3, n0, n1, n2, n3, c0, c1, c2, c3⟩ ⟨G, S, W, F⟩ h j ⟨D0, D1, D2, D3, e0, e1, e2, e3, d0, d1, d2, d3⟩ ⟨E0, E1, E2, E3, f0, f1, f2, f3, x0, x1, x2, x3⟩ NQ) := ⟨X4'.out.step b5, Y4'.out.step b5, Z4.out.step b5⟩
  clear b5 X4 Y4 Z4 X4' Y4' hc hl
  have hc := T5.out.1.box.cells
  have hl := T5.out.1.box.lt
  rw [hj.out]
  go_wp2_with fail
  refine (rcount_any ⟨A0, A1, A2, A3, n0, n1, n2, n3, c0, c1, c2, c3⟩ _ _ b _ T5.out.1.reads (Nat.le_refl _) HM.out HB).mono ?_
  rintro e u6 ⟨rfl, b6⟩
  have T6 := hide (Trip.step T5.out b6)
  clear b6 T5 hc hl
  generalize cnt b S 1 = k1
  generalize cnt b S 2 = k2
  generalize cnt b S 0 = k3
  have g1 : (k1 == k1) = true := by simp
  have g2 : (k2 == k2) = true := by simp
  have g3 : (k3 == k3) = true := by simp
  have g4 : (err == err) = true := by simp
  have g5 : (chk b == chk b) = true := by simp
  have HS1 : Hid (∀ u, Hid (Trip w u ⟨A0, A1, A2, A3, n0, n1, n2, n3, c0, c1, c2, c3⟩ ⟨G, S, W, F⟩ h j ⟨D0, D1, D2, D3, e0, e1, e2, e3, d0, d1, d2, d3⟩ ⟨E0, E1, E2, E3, f0, f1, f2, f3, x0, x1, x2, x3⟩ NQ) → Calls Try.prog 15 #[V4 D0 D1 D2 D3 e0 e1 e2 e3 d0 d1 d2 d3, V4 E0 E1 E2 E3 f0 f1 f2 f3 x0 x1 x2 x3] u (Drew (.bool true) u)) := fun u hu => samep_yes ⟨D0, D1, D2, D3, e0, e1, e2, e3, d0, d1, d2, d3⟩ ⟨E0, E1, E2, E3, f0, f1, f2, f3, x0, x1, x2, x3⟩ NQ _ _ u hu.out.2.1.reads hu.out.2.2.reads (Nat.le_refl _) (Nat.le_refl _) hu.out.2.1.small
  have HS2 : Hid (∀ u, Hid (Trip w u ⟨A0, A1, A2, A3, n0, n1, n2, n3, c0, c1, c2, c3⟩ ⟨G, S, W, F⟩ h j ⟨D0, D1, D2, D3, e0, e1, e2, e3, d0, d1, d2, d3⟩ ⟨E0, E1, E2, E3, f0, f1, f2, f3, x0, x1, x2, x3⟩ NQ) → Calls Try.prog 16 #[V4 A0 A1 A2 A3 n0 n1 n2 n3 c0 c1 c2 c3] u (Drew (.int .i64 (chk b)) u)) := fun u hu => check_any ⟨A0, A1, A2, A3, n0, n1, n2, n3, c0, c1, c2, c3⟩ _ _ b u hu.out.1.reads (Nat.le_refl _) HM.out HB
  have HS3 : Hid (∀ u, Hid (Trip w u ⟨A0, A1, A2, A3, n0, n1, n2, n3, c0, c1, c2, c3⟩ ⟨G, S, W, F⟩ h j ⟨D0, D1, D2, D3, e0, e1, e2, e3, d0, d1, d2, d3⟩ ⟨E0, E1, E2, E3, f0, f1, f2, f3, x0, x1, x2, x3⟩ NQ) → Calls Try.prog 17 #[V4 A0 A1 A2 A3 n0 n1 n2 n3 c0 c1 c2 c3] u (Drew (.int .i64 (chk b)) u)) := fun u hu => rcheck_any ⟨A0, A1, A2, A3, n0, n1, n2, n3, c0, c1, c2, c3⟩ _ _ b u hu.out.1.reads (Nat.le_refl _) HM.out HB
  have hN : Hid (∀ u, Hid (Trip w u ⟨A0, A1, A2, A3, n0, n1, n2, n3, c0, c1, c2, c3⟩ ⟨G, S, W, F⟩ h j ⟨D0, D1, D2, D3, e0, e1, e2, e3, d0, d1, d2, d3⟩ ⟨E0, E1, E2, E3, f0, f1, f2, f3, x0, x1, x2, x3⟩ NQ) → (u.cell? ⟨w.heap.size, 0, none⟩ = some (.slice A0 n0 c0) ∧ u.cell? ⟨w.heap.size, 1, none⟩ = some (.slice A1 n1 c1) ∧ u.cell? ⟨w.heap.size, 2, none⟩ = some (.slice A2 n2 c2) ∧ u.cell? ⟨w.heap.size, 3, none⟩ = some (.slice A3 n3 c3) ∧ u.cell? ⟨h, 0, none⟩ = some (.slice D0 e0 d0) ∧ u.cell? ⟨h, 1, none⟩ = some (.slice D1 e1 d1) ∧ u.cell? ⟨h, 2, none⟩ = some (.slice D2 e2 d2) ∧ u.cell? ⟨h, 3, none⟩ = some (.slice D3 e3 d3) ∧ u.cell? ⟨j, 0, none⟩ = some (.slice E0 f0 x0) ∧ u.cell? ⟨j, 1, none⟩ = some (.slice E1 f1 x1) ∧ u.cell? ⟨j, 2, none⟩ = some (.slice E2 f2 x2) ∧ u.cell? ⟨j, 3, none⟩ = some (.slice E3 f3 x3) ∧ Hid (Trip w u ⟨A0, A1, A2, A3, n0, n1, n2, n3, c0, c1, c2, c3⟩ ⟨G, S, W, F⟩ h j ⟨D0, D1, D2, D3, e0, e1, e2, e3, d0, d1, d2, d3⟩ ⟨E0, E1, E2, E3, f0, f1, f2, f3, x0, x1, x2, x3⟩ NQ))) :=
    fun u hu => ⟨hu.out.1.box.cells 0, hu.out.1.box.cells 1, hu.out.1.box.cells 2, hu.out.1.box.cells 3, hu.out.2.1.box.cells 0, hu.out.2.1.box.cells 1, hu.out.2.1.box.cells 2, hu.out.2.1.box.cells 3, hu.out.2.2.box.cells 0, hu.out.2.2.box.cells 1, hu.out.2.2.box.cells 2, hu.out.2.2.box.cells 3, hu⟩
  have D6 := hide (Trip.step T6.out ((Below.refl u6.heap.size u6).drew))
  generalize chk b = cb at HS2 HS3 g5
  go_wp2
  go_region_held3 (fun u => u.cell? ⟨w.heap.size, 0, none⟩ = some (.slice A0 n0 c0) ∧ u.cell? ⟨w.heap.size, 1, none⟩ = some (.slice A1 n1 c1) ∧ u.cell? ⟨w.heap.size, 2, none⟩ = some (.slice A2 n2 c2) ∧ u.cell? ⟨w.heap.size, 3, none⟩ = some (.slice A3 n3 c3) ∧ u.cell? ⟨h, 0, none⟩ = some (.slice D0 e0 d0) ∧ u.cell? ⟨h, 1, none⟩ = some (.slice D1 e1 d1) ∧ u.cell? ⟨h, 2, none⟩ = some (.slice D2 e2 d2) ∧ u.cell? ⟨h, 3, none⟩ = some (.slice D3 e3 d3) ∧ u.cell? ⟨j, 0, none⟩ = some (.slice E0 f0 x0) ∧ u.cell? ⟨j, 1, none⟩ = some (.slice E1 f1 x1) ∧ u.cell? ⟨j, 2, none⟩ = some (.slice E2 f2 x2) ∧ u.cell? ⟨j, 3, none⟩ = some (.slice E3 f3 x3) ∧ Hid (Trip w u ⟨A0, A1, A2, A3, n0, n1, n2, n3, c0, c1, c2, c3⟩ ⟨G, S, W, F⟩ h j ⟨D0, D1, D2, D3, e0, e1, e2, e3, d0, d1, d2, d3⟩ ⟨E0, E1, E2, E3, f0, f1, f2, f3, x0, x1, x2, x3⟩ NQ)) (first | exact hN.out _ D6 | exact hN.out _ (by assumption))
    (first | (go_at_call 15; refine (HS1.out _ ?_).mono ?_; (exact (by assumption)); rintro e v1 ⟨rfl, hv1⟩; have T1 := hide (Trip.step (Hid.out (by assumption)) hv1)) | (go_at_call 16; refine (HS2.out _ ?_).mono ?_; (exact (by assumption)); rintro e v2 ⟨rfl, hv2⟩; have T2 := hide (Trip.step (Hid.out (by assumption)) hv2)) | (go_at_call 17; refine (HS3.out _ ?_).mono ?_; (exact (by assumption)); rintro e v3 ⟨rfl, hv3⟩; have T3 := hide (Trip.step (Hid.out (by assumption)) hv3)))
  go_wp2
  go_ret
  exact ⟨rfl, T3.out.1.bel⟩

theorem lifted (os : Os) (started : os.Started) (H : Type) (enc : TypeId × Value → H) :
    ReturnsInHanded {} Try.checked os 3 .any (Rows.poolMakesSpec.pre6 enc Try.prog Try.f3 Rows.poolMakesRow.domain false) (Rows.poolMakesSpec.post enc Try.prog Try.f3 false true false false) := by
  refine returnsInHanded_of_change (C := Try.checked) own started (by kernel_rfl) Try.func3
    (ChangeSpec.witness6 (enc := enc) (C := Try.checked) false ⟨#[], #[.int .i64 0, .agg #[.slice none 0 0, .slice none 0 0, .slice none 0 0, .slice none 0 0]], []⟩ 8 (by kernel_rfl) (by kernel_rfl) (by kernel_rfl) (by kernel_rfl)) ?_
  intro W base args ds gs before hval0 hW hcnd _
  have hval : ∀ (j : Nat) t v, Try.f3.params[j]? = some t → args[j]? = some v → Value.okWide Try.prog W .any base t v := hval0
  have hW' := hW
  obtain ⟨p, q, hA0, hV, rfl, hfz, hnd⟩ := hW
  have hA : DataW.TrodAll enc Try.prog W 0 (fun _ => true) true Try.f3.params.toList args.toList ds p := hA0
  rw [Try.params3] at hA hval
  obtain ⟨x0, vs0, d0, ds0, p0, q0, hargs, rfl, rfl, h0, r0⟩ := trodAll_cons hA
  obtain ⟨x1, vs1, d1, ds1, p1, q1, rfl, rfl, rfl, h1, r1⟩ := trodAll_cons r0
  obtain ⟨rfl, rfl, rfl⟩ := trodAll_nil r1
  obtain rfl : args = #[x0, x1] := by cases args; simp_all
  obtain ⟨rfl, rfl⟩ := trodVars_none hV
  have lt1 : ∀ x ∈ p1, x.block < W.heap.size := by obtain ⟨m, hm⟩ := h1; exact DataW.trod_lt m _ _ _ hm
  obtain ⟨a0, rfl, rfl, rfl, w0⟩ := open_int Try.underlying3 (hval 0 3 x0 rfl rfl) h0
  obtain ⟨p1, P1, rfl, w1⟩ := open_pool (hval 1 24 x1 rfl rfl) h1
  clear hA0 hval0
  refine (walk a0 p1 P1 W w0 w1).mono fun e W' ⟨he, bel⟩ => ?_
  subst he
  exact ⟨_, rfl, _, _, _, [], _, [], hW', trodAll_mk1 (shut_bool Try.underlying4 _), (trodAll_cons_mk (shut_int Try.underlying3 w0) (trodAll_cons_mk (Below.trod laidOut (by kernel_rfl) (of_decide_eq_true (by kernel_rfl)) h1 bel lt1) trodAll_mk0)), rfl, bel.frame _, fun h => by cases h⟩

theorem over : Rows.poolMakesRow.holds Try.pinned (OpenSpec.ofChange Rows.poolMakesSpec) :=
  OpenClaim.holds_of_wide 3 Try.f3 rfl rfl rfl rfl rfl rfl rfl ⟨rfl, rfl, rfl, rfl, rfl⟩ rfl rfl rfl rfl rfl (by kernel_rfl) Try.func3 (by kernel_rfl)
    (of_decide_eq_true (by kernel_rfl)) (by unfold Func.isWrapper; first | (rw [if_pos (by decide +kernel)]; kernel_rfl) | (rw [if_neg (by decide +kernel)]; exact ⟨rfl, rfl⟩))
    (fun os started H enc _ => lifted os started H enc)

end Go.Proofs.Ytfdbbfjnianahaa.poolMakes

namespace Go.Proofs.Ytfdbbfjnianahaa
/-- The statement. -/
theorem poolMakes_holds : Rows.PoolMakesSaid := poolMakes.over
#print axioms poolMakes_holds
end Go.Proofs.Ytfdbbfjnianahaa
