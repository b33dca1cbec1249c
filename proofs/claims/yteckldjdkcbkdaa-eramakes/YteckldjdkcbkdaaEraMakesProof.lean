/- For every number and every era: both News tell the same, both Checks do, and both Safes. (The statement tendrillaw06.EraMakes.) -/
import Derived.Test.YteckldjdkcbkdaaRows
import Derived.Test.YteckldjdkcbkdaaLive
import Derived.Test.YteckldjdkcbkdaaFrame
import Derived.WalkKit
namespace Go.Proofs.Yteckldjdkcbkdaa.eraMakes
open Go.Joins Go.ChangeShapes Go.WideShapes Go.ChangeAt Go.RowKit Go.Deep
set_option linter.unusedVariables false

/-- Three boxes. -/
def Trip (w u : World) (t : Int) (A : Option Addr) (n c : Nat) (zs : List Int) (h j : Nat) (D : Option Addr) (e d : Nat) (E : Option Addr) (f x : Nat) (ys : List Int) : Prop :=
  Stand w u w.heap.size t A n c zs ∧ Stand w u h 0 D e d ys ∧ Stand w u j 0 E f x ys
theorem Trip.step {w u u' : World} {t : Int} {A D E : Option Addr} {n c h j e d f x : Nat} {zs ys : List Int} (T : Trip w u t A n c zs h j D e d E f x ys) (hb : Below u.heap.size u u') : Trip w u' t A n c zs h j D e d E f x ys := ⟨T.1.step hb, T.2.1.step hb, T.2.2.step hb⟩

set_option maxRecDepth 100000 in
set_option maxHeartbeats 3000000 in
theorem walk (a0 : Int) (t1 : Int) (A1 : Option Addr) (n1 c1 : Nat) (z1 : List Int) (w : World) (w0 : (Lit.int .i64 a0).wf = true) (w1 : Reads w w.heap.size A1 n1 c1 z1) :
    Calls Try.prog 3 #[.int .i64 a0, V2 t1 A1 n1 c1] w (Drew (.bool true) w) := by
  clear w0
  have S0 := hide (stand_in t1 w1)
  clear w1
  obtain ⟨b, HB⟩ := bool_of (Ok t1 z1)
  obtain ⟨zn, err, hnew, hrnew, hfew⟩ := new_any a0
  have HNew := hide hnew
  have HRNew := hide hrnew
  clear hnew hrnew
  go_enter Try.func3, Try.ntmps3
  go_wp2_with fail
  refine (live_yes _).mono ?_
  rintro e u1 ⟨rfl, b1⟩
  have X1 := hide (S0.out.step b1)
  clear b1 S0
  have hc := X1.out.box.cells
  have hl := X1.out.box.lt
  by_cases few : 200 < n1
  · have d1 : decide ((200 : Int) < (n1 : Int)) = true := by simp; omega
    go_wp2
    go_ret
    exact ⟨rfl, X1.out.bel⟩
  have d1 : decide ((200 : Int) < (n1 : Int)) = false := by simp; omega
  go_wp2_with fail
  refine (HNew.out _).mono ?_
  rintro e u3 ⟨D0, e0, d0, rfl, r3, b3⟩
  have X3 := hide (X1.out.step b3)
  have HE0 : Hid (e0 ≤ 64) := by have := r3.len; show _ ≤ _; omega
  have Y3 := hide (Stand.first X3.out.bel r3 0)
  have X3' := hide (X3.out.alloc (.cells (C2 0 D0 e0 d0) 24))
  obtain ⟨h, hh⟩ : ∃ h, Hid (u3.heap.size = h) := ⟨_, rfl⟩
  clear r3 b3 X1 X3 hc hl
  rw [hh.out] at Y3
  go_wp2_with fail
  refine (HRNew.out _).mono ?_
  rintro e u4 ⟨E0, f0, x0, rfl, r4, b4⟩
  have X4 := hide (X3'.out.step b4)
  have Y4 := hide (Y3.out.step b4)
  have Z4 := hide (Stand.first X4.out.bel r4 0)
  have X4' := hide (X4.out.alloc (.cells (C2 0 E0 f0 x0) 24))
  have Y4' := hide (Y4.out.alloc (.cells (C2 0 E0 f0 x0) 24))
  obtain ⟨j, hj⟩ : ∃ j, Hid (u4.heap.size = j) := ⟨_, rfl⟩
  rw [hj.out] at Z4
  rw [hh.out]
  have T5 : Hid (Trip w (u4.alloc (.cells (C2 0 E0 f0 x0) 24)) t1 A1 n1 c1 z1 h j D0 e0 d0 E0 f0 x0 zn) := ⟨X4'.out, Y4'.out, Z4.out⟩
  clear r4 b4 X3' Y3 Y4 X4 X4' Y4' Z4
  have g4 : (err == err) = true := by simp
  have g5 : (chk b == chk b) = true := by simp
  have g6 : (safeV b t1 == safeV b t1) = true := by simp
  have HS1 : Hid (∀ u, Hid (Trip w u t1 A1 n1 c1 z1 h j D0 e0 d0 E0 f0 x0 zn) → Calls Try.prog 12 #[V2 0 D0 e0 d0, V2 0 E0 f0 x0] u (Drew (.bool true) u)) := fun u hu => samee_yes 0 D0 E0 e0 f0 d0 x0 _ _ zn u hu.out.2.1.reads hu.out.2.2.reads (Nat.le_refl _) (Nat.le_refl _) (by have := HE0.out; omega)
  have HS2 : Hid (∀ u, Hid (Trip w u t1 A1 n1 c1 z1 h j D0 e0 d0 E0 f0 x0 zn) → Calls Try.prog 13 #[V2 t1 A1 n1 c1] u (Drew (.int .i64 (chk b)) u)) := fun u hu => check_any t1 A1 n1 c1 _ z1 b u hu.out.1.reads (Nat.le_refl _) HB
  have HS3 : Hid (∀ u, Hid (Trip w u t1 A1 n1 c1 z1 h j D0 e0 d0 E0 f0 x0 zn) → Calls Try.prog 14 #[V2 t1 A1 n1 c1] u (Drew (.int .i64 (chk b)) u)) := fun u hu => rcheck_any t1 A1 n1 c1 _ z1 b u hu.out.1.reads (Nat.le_refl _) HB
  have HS4 : Hid (∀ u, Hid (Trip w u t1 A1 n1 c1 z1 h j D0 e0 d0 E0 f0 x0 zn) → Calls Try.prog 15 #[V2 t1 A1 n1 c1] u (Drew (.int .i64 (safeV b t1)) u)) := fun u hu => safe_any t1 A1 n1 c1 _ z1 b u hu.out.1.reads (Nat.le_refl _) HB
  have HS5 : Hid (∀ u, Hid (Trip w u t1 A1 n1 c1 z1 h j D0 e0 d0 E0 f0 x0 zn) → Calls Try.prog 16 #[V2 t1 A1 n1 c1] u (Drew (.int .i64 (safeV b t1)) u)) := fun u hu => rsafe_any t1 A1 n1 c1 _ z1 b u hu.out.1.reads (Nat.le_refl _) HB
  have hN : Hid (∀ u, Hid (Trip w u t1 A1 n1 c1 z1 h j D0 e0 d0 E0 f0 x0 zn) → (u.cell? ⟨w.heap.size, 0, none⟩ = some (.int .i64 t1) ∧ u.cell? ⟨w.heap.size, 1, none⟩ = some (.slice A1 n1 c1) ∧ u.cell? ⟨h, 0, none⟩ = some (.int .i64 0) ∧ u.cell? ⟨h, 1, none⟩ = some (.slice D0 e0 d0) ∧ u.cell? ⟨j, 0, none⟩ = some (.int .i64 0) ∧ u.cell? ⟨j, 1, none⟩ = some (.slice E0 f0 x0) ∧ Hid (Trip w u t1 A1 n1 c1 z1 h j D0 e0 d0 E0 f0 x0 zn))) :=
    fun u hu => ⟨hu.out.1.box.cells 0, hu.out.1.box.cells 1, hu.out.2.1.box.cells 0, hu.out.2.1.box.cells 1, hu.out.2.2.box.cells 0, hu.out.2.2.box.cells 1, hu⟩
  generalize chk b = cb at HS2 HS3 g5
  generalize safeV b t1 = sb at HS4 HS5 g6
  obtain ⟨U, hU⟩ : ∃ U, Hid (u4.alloc (.cells #[.int .i64 0, .slice E0 f0 x0] 24) = U) := ⟨_, rfl⟩
  have T6 : Hid (Trip w U t1 A1 n1 c1 z1 h j D0 e0 d0 E0 f0 x0 zn) := by show Trip _ _ _ _ _ _ _ _ _ _ _ _ _ _ _ _; rw [← hU.out]; exact T5.out
  have D6 := hide (Trip.step T6.out ((Below.refl U.heap.size U).drew))
  go_wp2
  rw [hU.out, hj.out]
  clear T5 T6
  go_region_held3 (fun u => u.cell? ⟨w.heap.size, 0, none⟩ = some (.int .i64 t1) ∧ u.cell? ⟨w.heap.size, 1, none⟩ = some (.slice A1 n1 c1) ∧ u.cell? ⟨h, 0, none⟩ = some (.int .i64 0) ∧ u.cell? ⟨h, 1, none⟩ = some (.slice D0 e0 d0) ∧ u.cell? ⟨j, 0, none⟩ = some (.int .i64 0) ∧ u.cell? ⟨j, 1, none⟩ = some (.slice E0 f0 x0) ∧ Hid (Trip w u t1 A1 n1 c1 z1 h j D0 e0 d0 E0 f0 x0 zn)) (first | exact hN.out _ D6 | exact hN.out _ (by assumption))
    (first | (go_at_call 12; refine (HS1.out _ ?_).mono ?_; (exact (by assumption)); rintro e v1 ⟨rfl, hv1⟩; have T1 := hide (Trip.step (Hid.out (by assumption)) hv1)) | (go_at_call 13; refine (HS2.out _ ?_).mono ?_; (exact (by assumption)); rintro e v2 ⟨rfl, hv2⟩; have T2 := hide (Trip.step (Hid.out (by assumption)) hv2)) | (go_at_call 14; refine (HS3.out _ ?_).mono ?_; (exact (by assumption)); rintro e v3 ⟨rfl, hv3⟩; have T3 := hide (Trip.step (Hid.out (by assumption)) hv3)) | (go_at_call 15; refine (HS4.out _ ?_).mono ?_; (exact (by assumption)); rintro e v4 ⟨rfl, hv4⟩; have T4 := hide (Trip.step (Hid.out (by assumption)) hv4)) | (go_at_call 16; refine (HS5.out _ ?_).mono ?_; (exact (by assumption)); rintro e v5 ⟨rfl, hv5⟩; have T5 := hide (Trip.step (Hid.out (by assumption)) hv5)))
  go_wp2
  go_ret
  exact ⟨rfl, T5.out.1.bel⟩

theorem lifted (os : Os) (started : os.Started) (H : Type) (enc : TypeId × Value → H) :
    ReturnsInHanded {} Try.checked os 3 .any (Rows.eraMakesSpec.pre6 enc Try.prog Try.f3 Rows.eraMakesRow.domain false) (Rows.eraMakesSpec.post enc Try.prog Try.f3 false true false false) := by
  refine returnsInHanded_of_change (C := Try.checked) own started (by kernel_rfl) Try.func3
    (ChangeSpec.witness6 (enc := enc) (C := Try.checked) false ⟨#[], #[.int .i64 0, .agg #[.int .i64 0, .slice none 0 0]], []⟩ 8 (by kernel_rfl) (by kernel_rfl) (by kernel_rfl) (by kernel_rfl)) ?_
  intro W base args ds gs before hval0 hW hcnd _
  have hval : ∀ (j : Nat) t v, Try.f3.params[j]? = some t → args[j]? = some v → Value.okWide Try.prog W .any base t v := hval0
  have hW' := hW
  obtain ⟨p, q, hA0, hV, rfl, hfz, hnd⟩ := hW
  have hA : DataW.TrodAll enc Try.prog W 0 (fun _ => true) true Try.f3.params.toList args.toList ds p := hA0
  rw [Try.params3] at hA hval
  obtain ⟨x0, vs0, d0, ds0, p0, q0, hargs, rfl, rfl, h0, r0⟩ := trodAll_cons hA
  obtain ⟨x1, vs1, d1, ds1, p1, q1, rfl, rfl, rfl, h1, r1⟩ := trodAll_cons r0
  obtain ⟨rfl, rfl, rfl⟩ := trodAll_nil r1
  obtain rfl : args = #[x0, x1] := by cases args; simp_all
  obtain ⟨rfl, rfl⟩ := trodVars_none hV
  have lt1 : ∀ x ∈ p1, x.block < W.heap.size := by obtain ⟨m, hm⟩ := h1; exact DataW.trod_lt m _ _ _ hm
  obtain ⟨a0, rfl, rfl, rfl, w0⟩ := open_int Try.underlying3 (hval 0 3 x0 rfl rfl) h0
  obtain ⟨t1, A1, n1, c1, z1, rfl, w1⟩ := open_era (hval 1 24 x1 rfl rfl) h1
  clear hA0 hval0
  refine (walk a0 t1 A1 n1 c1 z1 W w0 w1).mono fun e W' ⟨he, bel⟩ => ?_
  subst he
  exact ⟨_, rfl, _, _, _, [], _, [], hW', trodAll_mk1 (shut_bool Try.underlying4 _), (trodAll_cons_mk (shut_int Try.underlying3 w0) (trodAll_cons_mk (Below.trod laidOut (by kernel_rfl) (of_decide_eq_true (by kernel_rfl)) h1 bel lt1) trodAll_mk0)), rfl, bel.frame _, fun h => by cases h⟩

theorem over : Rows.eraMakesRow.holds Try.pinned (OpenSpec.ofChange Rows.eraMakesSpec) :=
  OpenClaim.holds_of_wide 3 Try.f3 rfl rfl rfl rfl rfl rfl rfl ⟨rfl, rfl, rfl, rfl, rfl⟩ rfl rfl rfl rfl rfl (by kernel_rfl) Try.func3 (by kernel_rfl)
    (of_decide_eq_true (by kernel_rfl)) (by unfold Func.isWrapper; first | (rw [if_pos (by decide +kernel)]; kernel_rfl) | (rw [if_neg (by decide +kernel)]; exact ⟨rfl, rfl⟩))
    (fun os started H enc _ => lifted os started H enc)

end Go.Proofs.Yteckldjdkcbkdaa.eraMakes

namespace Go.Proofs.Yteckldjdkcbkdaa
/-- The statement. -/
theorem eraMakes_holds : Rows.EraMakesSaid := eraMakes.over
#print axioms eraMakes_holds
end Go.Proofs.Yteckldjdkcbkdaa
