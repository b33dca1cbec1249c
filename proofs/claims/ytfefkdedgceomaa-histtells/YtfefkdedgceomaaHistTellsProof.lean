/- Whether one call is ahead of another one, whether they are the same, and how many are pending, are told as the document says. (The statement tendrillaw12.HistTells.) -/
import Derived.Test.YtfefkdedgceomaaRows
import Derived.Test.YtfefkdedgceomaaWLive
import Derived.Test.YtfefkdedgceomaaHFrame
import Derived.WalkKit
import Derived.Below
import Derived.Deep.QuietTactic
import Derived.BigQuiet
import Derived.Deep.AppendLies
import Derived.Deep.RegionHeld3
import Derived.Deep.DeepCutAuto
import Derived.Shelf.Abstract
namespace Go.Proofs.Ytfefkdedgceomaa.histTells
open Go.Joins Go.ChangeShapes Go.WideShapes Go.ChangeAt Go.RowKit Go.Deep
set_option linter.unusedVariables false

theorem add_any (x y : Int) : ∃ s : Int, ∀ u : World, (binOp .add 3 (.int .i64 x) (.int .i64 y)).run Try.prog u = .ok (.int .i64 s) u := by
  have u3 := Try.underlying3
  refine ⟨IntKind.i64.wrap (x + y), fun u => ?_⟩
  go_simp
theorem add_law {ops : Array Oper} {rest : List Oper} {a : Act} {w : World} {Q : Exit → Act → World → Prop} {dst : Option Tmp} {ty : TypeId} {pos : String} {af : Array Edge} {gd : Option (Nat × Bool)} (x y : Operand) (p q s : Int)
    (hw : Region.wanted ⟨dst, .binOp .add 3 x y 3, ty, pos, af, gd⟩ (yielded ops a.tmps) = true) (hx : a.eval x = .int .i64 p) (hy : a.eval y = .int .i64 q) (hs : ∀ u : World, (binOp .add 3 (.int .i64 p) (.int .i64 q)).run Try.prog u = .ok (.int .i64 s) u) (h : wpList Try.prog ops Q rest (a.put dst (.int .i64 s)) w) :
    wpList Try.prog ops Q (⟨dst, .binOp .add 3 x y 3, ty, pos, af, gd⟩ :: rest) a w := by
  refine BigFrame.wpList_want hw fun _ hK => ?_
  unfold Oper.wp execOp
  simp [hx, hy, hs, Result.andThen]
  exact hK _ _ h

set_option maxRecDepth 100000 in
set_option maxHeartbeats 8000000 in
theorem walk (c0 : Cl) (z0 : S3) (c1 : Cl) (z1 : S3) (s2 : Sl) (C2 : List Cl) (w : World) (w0 : RSee w w.heap.size z0 c0.r) (u0 : Most c0.r) (w1 : RSee w w.heap.size z1 c1.r) (u1 : Most c1.r) (w2 : Cls w w.heap.size s2 C2) (m2 : s2.n ≤ maxLen) :
    Calls Try.prog 4 #[.agg (cc c0 z0), .agg (cc c1 z1), .slice s2.A s2.n s2.c] w (Drew (.bool true) w) := by
  obtain ⟨A2, n2, cp2⟩ := s2
  dsimp only at m2
  unfold maxLen at m2
  obtain ⟨W, hW⟩ : ∃ W, Hid ((w.alloc (.cells (cc c0 z0) 39)).alloc (.cells (cc c1 z1) 39) = W) := ⟨_, rfl⟩
  have BW : Hid (Below w.heap.size w W) := by show Below _ _ _; rw [← hW.out]; exact (((Below.refl _ _).alloc (Nat.le_refl _) _).alloc (by simp) _)
  have HA : Hid (Bx W (w.heap.size) (cc c0 z0) 39) := by
    have h := ((Bx.new w (cc c0 z0) 39).alloc (.cells (cc c1 z1) 39))
    show Bx _ _ _ _
    rw [← hW.out]
    simpa using h
  have HB : Hid (Bx W (w.heap.size + 1) (cc c1 z1) 39) := by
    have h := (Bx.new (w.alloc (.cells (cc c0 z0) 39)) (cc c1 z1) 39)
    show Bx _ _ _ _
    rw [← hW.out]
    simpa using h
  have S0 := hide ((w0.below BW.out (Nat.le_refl _)).more BW.out.size)
  have S1 := hide ((w1.below BW.out (Nat.le_refl _)).more BW.out.size)
  have SC := hide ((w2.below BW.out (Nat.le_refl _)).more BW.out.size)
  have M0 : Hid (MostR c0.r) := ⟨u0.1, u0.2.1, u0.2.2⟩
  have M1 : Hid (MostR c1.r) := ⟨u1.1, u1.2.1, u1.2.2⟩
  clear w0 w1 w2 u0 u1
  go_enter Try.func4, Try.ntmps4
  go_wp2_with fail
  have hW' := hW.out
  rw [hW']
  clear hW hW'
  refine (live_any W).mono ?_
  rintro e X ⟨rfl, hb1⟩
  have HA := hide (HA.out.step hb1)
  have HB := hide (HB.out.step hb1)
  have S0 := hide (S0.out.step hb1)
  have S1 := hide (S1.out.step hb1)
  have SC := hide (SC.out.step hb1)
  have BW := hide (BW.out.trans (hb1.mono BW.out.size))
  clear hb1
  have a10 : X.cell? ⟨w.heap.size, 10, none⟩ = some (.slice z0.P.A z0.P.n z0.P.c) := HA.out.cells 10
  have a11 : X.cell? ⟨w.heap.size, 11, none⟩ = some (.slice z0.O.A z0.O.n z0.O.c) := HA.out.cells 11
  have a12 : X.cell? ⟨w.heap.size, 12, none⟩ = some (.slice z0.I.A z0.I.n z0.I.c) := HA.out.cells 12
  have b10 : X.cell? ⟨w.heap.size + 1, 10, none⟩ = some (.slice z1.P.A z1.P.n z1.P.c) := HB.out.cells 10
  have b11 : X.cell? ⟨w.heap.size + 1, 11, none⟩ = some (.slice z1.O.A z1.O.n z1.O.c) := HB.out.cells 11
  have b12 : X.cell? ⟨w.heap.size + 1, 12, none⟩ = some (.slice z1.I.A z1.I.n z1.I.c) := HB.out.cells 12
  by_cases g0 : n2 ≤ 100
  case neg =>
    have t0 : decide ((n2 : Int) > 100) = true := by simp; omega
    have t0' : decide ((100 : Int) < (n2 : Int)) = true := by simp; omega
    go_wp2
    go_ret
    exact ⟨rfl, BW.out⟩
  have t0 : decide ((n2 : Int) > 100) = false := by simp; omega
  have t0' : decide ((100 : Int) < (n2 : Int)) = false := by simp; omega
  obtain ⟨y1, hy1⟩ := add_any (z0.P.n : Int) (z0.O.n : Int)
  obtain ⟨y2, hy2⟩ := add_any y1 (z0.I.n : Int)
  obtain ⟨x1, hx1⟩ := add_any (z1.P.n : Int) (z1.O.n : Int)
  obtain ⟨x2, hx2⟩ := add_any x1 (z1.I.n : Int)
  have hy1 := hide hy1
  have hy2 := hide hy2
  have hx1 := hide hx1
  have hx2 := hide hx2
  by_cases g1 : y2 > 100
  case pos =>
    have t1 : decide (y2 > 100) = true := by simpa using g1
    have t1' : decide (100 < y2) = true := by simpa using g1
    go_wp2_with (first | ((with_reducible refine add_law (.tmp 16) (.tmp 20) (z0.P.n : Int) (z0.O.n : Int) y1 ?_ ?_ ?_ hy1.out ?_); (exact rfl); (exact rfl); (exact rfl)) | ((with_reducible refine add_law (.tmp 21) (.tmp 25) y1 (z0.I.n : Int) y2 ?_ ?_ ?_ hy2.out ?_); (exact rfl); (exact rfl); (exact rfl)) | ((with_reducible refine add_law (.tmp 33) (.tmp 37) (z1.P.n : Int) (z1.O.n : Int) x1 ?_ ?_ ?_ hx1.out ?_); (exact rfl); (exact rfl); (exact rfl)) | ((with_reducible refine add_law (.tmp 38) (.tmp 42) x1 (z1.I.n : Int) x2 ?_ ?_ ?_ hx2.out ?_); (exact rfl); (exact rfl); (exact rfl)))
    go_ret
    exact ⟨rfl, BW.out⟩
  have t1 : decide (y2 > 100) = false := by simpa using g1
  have t1' : decide (100 < y2) = false := by simpa using g1
  by_cases g2 : x2 > 100
  case pos =>
    have t2 : decide (x2 > 100) = true := by simpa using g2
    have t2' : decide (100 < x2) = true := by simpa using g2
    go_wp2_with (first | ((with_reducible refine add_law (.tmp 16) (.tmp 20) (z0.P.n : Int) (z0.O.n : Int) y1 ?_ ?_ ?_ hy1.out ?_); (exact rfl); (exact rfl); (exact rfl)) | ((with_reducible refine add_law (.tmp 21) (.tmp 25) y1 (z0.I.n : Int) y2 ?_ ?_ ?_ hy2.out ?_); (exact rfl); (exact rfl); (exact rfl)) | ((with_reducible refine add_law (.tmp 33) (.tmp 37) (z1.P.n : Int) (z1.O.n : Int) x1 ?_ ?_ ?_ hx1.out ?_); (exact rfl); (exact rfl); (exact rfl)) | ((with_reducible refine add_law (.tmp 38) (.tmp 42) x1 (z1.I.n : Int) x2 ?_ ?_ ?_ hx2.out ?_); (exact rfl); (exact rfl); (exact rfl)))
    go_ret
    exact ⟨rfl, BW.out⟩
  have t2 : decide (x2 > 100) = false := by simpa using g2
  have t2' : decide (100 < x2) = false := by simpa using g2
  go_wp2_with (first | ((with_reducible refine add_law (.tmp 16) (.tmp 20) (z0.P.n : Int) (z0.O.n : Int) y1 ?_ ?_ ?_ hy1.out ?_); (exact rfl); (exact rfl); (exact rfl)) | ((with_reducible refine add_law (.tmp 21) (.tmp 25) y1 (z0.I.n : Int) y2 ?_ ?_ ?_ hy2.out ?_); (exact rfl); (exact rfl); (exact rfl)) | ((with_reducible refine add_law (.tmp 33) (.tmp 37) (z1.P.n : Int) (z1.O.n : Int) x1 ?_ ?_ ?_ hx1.out ?_); (exact rfl); (exact rfl); (exact rfl)) | ((with_reducible refine add_law (.tmp 38) (.tmp 42) x1 (z1.I.n : Int) x2 ?_ ?_ ?_ hx2.out ?_); (exact rfl); (exact rfl); (exact rfl)))
  clear t1 t1' t2 t2' g1 g2 hy1 hy2 hx1 hx2
  clear t0 t0' a10 a11 a12 b10 b11 b12
  obtain ⟨qb, hqb⟩ := hbool (0 ≤ c0.e ∧ c0.e < c1.f)
  obtain ⟨qs, hqs⟩ := hbool (c0 = c1)
  have C16 : Hid (∀ u, Hid (Below X.heap.size X u) → Calls Try.prog 16 #[.agg (cc c0 z0), .agg (cc c1 z1)] u fun e u' => e = .returned (.bool qb) ∧ Hid (Below X.heap.size X u')) := fun u hu => (before16 c0 c1 z0 z1 qb u hqb).mono fun e u' h => ⟨h.1, hu.out.trans (h.2.mono hu.out.size)⟩
  have C17 : Hid (∀ u, Hid (Below X.heap.size X u) → Calls Try.prog 17 #[.agg (cc c0 z0), .agg (cc c1 z1)] u fun e u' => e = .returned (.bool qb) ∧ Hid (Below X.heap.size X u')) := fun u hu => (before17 c0 c1 z0 z1 qb u hqb).mono fun e u' h => ⟨h.1, hu.out.trans (h.2.mono hu.out.size)⟩
  have C18 : Hid (∀ u, Hid (Below X.heap.size X u) → Calls Try.prog 18 #[.agg (cc c0 z0), .agg (cc c1 z1)] u fun e u' => e = .returned (.bool qs) ∧ Hid (Below X.heap.size X u')) := fun u hu => (csame18 c0 c1 z0 z1 qs u (S0.out.step hu.out) (S1.out.step hu.out) M0.out M1.out hqs).mono fun e u' h => ⟨h.1, hu.out.trans (h.2.mono hu.out.size)⟩
  have C19 : Hid (∀ u, Hid (Below X.heap.size X u) → Calls Try.prog 19 #[.agg (cc c0 z0), .agg (cc c1 z1)] u fun e u' => e = .returned (.bool qs) ∧ Hid (Below X.heap.size X u')) := fun u hu => (csame19 c0 c1 z0 z1 qs u (S0.out.step hu.out) (S1.out.step hu.out) M0.out M1.out hqs).mono fun e u' h => ⟨h.1, hu.out.trans (h.2.mono hu.out.size)⟩
  have C20 : Hid (∀ u, Hid (Below X.heap.size X u) → Calls Try.prog 20 #[.slice A2 n2 cp2] u fun e u' => e = .returned (.int .i64 (pendN C2 : Nat)) ∧ Hid (Below X.heap.size X u')) := fun u hu => (pend20 ⟨A2, n2, cp2⟩ C2 u (SC.out.step hu.out) (by dsimp only; omega)).mono fun e u' h => ⟨h.1, hu.out.trans (h.2.mono hu.out.size)⟩
  have C21 : Hid (∀ u, Hid (Below X.heap.size X u) → Calls Try.prog 21 #[.slice A2 n2 cp2] u fun e u' => e = .returned (.int .i64 (pendN C2 : Nat)) ∧ Hid (Below X.heap.size X u')) := fun u hu => (pend21 ⟨A2, n2, cp2⟩ C2 u (SC.out.step hu.out) (by dsimp only; omega)).mono fun e u' h => ⟨h.1, hu.out.trans (h.2.mono hu.out.size)⟩
  have D0 := hide ((Below.refl X.heap.size X).drew)
  have HS : Hid (∀ u, Hid (Below X.heap.size X u) → (∀ i, u.cell? ⟨w.heap.size, i, none⟩ = (#[.int .i64 c0.t, .int .i64 c0.o.k, .int .i64 c0.o.a, .int .i64 c0.o.b, .int .i64 c0.o.q, .int .i64 c0.o.v, .int .i64 c0.f, .int .i64 c0.e, .int .i64 c0.r.er, .int .i64 c0.r.id, .slice z0.P.A z0.P.n z0.P.c, .slice z0.O.A z0.O.n z0.O.c, .slice z0.I.A z0.I.n z0.I.c] : Array Value)[i]?) ∧ (∀ i, u.cell? ⟨w.heap.size + 1, i, none⟩ = (#[.int .i64 c1.t, .int .i64 c1.o.k, .int .i64 c1.o.a, .int .i64 c1.o.b, .int .i64 c1.o.q, .int .i64 c1.o.v, .int .i64 c1.f, .int .i64 c1.e, .int .i64 c1.r.er, .int .i64 c1.r.id, .slice z1.P.A z1.P.n z1.P.c, .slice z1.O.A z1.O.n z1.O.c, .slice z1.I.A z1.I.n z1.I.c] : Array Value)[i]?) ∧ Hid (Below X.heap.size X u)) := fun u hu => ⟨fun i => (HA.out.step hu.out).cells i, fun i => (HB.out.step hu.out).cells i, hu⟩
  go_region_held3 (fun u => (∀ i, u.cell? ⟨w.heap.size, i, none⟩ = (#[.int .i64 c0.t, .int .i64 c0.o.k, .int .i64 c0.o.a, .int .i64 c0.o.b, .int .i64 c0.o.q, .int .i64 c0.o.v, .int .i64 c0.f, .int .i64 c0.e, .int .i64 c0.r.er, .int .i64 c0.r.id, .slice z0.P.A z0.P.n z0.P.c, .slice z0.O.A z0.O.n z0.O.c, .slice z0.I.A z0.I.n z0.I.c] : Array Value)[i]?) ∧ (∀ i, u.cell? ⟨w.heap.size + 1, i, none⟩ = (#[.int .i64 c1.t, .int .i64 c1.o.k, .int .i64 c1.o.a, .int .i64 c1.o.b, .int .i64 c1.o.q, .int .i64 c1.o.v, .int .i64 c1.f, .int .i64 c1.e, .int .i64 c1.r.er, .int .i64 c1.r.id, .slice z1.P.A z1.P.n z1.P.c, .slice z1.O.A z1.O.n z1.O.c, .slice z1.I.A z1.I.n z1.I.c] : Array Value)[i]?) ∧ Hid (Below X.heap.size X u)) (first | exact HS.out _ D0 | exact HS.out _ (by assumption)) (first | (go_at_call 16; refine (C16.out _ (by assumption)).mono ?_; rintro e v16 ⟨rfl, hb16⟩) | (go_at_call 17; refine (C17.out _ (by assumption)).mono ?_; rintro e v17 ⟨rfl, hb17⟩) | (go_at_call 18; refine (C18.out _ (by assumption)).mono ?_; rintro e v18 ⟨rfl, hb18⟩) | (go_at_call 19; refine (C19.out _ (by assumption)).mono ?_; rintro e v19 ⟨rfl, hb19⟩) | (go_at_call 20; refine (C20.out _ (by assumption)).mono ?_; rintro e v20 ⟨rfl, hb20⟩) | (go_at_call 21; refine (C21.out _ (by assumption)).mono ?_; rintro e v21 ⟨rfl, hb21⟩))
  all_goals go_wp2
  all_goals go_ret
  all_goals exact ⟨rfl, BW.out.trans (hb21.out.mono BW.out.size)⟩

set_option maxRecDepth 100000 in
theorem lifted (os : Os) (started : os.Started) (H : Type) (enc : TypeId × Value → H) :
    ReturnsInHanded {} Try.checked os 4 .any (Rows.histTellsSpec.pre6 enc Try.prog Try.f4 Rows.histTellsRow.domain false) (Rows.histTellsSpec.post enc Try.prog Try.f4 false true false false) := by
  refine returnsInHanded_of_change (C := Try.checked) own started (by kernel_rfl) Try.func4
    (ChangeSpec.witness6 (enc := enc) (C := Try.checked) false ⟨#[], #[.agg #[.int .i64 0, .int .i64 0, .int .i64 0, .int .i64 0, .int .i64 0, .int .i64 0, .int .i64 0, .int .i64 0, .int .i64 0, .int .i64 0, .slice none 0 0, .slice none 0 0, .slice none 0 0], .agg #[.int .i64 0, .int .i64 0, .int .i64 0, .int .i64 0, .int .i64 0, .int .i64 0, .int .i64 0, .int .i64 0, .int .i64 0, .int .i64 0, .slice none 0 0, .slice none 0 0, .slice none 0 0], .slice none 0 0], []⟩ 8 (by kernel_rfl) (by kernel_rfl) (by kernel_rfl) (by kernel_rfl)) ?_
  intro W base args ds gs before hval0 hW hcnd _
  have hval : ∀ (j : Nat) t v, Try.f4.params[j]? = some t → args[j]? = some v → Value.okWide Try.prog W .any base t v := hval0
  have hW' := hW
  obtain ⟨p, q, hA0, hV, rfl, hfz, hnd⟩ := hW
  have hA : DataW.TrodAll enc Try.prog W 0 (fun _ => true) true Try.f4.params.toList args.toList ds p := hA0
  rw [Try.params4] at hA hval
  obtain ⟨x0, vs0, d0, ds0, p0_, q0, hargs, rfl, rfl, h0, r0⟩ := trodAll_cons hA
  obtain ⟨x1, vs1, d1, ds1, p1_, q1, rfl, rfl, rfl, h1, r1⟩ := trodAll_cons r0
  obtain ⟨x2, vs2, d2, ds2, p2_, q2, rfl, rfl, rfl, h2, r2⟩ := trodAll_cons r1
  obtain ⟨rfl, rfl, rfl⟩ := trodAll_nil r2
  obtain rfl : args = #[x0, x1, x2] := by cases args; simp_all
  obtain ⟨rfl, rfl⟩ := trodVars_none hV
  have lt0 : ∀ x ∈ p0_, x.block < W.heap.size := by obtain ⟨m, hm⟩ := h0; exact DataW.trod_lt m _ _ _ hm
  have lt1 : ∀ x ∈ p1_, x.block < W.heap.size := by obtain ⟨m, hm⟩ := h1; exact DataW.trod_lt m _ _ _ hm
  have lt2 : ∀ x ∈ p2_, x.block < W.heap.size := by obtain ⟨m, hm⟩ := h2; exact DataW.trod_lt m _ _ _ hm
  obtain ⟨c0, z0, rfl, w0, u0⟩ := open_call (hval 0 39 x0 rfl rfl) h0
  obtain ⟨c1, z1, rfl, w1, u1⟩ := open_call (hval 1 39 x1 rfl rfl) h1
  obtain ⟨s2, C2, rfl, w2, m2, -, -⟩ := open_calls (hval 2 25 x2 rfl rfl) h2
  clear hA0 hval0
  refine (walk c0 z0 c1 z1 s2 C2 W w0 u0 w1 u1 w2 m2).mono fun e W' ⟨he, bel⟩ => ?_
  subst he
  exact ⟨_, rfl, _, _, _, [], _, [], hW', trodAll_mk1 (shut_bool Try.underlying4 _), (trodAll_cons_mk (Below.trod laidOut (by kernel_rfl) (of_decide_eq_true (by kernel_rfl)) h0 bel lt0) (trodAll_cons_mk (Below.trod laidOut (by kernel_rfl) (of_decide_eq_true (by kernel_rfl)) h1 bel lt1) (trodAll_cons_mk (Below.trod laidOut (by kernel_rfl) (of_decide_eq_true (by kernel_rfl)) h2 bel lt2) trodAll_mk0))), rfl, bel.frame _, fun h => by cases h⟩

theorem over : Rows.histTellsRow.holds Try.pinned (OpenSpec.ofChange Rows.histTellsSpec) :=
  OpenClaim.holds_of_wide 4 Try.f4 rfl rfl rfl rfl rfl rfl rfl ⟨rfl, rfl, rfl, rfl, rfl⟩ rfl rfl rfl rfl rfl (by kernel_rfl) Try.func4 (by kernel_rfl)
    (of_decide_eq_true (by kernel_rfl)) (by unfold Func.isWrapper; first | (rw [if_pos (by decide +kernel)]; kernel_rfl) | (rw [if_neg (by decide +kernel)]; exact ⟨rfl, rfl⟩))
    (fun os started H enc _ => lifted os started H enc)

end Go.Proofs.Ytfefkdedgceomaa.histTells

namespace Go.Proofs.Ytfefkdedgceomaa
/-- The statement. -/
theorem histTells_holds : Rows.HistTellsSaid := histTells.over
#print axioms histTells_holds
end Go.Proofs.Ytfefkdedgceomaa
