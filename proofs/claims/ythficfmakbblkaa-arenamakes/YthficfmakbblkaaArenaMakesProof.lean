/- For every configuration, every number of threads and everything that is shared: both News tell the same, and both Checks do, or it is too great to be gone through. (The statement tendrillaw07.ArenaMakes.) -/
import Derived.Test.YthficfmakbblkaaRows
import Derived.Test.YthficfmakbblkaaArC
import Derived.WalkKit
import Derived.Deep.DeepCutAuto
namespace Go.Proofs.Ythficfmakbblkaa.arenaMakes
open Go.Joins Go.ChangeShapes Go.WideShapes Go.ChangeAt Go.RowKit Go.Deep
open Pool (Pl PL MayBe noP noPl Drew Told4)
set_option linter.unusedVariables false

/-- The cells of a box, written out. -/
abbrev lit (s : Sh) : Array Value := #[.slice s.m.A s.m.n s.m.c, .slice s.l.A s.l.n s.l.c,
  .slice s.p0.A0 s.p0.n0 s.p0.c0, .slice s.p0.A1 s.p0.n1 s.p0.c1, .slice s.p0.A2 s.p0.n2 s.p0.c2, .slice s.p0.A3 s.p0.n3 s.p0.c3,
  .slice s.p1.A0 s.p1.n0 s.p1.c0, .slice s.p1.A1 s.p1.n1 s.p1.c1, .slice s.p1.A2 s.p1.n2 s.p1.c2, .slice s.p1.A3 s.p1.n3 s.p1.c3,
  .slice s.p2.A0 s.p2.n0 s.p2.c0, .slice s.p2.A1 s.p2.n1 s.p2.c1, .slice s.p2.A2 s.p2.n2 s.p2.c2, .slice s.p2.A3 s.p2.n3 s.p2.c3,
  .int .i64 s.t, .slice s.z.A s.z.n s.z.c]
theorem lit_cells {u : World} {g : Nat} {s : Sh} (h : SBox u g s) : ∀ i, u.cell? ⟨g, i, none⟩ = (lit s)[i]? := fun i => h.cells i
/-- The configuration's box, and the box of what is shared. -/
structure Cb (w u : World) (cs : Array Value) (s : Sh) (X : SL) : Prop where
  st : St w u (w.heap.size + 1) s X
  cf : u.heap[w.heap.size]? = some (.cells cs 23 (0, 0))
theorem Cb.first {w : World} {s : Sh} {X : SL} (S : Sees w s X) (cs : Array Value) : Cb w ((w.alloc (.cells cs 23)).alloc (.cells s.cs 31)) cs s X :=
  ⟨⟨((Below.refl _ _).alloc (Nat.le_refl _) _).alloc (by simp) _, by omega, heap_alloc2_new w _ _, (S.alloc _).alloc _, fun h => by have := S.lt h; omega⟩, heap_alloc2_old w _ _⟩
theorem Cb.lt {w u : World} {cs : Array Value} {s : Sh} {X : SL} (h : Cb w u cs s X) : w.heap.size < u.heap.size := (Array.getElem?_eq_some_iff.1 h.cf).1
theorem Cb.step {w u u' : World} {cs : Array Value} {s : Sh} {X : SL} (h : Cb w u cs s X) (b : Below u.heap.size u u') : Cb w u' cs s X := ⟨h.st.step b, (b.block _ h.lt).trans h.cf⟩
theorem Cb.side {w u u' : World} {cs : Array Value} {s : Sh} {X : SL} (h : Cb w u cs s X) (b : Below u.heap.size u u') (c : Array Value) : Cb w ((u'.alloc (.cells zeros16 31)).setRow u'.heap.size c) cs s X :=
  ⟨h.st.side b c, (setRow_other _ _ _ _ (by have := (h.step b).lt; omega)).trans ((Below.heap_alloc _ _ _ (h.step b).lt).trans (h.step b).cf)⟩
theorem Cb.cells {w u : World} {cs : Array Value} {s : Sh} {X : SL} (h : Cb w u cs s X) : ∀ i, u.cell? ⟨w.heap.size, i, none⟩ = cs[i]? := fun i => cell_of_row u _ i _ 23 (0, 0) h.cf
/-- .. and two more. -/
structure Fo (w u : World) (cs : Array Value) (s : Sh) (X : SL) (h j : Nat) (a b : Sh) (Y : SL) : Prop where
  cb : Cb w u cs s X
  a : St w u h a Y
  b : St w u j b Y
theorem Fo.step {w u u' : World} {cs : Array Value} {s : Sh} {X : SL} {h j : Nat} {a b : Sh} {Y : SL} (x : Fo w u cs s X h j a b Y) (k : Below u.heap.size u u') : Fo w u' cs s X h j a b Y := ⟨x.cb.step k, x.a.step k, x.b.step k⟩

set_option maxRecDepth 100000 in
set_option maxHeartbeats 8000000 in
theorem walk (n0 e0 p0 i0 j0 : Int) (a1 : Int) (s2 : Sh) (X2 : SL) (w : World) (w1 : (Lit.int .i64 a1).wf = true) (w2 : Sees w s2 X2) (f2 : (Lit.int .i64 s2.t).wf = true) :
    Calls Try.prog 3 #[.agg #[.int .i64 n0, .int .i64 e0, .int .i64 p0, .int .i64 i0, .int .i64 j0], .int .i64 a1, s2.val] w (Drew (.bool true) w) := by
  have T0 := hide (Cb.first w2 #[.int .i64 n0, .int .i64 e0, .int .i64 p0, .int .i64 i0, .int .i64 j0])
  clear w2 f2 w1
  obtain ⟨b, HB⟩ := bool7 (OkS X2)
  obtain ⟨f, HFW⟩ := bool7 (FewV s2)
  go_enter Try.func3, Try.ntmps3
  go_wp2_with fail
  refine (live_yes _).mono ?_
  rintro e u1 ⟨rfl, b1⟩
  have T1 := hide (T0.out.step b1)
  clear b1 T0
  go_wp2_with (first | ((with_reducible refine ld31 (.tmp 5) (w.heap.size + 1) ?_ s2 ?_ ?_); (exact rfl); (exact T1.out.st.box)))
  refine (few_any s2 f _ HFW).mono ?_
  rintro e u2 ⟨rfl, b2⟩
  have T2 := hide (T1.out.step b2)
  clear b2 T1
  cases f with
  | false =>
    go_wp2
    go_ret
    exact ⟨rfl, T2.out.st.bel⟩
  | true =>
    have HF := hide (few_of T2.out.st.sees (HFW.out.1 rfl))
    have hc := T2.out.cells
    have hl := T2.out.lt
    clear HFW
    go_wp2_with fail
    refine (new_any n0 e0 p0 i0 j0 a1 _).mono ?_
    rintro e u3 ⟨r3, rfl, S3, K3, b3⟩
    have T3 := hide (T2.out.side b3 r3.cs)
    have Q3 := hide (St.first (Pool.next_call T2.out.st.bel (Nat.le_refl _) b3) S3)
    clear S3 K3 b3 T2 hc hl
    have hc := T3.out.cells
    have hl := T3.out.lt
    go_wp2_with (first | ((with_reducible refine st31 (.tmp 7) (.tmp 20) u3.heap.size ?_ r3 ?_ noSh ?_ ?_); (exact rfl); (exact rfl); (exact heap_alloc_new _ _)))
    refine (rnew_any n0 e0 p0 i0 j0 a1 _).mono ?_
    rintro e u4 ⟨r4, rfl, S4, K4, b4⟩
    have T4 := hide (T3.out.side b4 r4.cs)
    have Q4 := hide (St.first (Pool.next_call T3.out.st.bel (Nat.le_refl _) b4) S4)
    replace Q3 := hide (Q3.out.side b4 r4.cs)
    clear S4 K4 b4 T3 hc hl
    generalize hNX : nwX n0 e0 p0 i0 j0 a1 = NX at Q3 Q4
    have FN : Hid (Few NX) := by show Few _; rw [← hNX]; exact few_nw _ _ _ _ _ _
    generalize nwE n0 e0 p0 i0 j0 a1 = ne
    clear hNX
    go_wp2_with (first | ((with_reducible refine st31 (.tmp 9) (.tmp 26) u4.heap.size ?_ r4 ?_ noSh ?_ ?_); (exact rfl); (exact rfl); (exact heap_alloc_new _ _)))
    obtain ⟨V, hV⟩ : ∃ V, Hid ((u4.alloc (.cells zeros16 31)).setRow u4.heap.size r4.cs = V) := ⟨_, rfl⟩
    obtain ⟨h, hh⟩ : ∃ h, Hid (u3.heap.size = h) := ⟨_, rfl⟩
    obtain ⟨j, hj⟩ : ∃ j, Hid (u4.heap.size = j) := ⟨_, rfl⟩
    have hV' : (u4.alloc (.cells zeros16 31)).setRow u4.heap.size r4.cs = V := hV.out
    have F0 : Hid (Fo w V #[.int .i64 n0, .int .i64 e0, .int .i64 p0, .int .i64 i0, .int .i64 j0] s2 X2 h j r3 r4 NX) := by
      show Fo _ _ _ _ _ _ _ _ _ _
      rw [← hh.out, ← hj.out, ← hV']
      exact ⟨T4.out, Q3.out, Q4.out⟩
    rw [hV', hh.out, hj.out]
    clear hV' hV hh hj T4 Q3 Q4
    have g1 : (ne == ne) = true := by simp
    have g2 : (chk b == chk b) = true := by simp
    have HS1 : Hid (∀ u, Hid (Fo w u #[.int .i64 n0, .int .i64 e0, .int .i64 p0, .int .i64 i0, .int .i64 j0] s2 X2 h j r3 r4 NX) → Calls Try.prog 13 #[r3.val, r4.val] u (Drew (.bool true) u)) := fun u hu => same_yes r3 r4 NX u hu.out.a.sees hu.out.b.sees FN.out
    have HS2 : Hid (∀ u, Hid (Fo w u #[.int .i64 n0, .int .i64 e0, .int .i64 p0, .int .i64 i0, .int .i64 j0] s2 X2 h j r3 r4 NX) → Calls Try.prog 14 #[s2.val] u (Drew (.int .i64 (chk b)) u)) := fun u hu => check_any s2 X2 b u hu.out.cb.st.sees HF.out HB
    have HS3 : Hid (∀ u, Hid (Fo w u #[.int .i64 n0, .int .i64 e0, .int .i64 p0, .int .i64 i0, .int .i64 j0] s2 X2 h j r3 r4 NX) → Calls Try.prog 15 #[s2.val] u (Drew (.int .i64 (chk b)) u)) := fun u hu => rcheck_any s2 X2 b u hu.out.cb.st.sees HF.out HB
    have hN : Hid (∀ u, Hid (Fo w u #[.int .i64 n0, .int .i64 e0, .int .i64 p0, .int .i64 i0, .int .i64 j0] s2 X2 h j r3 r4 NX) → ((∀ i, u.cell? ⟨h, i, none⟩ = (lit r3)[i]?) ∧ (∀ i, u.cell? ⟨j, i, none⟩ = (lit r4)[i]?) ∧ (∀ i, u.cell? ⟨w.heap.size + 1, i, none⟩ = (lit s2)[i]?) ∧ Hid (Fo w u #[.int .i64 n0, .int .i64 e0, .int .i64 p0, .int .i64 i0, .int .i64 j0] s2 X2 h j r3 r4 NX))) := fun u hu => ⟨lit_cells hu.out.a.box, lit_cells hu.out.b.box, lit_cells hu.out.cb.st.box, hu⟩
    have D0 : Hid (Fo w V.drew #[.int .i64 n0, .int .i64 e0, .int .i64 p0, .int .i64 i0, .int .i64 j0] s2 X2 h j r3 r4 NX) := F0.out.step (Below.refl _ _).drew
    go_region_held3 (fun u => (∀ i, u.cell? ⟨h, i, none⟩ = (lit r3)[i]?) ∧ (∀ i, u.cell? ⟨j, i, none⟩ = (lit r4)[i]?) ∧ (∀ i, u.cell? ⟨w.heap.size + 1, i, none⟩ = (lit s2)[i]?) ∧ Hid (Fo w u #[.int .i64 n0, .int .i64 e0, .int .i64 p0, .int .i64 i0, .int .i64 j0] s2 X2 h j r3 r4 NX))
      (first | exact hN.out _ D0 | exact hN.out _ (by assumption))
      (first | (go_at_call 13; refine (HS1.out _ ?_).mono ?_; (exact (by assumption)); rintro e v1 ⟨rfl, hv1⟩; have F1 := hide (Fo.step (Hid.out (by assumption)) hv1)) | (go_at_call 14; refine (HS2.out _ ?_).mono ?_; (exact (by assumption)); rintro e v2 ⟨rfl, hv2⟩; have F2 := hide (Fo.step (Hid.out (by assumption)) hv2)) | (go_at_call 15; refine (HS3.out _ ?_).mono ?_; (exact (by assumption)); rintro e v3 ⟨rfl, hv3⟩; have F3 := hide (Fo.step (Hid.out (by assumption)) hv3)))
    all_goals
      clear hN HS1 HS2 HS3 D0
      go_wp2
      go_ret
      exact ⟨rfl, Pool.Below.drewN F3.out.cb.st.bel 0⟩

set_option maxRecDepth 100000 in
theorem lifted (os : Os) (started : os.Started) (H : Type) (enc : TypeId × Value → H) :
    ReturnsInHanded {} Try.checked os 3 .any (Rows.arenaMakesSpec.pre6 enc Try.prog Try.f3 Rows.arenaMakesRow.domain false) (Rows.arenaMakesSpec.post enc Try.prog Try.f3 false true false false) := by
  refine returnsInHanded_of_change (C := Try.checked) own started (by kernel_rfl) Try.func3
    (ChangeSpec.witness6 (enc := enc) (C := Try.checked) false ⟨#[], #[.agg #[.int .i64 0, .int .i64 0, .int .i64 0, .int .i64 0, .int .i64 0], .int .i64 0, .agg #[.slice none 0 0, .slice none 0 0, .slice none 0 0, .slice none 0 0, .slice none 0 0, .slice none 0 0, .slice none 0 0, .slice none 0 0, .slice none 0 0, .slice none 0 0, .slice none 0 0, .slice none 0 0, .slice none 0 0, .slice none 0 0, .int .i64 0, .slice none 0 0]], []⟩ 8 (by kernel_rfl) (by kernel_rfl) (by kernel_rfl) (by kernel_rfl)) ?_
  intro W base args ds gs before hval0 hW hcnd _
  have hval : ∀ (j : Nat) t v, Try.f3.params[j]? = some t → args[j]? = some v → Value.okWide Try.prog W .any base t v := hval0
  have hW' := hW
  obtain ⟨p, q, hA0, hV, rfl, hfz, hnd⟩ := hW
  have hA : DataW.TrodAll enc Try.prog W 0 (fun _ => true) true Try.f3.params.toList args.toList ds p := hA0
  rw [Try.params3] at hA hval
  obtain ⟨x0, vs0, d0, ds0, p0_, q0, hargs, rfl, rfl, h0, r0⟩ := trodAll_cons hA
  obtain ⟨x1, vs1, d1, ds1, p1_, q1, rfl, rfl, rfl, h1, r1⟩ := trodAll_cons r0
  obtain ⟨x2, vs2, d2, ds2, p2_, q2, rfl, rfl, rfl, h2, r2⟩ := trodAll_cons r1
  obtain ⟨rfl, rfl, rfl⟩ := trodAll_nil r2
  obtain rfl : args = #[x0, x1, x2] := by cases args; simp_all
  obtain ⟨rfl, rfl⟩ := trodVars_none hV
  have lt0 : ∀ x ∈ p0_, x.block < W.heap.size := by obtain ⟨m, hm⟩ := h0; exact DataW.trod_lt m _ _ _ hm
  have lt2 : ∀ x ∈ p2_, x.block < W.heap.size := by obtain ⟨m, hm⟩ := h2; exact DataW.trod_lt m _ _ _ hm
  obtain ⟨n0, e0, p0, i0, j0, rfl⟩ := open_cfg (hval 0 23 x0 rfl rfl) h0
  obtain ⟨a1, rfl, rfl, rfl, w1⟩ := open_int Try.underlying3 (hval 1 3 x1 rfl rfl) h1
  obtain ⟨s2, X2, rfl, w2, f2⟩ := open_shared (hval 2 31 x2 rfl rfl) h2
  clear hA0 hval0
  refine (walk n0 e0 p0 i0 j0 a1 s2 X2 W w1 w2 f2).mono fun e W' ⟨he, bel⟩ => ?_
  subst he
  exact ⟨_, rfl, _, _, _, [], _, [], hW', trodAll_mk1 (shut_bool Try.underlying4 _), (trodAll_cons_mk (Below.trod laidOut (by kernel_rfl) (of_decide_eq_true (by kernel_rfl)) h0 bel lt0) (trodAll_cons_mk (shut_int Try.underlying3 w1) (trodAll_cons_mk (Below.trod laidOut (by kernel_rfl) (of_decide_eq_true (by kernel_rfl)) h2 bel lt2) trodAll_mk0))), rfl, bel.frame _, fun h => by cases h⟩

theorem over : Rows.arenaMakesRow.holds Try.pinned (OpenSpec.ofChange Rows.arenaMakesSpec) :=
  OpenClaim.holds_of_wide 3 Try.f3 rfl rfl rfl rfl rfl rfl rfl ⟨rfl, rfl, rfl, rfl, rfl⟩ rfl rfl rfl rfl rfl (by kernel_rfl) Try.func3 (by kernel_rfl)
    (of_decide_eq_true (by kernel_rfl)) (by unfold Func.isWrapper; first | (rw [if_pos (by decide +kernel)]; kernel_rfl) | (rw [if_neg (by decide +kernel)]; exact ⟨rfl, rfl⟩))
    (fun os started H enc _ => lifted os started H enc)

end Go.Proofs.Ythficfmakbblkaa.arenaMakes

namespace Go.Proofs.Ythficfmakbblkaa
/-- The statement. -/
theorem arenaMakes_holds : Rows.ArenaMakesSaid := arenaMakes.over
#print axioms arenaMakes_holds
end Go.Proofs.Ythficfmakbblkaa
