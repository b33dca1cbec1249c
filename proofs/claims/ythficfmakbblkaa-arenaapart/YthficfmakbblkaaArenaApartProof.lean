/- x (The statement tendrillaw07.ArenaApart.) -/
import Derived.Test.YthficfmakbblkaaRows
import Derived.Test.YthficfmakbblkaaArC
import Derived.WalkKit
import Derived.Deep.DeepCutAuto
namespace Go.Proofs.Ythficfmakbblkaa.arenaApart
open Go.Joins Go.ChangeShapes Go.WideShapes Go.ChangeAt Go.RowKit Go.Deep
open Pool (Pl PL MayBe noP noPl Drew Told4)
set_option linter.unusedVariables false

/-- One of two. -/
def sel {α : Type} (k : Nat) (a b : α) : α := match k with
  | 0 => a
  | _ => b
theorem sel_cells {r s : Sh} {u : World} {g : Nat} (h : u.heap[g]? = some (.cells (r.cs ++ s.cs) 31 (0, 0))) {k : Nat} (hk : k < 2) : ∀ j v, (sel k r s).cs.toList[j]? = some v → u.cell? ⟨g, k * 16 + j, none⟩ = some v := by
  intro j v hv
  rw [cell_of_row u g _ _ 31 (0, 0) h]
  have hj : j < 16 := by
    have := (List.getElem?_eq_some_iff.1 hv).1
    simpa [cs_size] using this
  match k, hk with
  | 0, _ =>
    rw [Nat.zero_mul, Nat.zero_add, Array.getElem?_append_left (by rw [cs_size]; exact hj)]
    simpa [sel] using hv
  | 1, _ =>
    rw [Array.getElem?_append_right (by rw [cs_size]; omega), cs_size, show 1 * 16 + j - 16 = j by omega]
    simpa [sel] using hv
theorem sel_int (a b : Int) {k : Nat} (hk : k < 2) : (#[.int .i64 a, .int .i64 b] : Array Value)[k]? = some (.int .i64 (sel k a b)) := by
  match k, hk with
  | 0, _ => rfl
  | 1, _ => rfl
theorem sel_list (a b : Int) {k : Nat} (hk : k < 2) : ∀ h, ([.int .i64 a, .int .i64 b] : List Value)[k]'h = .int .i64 (sel k a b) := by
  intro h
  match k, hk with
  | 0, _ => rfl
  | 1, _ => rfl
structure Ap (w u : World) (g : Nat) (s : Sh) (X : SL) (r3 : Sh) (Y3 : SL) (r4 : Sh) (Y4 : SL) : Prop where
  st : St w u w.heap.size s X
  was : Sees w s X
  sl : u.heap[g]? = some (.cells (r3.cs ++ r4.cs) 31 (0, 0))
  s3 : Sees u r3 Y3
  s4 : Sees u r4 Y4
section
variable {w u u' : World} {g h c : Nat} {s r3 r4 x : Sh} {X Y3 Y4 Y : SL} {Q : PL}
theorem Ap.lt (A : Ap w u g s X r3 Y3 r4 Y4) : g < u.heap.size := (Array.getElem?_eq_some_iff.1 A.sl).1
theorem Ap.step (A : Ap w u g s X r3 Y3 r4 Y4) (b : Below u.heap.size u u') : Ap w u' g s X r3 Y3 r4 Y4 := ⟨A.st.step b, A.was, (b.block _ A.lt).trans A.sl, A.s3.step b, A.s4.step b⟩
theorem Ap.alloc (A : Ap w u g s X r3 Y3 r4 Y4) (o : Obj) : Ap w (u.alloc o) g s X r3 Y3 r4 Y4 := A.step ((Below.refl _ _).alloc (Nat.le_refl _) _)
theorem Ap.side (A : Ap w u g s X r3 Y3 r4 Y4) (cs : Array Value) : Ap w ((u.alloc (.cells zeros16 31)).setRow u.heap.size cs) g s X r3 Y3 r4 Y4 :=
  ⟨A.st.side (Below.refl _ _) cs, A.was, (setRow_other _ _ _ _ (by have := A.lt; omega)).trans ((Below.heap_alloc _ _ _ A.lt).trans A.sl), (A.s3.alloc _).row (fun hb => by have := A.s3.lt hb; omega) _, (A.s4.alloc _).row (fun hb => by have := A.s4.lt hb; omega) _⟩
theorem Ap.sel {k : Nat} (A : Ap w u g s X r3 Y3 r4 Y4) : Sees u (sel k r3 r4) (sel k Y3 Y4) := by
  unfold arenaApart.sel
  split
  · exact A.s3
  · exact A.s4
/-- Both. -/
structure Bx (w u : World) (g : Nat) (s : Sh) (X : SL) (r3 : Sh) (Y3 : SL) (r4 : Sh) (Y4 : SL) (h : Nat) (x : Sh) (Y : SL) : Prop where
  ap : Ap w u g s X r3 Y3 r4 Y4
  xs : St w u h x Y
  ne : h ≠ g
  n3 : ¬ r3.Has h
  n4 : ¬ r4.Has h
  nw : h ≠ w.heap.size
theorem Bx.step (B : Bx w u g s X r3 Y3 r4 Y4 h x Y) (b : Below u.heap.size u u') : Bx w u' g s X r3 Y3 r4 Y4 h x Y := ⟨B.ap.step b, B.xs.step b, B.ne, B.n3, B.n4, B.nw⟩
theorem Bx.first {k : Nat} (A : Ap w u g s X r3 Y3 r4 Y4) : Bx w ((u.alloc (.cells zeros16 31)).setRow u.heap.size (arenaApart.sel k r3 r4).cs) g s X r3 Y3 r4 Y4 u.heap.size (arenaApart.sel k r3 r4) (arenaApart.sel k Y3 Y4) :=
  ⟨A.side _, St.first A.st.bel A.sel, by have := A.lt; omega, fun hb => by have := A.s3.lt hb; omega, fun hb => by have := A.s4.lt hb; omega, by have := A.st.box.lt; omega⟩
/-- The pools of what was handed in are laid into the copy. -/
theorem Bx.back (B : Bx w u g s X r3 Y3 r4 Y4 h x (X.setPl c Q)) : Bx w (u.setRow h (x.setPs s).cs) g s X r3 Y3 r4 Y4 h (x.setPs s) X := by
  have hs : ∀ b, s.Has b → b < w.heap.size := fun b hb => B.ap.was.lt hb
  have hge := B.xs.ge
  have hns : ¬ s.Has h := fun hb => by have := hs h hb; omega
  have hnx : ¬ (x.setPs s).Has h := fun hb => by
    rcases hb with hb | hb | hb | ⟨k, hk, hb⟩
    · exact B.xs.off (.inl hb)
    · exact B.xs.off (.inr (.inl hb))
    · exact B.xs.off (.inr (.inr (.inl hb)))
    · have e : (x.setPs s).pl k = s.pl k := by match k, hk with | 0, _ | 1, _ | 2, _ => rfl
      rw [e] at hb
      exact hns (.inr (.inr (.inr ⟨k, hk, hb⟩)))
  obtain ⟨e1, e2, e3, e4⟩ := setPL_rest X c Q
  have S := B.xs.sees
  have S' : Sees u (x.setPs s) X := ⟨by have := S.m; rw [e1] at this; exact this, by have := S.l; rw [e2] at this; exact this, fun k hk => by
    have e : (x.setPs s).pl k = s.pl k := by match k, hk with | 0, _ | 1, _ | 2, _ => rfl
    rw [e]
    exact B.ap.st.sees.p k hk, by have := S.t; rw [e3] at this; exact this, by have := S.z; rw [e4] at this; exact this⟩
  have hwne : w.heap.size ≠ h := B.nw.symm
  exact ⟨⟨B.ap.st.row hge hwne hns _, B.ap.was, (setRow_other _ _ _ _ B.ne.symm).trans B.ap.sl, B.ap.s3.row B.n3 _, B.ap.s4.row B.n4 _⟩, ⟨below_setRow B.xs.bel hge _, hge, B.xs.box.put _, S'.row hnx _, hnx⟩, B.ne, B.n3, B.n4, B.nw⟩
end
theorem bx_drewN {w u : World} {g h : Nat} {s r3 r4 x : Sh} {X Y3 Y4 Y : SL} (B : Bx w u g s X r3 Y3 r4 Y4 h x Y) (n : Nat) : Bx w (u.drewN n) g s X r3 Y3 r4 Y4 h x Y := B.step (Pool.Below.drewN (Below.refl _ _) n)
/-- Where no error is told, one pool alone is another one. -/
theorem tk_form {b : Bool} {X : SL} {which : Int} (h : tkE b X which = 0) : ∃ (c : Nat) (Q : PL), c < 3 ∧ which = (c : Int) + 1 ∧ tkX b X which = X.setPl c Q := by
  rcases kind_cases b which with x | ⟨_, _, k, hk, hw, hat⟩
  · unfold tkE at h; rw [x] at h; cases h
  · exact ⟨k, _, hk, hw, by unfold tkX; rw [if_pos h, hat]⟩
theorem rt_form {b : Bool} {X : SL} {which r : Int} (h : rtE b X which r = 0) : ∃ (c : Nat) (Q : PL), c < 3 ∧ which = (c : Int) + 1 ∧ rtX b X which r = X.setPl c Q := by
  rcases kind_cases b which with x | ⟨_, _, k, hk, hw, hat⟩
  · unfold rtE at h; rw [x] at h; cases h
  · exact ⟨k, _, hk, hw, by unfold rtX; rw [if_pos h, hat]⟩
theorem sel_form {b : Bool} {X : SL} {which r : Int} {k : Nat} (hk : k < 2) (h : sel k (tkE b X which) (rtE b X which r) = 0) : ∃ (c : Nat) (Q : PL), c < 3 ∧ which = (c : Int) + 1 ∧ sel k (tkX b X which) (rtX b X which r) = X.setPl c Q := by
  match k, hk with
  | 0, _ => exact tk_form h
  | 1, _ => exact rt_form h
theorem wrap_c {c : Nat} (hc : c < 3) : IntKind.i64.wrap (c : Int) = (c : Int) := by rw [IntKind.wrap_i64]; omega

set_option maxRecDepth 100000 in
set_option maxHeartbeats 8000000 in
theorem walk (s0 : Sh) (X0 : SL) (a1 : Int) (a2 : Int) (w : World) (w0 : Sees w s0 X0) (f0 : (Lit.int .i64 s0.t).wf = true) (w1 : (Lit.int .i64 a1).wf = true) (w2 : (Lit.int .i64 a2).wf = true) :
    Calls Try.prog 8 #[s0.val, .int .i64 a1, .int .i64 a2] w (Drew (.bool true) w) := by
  have T0 := hide (St.arg w0)
  have HW := hide w0
  clear w0 f0 w1 w2
  obtain ⟨b, HB⟩ := bool7 (OkS X0)
  obtain ⟨f, HFW⟩ := bool7 (FewV s0)
  go_enter Try.func8, Try.ntmps8
  go_wp2_with fail
  refine (live_yes _).mono ?_
  rintro e u1 ⟨rfl, b1⟩
  have T1 := hide (T0.out.step b1)
  clear b1 T0
  go_wp2_with (first | ((with_reducible refine ld31 (.tmp 3) w.heap.size ?_ s0 ?_ ?_); (exact rfl); (exact T1.out.box)))
  refine (few_any s0 f _ HFW).mono ?_
  rintro e u2 ⟨rfl, b2⟩
  have T2 := hide (T1.out.step b2)
  clear b2 T1
  cases f with
  | false =>
    go_wp2
    go_ret
    exact ⟨rfl, T2.out.bel⟩
  | true =>
    have HF := hide (few_of T2.out.sees (HFW.out.1 rfl))
    clear HFW
    go_wp2_with (first | ((with_reducible refine ld31 (.tmp 3) w.heap.size ?_ s0 ?_ ?_); (exact rfl); (exact T2.out.box)))
    refine (take_any s0 X0 b a1 _ T2.out.sees HF.out HB).mono ?_
    rintro e u3 ⟨r3, rfl, S3, K3, b3⟩
    have T3 := hide (T2.out.side b3 r3.cs)
    have Q3 := hide (St.first (Pool.next_call T2.out.bel (Nat.le_refl _) b3) S3)
    clear S3 K3 b3 T2
    go_wp2_with (first | ((with_reducible refine st31 (.tmp 7) (.tmp 24) u3.heap.size ?_ r3 ?_ noSh ?_ ?_); (exact rfl); (exact rfl); (exact heap_alloc_new _ _)) | ((with_reducible refine ld31 (.tmp 3) w.heap.size ?_ s0 ?_ ?_); (exact rfl); (exact T3.out.box)))
    refine (retire_any s0 X0 b a1 a2 _ T3.out.sees HF.out HB).mono ?_
    rintro e u4 ⟨r4, rfl, S4, K4, b4⟩
    have T4 := hide (T3.out.side b4 r4.cs)
    have Q4 := hide (St.first (Pool.next_call T3.out.bel (Nat.le_refl _) b4) S4)
    replace Q3 := hide (Q3.out.side b4 r4.cs)
    clear S4 K4 b4 T3
    have HFORM : Hid (∀ k, k < 2 → sel k (tkE b X0 a1) (rtE b X0 a1 a2) = 0 → ∃ (c : Nat) (Q : PL), c < 3 ∧ a1 = (c : Int) + 1 ∧ sel k (tkX b X0 a1) (rtX b X0 a1 a2) = X0.setPl c Q) := fun k hk h => sel_form hk h
    have HFEW : Hid (Few X0) := HF.out
    generalize tkX b X0 a1 = Y3 at Q3 HFORM
    generalize rtX b X0 a1 a2 = Y4 at Q4 HFORM
    generalize tkE b X0 a1 = x3 at HFORM ⊢
    generalize rtE b X0 a1 a2 = x4 at HFORM ⊢
    have A0 : Hid (Ap w (((u4.alloc (.cells zeros16 31)).setRow u4.heap.size r4.cs).alloc (.cells (r3.cs ++ r4.cs) 31)) (u4.heap.size + 1) s0 X0 r3 Y3 r4 Y4) :=
      ⟨T4.out.alloc _, HW.out, by have h := heap_alloc_new ((u4.alloc (.cells zeros16 31)).setRow u4.heap.size r4.cs) (.cells (r3.cs ++ r4.cs) 31); have e : ((u4.alloc (.cells zeros16 31)).setRow u4.heap.size r4.cs).heap.size = u4.heap.size + 1 := (by simp); rw [e] at h; exact h, Q3.out.sees.alloc _, Q4.out.sees.alloc _⟩
    go_wp2_with (first | ((with_reducible refine st31 (.tmp 10) (.tmp 32) u4.heap.size ?_ r4 ?_ noSh ?_ ?_); (exact rfl); (exact rfl); (exact heap_alloc_new _ _)) | ((with_reducible refine ld31 (.tmp 7) u3.heap.size ?_ r3 ?_ ?_); (exact rfl); (exact Q3.out.box)) | ((with_reducible refine ld31 (.tmp 10) u4.heap.size ?_ r4 ?_ ?_); (exact rfl); (exact Q4.out.box)) | ((with_reducible refine bs58 (.tmp 34) (.tmp 35) r3 r4 ?_ ?_ ?_); (exact rfl); (exact rfl)))
    generalize u4.heap.size + 1 = g at A0 ⊢
    clear T4 Q3 Q4
    go_loopw [38] (fun i wr => ∃ k : Nat, k ≤ 2 ∧ i = .int .i64 k ∧ Hid (Ap w wr g s0 X0 r3 Y3 r4 Y4)) (fun i _ => 2 - (intOf i).toNat)
    case atStart => exact ⟨0, by omega, rfl, A0⟩
    case round =>
      obtain ⟨k, hk, rfl, AR⟩ := hrel
      clear A0
      by_cases hlt : k < 2
      · have hi0 : (0 : Int) ≤ (k : Int) := by omega
        have hi1 : (k : Int) < 2 := by omega
        have HSL : Hid (∀ j v, (sel k r3 r4).cs.toList[j]? = some v → wr.cell? ⟨g, k * 16 + j, none⟩ = some v) := sel_cells AR.out.sl hlt
        have hsi := sel_list x3 x4 hlt
        have BF := hide (Bx.first (k := k) AR.out)
        have hgl := AR.out.lt
        have HFK := hide (HFORM.out k hlt)
        generalize sel k x3 x4 = ek at hsi HFK
        generalize sel k r3 r4 = x at HSL BF
        generalize sel k Y3 Y4 = Y at BF HFK
        by_cases he : ek = 0
        · subst he
          obtain ⟨c, Q, hc3, hc1, hcY⟩ := HFK.out rfl
          subst hc1
          rw [hcY] at BF
          clear hcY HFK
          have BL := hide (BF.out.step ((Below.refl _ _).alloc (Nat.le_refl _) (.cells #[.int .i64 x3, .int .i64 x4] 34)))
          go_wp2_with (first | ((with_reducible refine ld31at (.tmp 41) g k ?_ x ?_ ?_); (exact rfl); (exact HSL.out)) | ((with_reducible refine st31 (.tmp 13) (.tmp 42) wr.heap.size ?_ x ?_ noSh ?_ ?_); (exact rfl); (exact rfl); (exact heap_alloc_new _ _)))
          clear BF HSL hsi
          generalize wr.heap.size = h at BL ⊢
          go_loopw [50] (fun i wx => ∃ m : Nat, m ≤ 3 ∧ i = .int .i64 m ∧ Hid (Bx w wx g s0 X0 r3 Y3 r4 Y4 h x (X0.setPl c Q))) (fun i _ => 3 - (intOf i).toNat)
          case atStart => exact ⟨0, by omega, rfl, BL⟩
          case round =>
            obtain ⟨m, hm, rfl, BM⟩ := hrel
            clear BL
            by_cases hm3 : m < 3
            · have hm0 : (0 : Int) ≤ (m : Int) := by omega
              have hm1 : (m : Int) < 3 := by omega
              have hwc := wrap_c hc3
              have BD := hide (BM.out.step (Below.refl _ _).drew)
              by_cases hmc : m = c
              · have hcm : ((m : Int) != (c : Int)) = false := by simp [hmc]
                go_wp2_with fail
                go_quiet (fail)
                go_wp2
                go_roundw
                case rel => exact ⟨m + 1, by omega, by go_num, bx_drewN BM.out _⟩
                case measure => simp [intOf]; omega
              · have hcm : ((m : Int) != (c : Int)) = true := by simp; omega
                have hN : Hid (∀ u, Hid (Bx w u g s0 X0 r3 Y3 r4 Y4 h x (X0.setPl c Q)) → (u.cell? ⟨h, 2 + m * 4, none⟩ = some (.slice (x.pl m).A0 (x.pl m).n0 (x.pl m).c0) ∧ u.cell? ⟨h, 2 + m * 4 + 1, none⟩ = some (.slice (x.pl m).A1 (x.pl m).n1 (x.pl m).c1) ∧ u.cell? ⟨h, 2 + m * 4 + 2, none⟩ = some (.slice (x.pl m).A2 (x.pl m).n2 (x.pl m).c2) ∧ u.cell? ⟨h, 2 + m * 4 + 3, none⟩ = some (.slice (x.pl m).A3 (x.pl m).n3 (x.pl m).c3) ∧ u.cell? ⟨w.heap.size, 2 + m * 4, none⟩ = some (.slice (s0.pl m).A0 (s0.pl m).n0 (s0.pl m).c0) ∧ u.cell? ⟨w.heap.size, 2 + m * 4 + 1, none⟩ = some (.slice (s0.pl m).A1 (s0.pl m).n1 (s0.pl m).c1) ∧ u.cell? ⟨w.heap.size, 2 + m * 4 + 2, none⟩ = some (.slice (s0.pl m).A2 (s0.pl m).n2 (s0.pl m).c2) ∧ u.cell? ⟨w.heap.size, 2 + m * 4 + 3, none⟩ = some (.slice (s0.pl m).A3 (s0.pl m).n3 (s0.pl m).c3) ∧ Hid (Bx w u g s0 X0 r3 Y3 r4 Y4 h x (X0.setPl c Q)))) := fun u hu => by
                  obtain ⟨p0, p1, p2, p3⟩ := hu.out.xs.box.pool hm3
                  obtain ⟨q0, q1, q2, q3⟩ := hu.out.ap.st.box.pool hm3
                  exact ⟨p0, p1, p2, p3, q0, q1, q2, q3, hu⟩
                have CP : Hid (∀ u, Hid (Bx w u g s0 X0 r3 Y3 r4 Y4 h x (X0.setPl c Q)) → Calls Try.prog 30 #[(x.pl m).val, (s0.pl m).val] u (Drew (.bool true) u)) := fun u hu => by
                  have r1 := hu.out.xs.sees.p m hm3
                  rw [setPL_pl X0 hc3 hm3, if_neg hmc] at r1
                  exact Pool.samep_yes (x.pl m) (s0.pl m) (X0.pl m) _ _ u r1 (hu.out.ap.st.sees.p m hm3) (Nat.le_refl _) (Nat.le_refl _) (small_of r1 (HFEW.out.p m hm3))
                go_wp2_with fail
                go_region_held3 (fun u => u.cell? ⟨h, 2 + m * 4, none⟩ = some (.slice (x.pl m).A0 (x.pl m).n0 (x.pl m).c0) ∧ u.cell? ⟨h, 2 + m * 4 + 1, none⟩ = some (.slice (x.pl m).A1 (x.pl m).n1 (x.pl m).c1) ∧ u.cell? ⟨h, 2 + m * 4 + 2, none⟩ = some (.slice (x.pl m).A2 (x.pl m).n2 (x.pl m).c2) ∧ u.cell? ⟨h, 2 + m * 4 + 3, none⟩ = some (.slice (x.pl m).A3 (x.pl m).n3 (x.pl m).c3) ∧ u.cell? ⟨w.heap.size, 2 + m * 4, none⟩ = some (.slice (s0.pl m).A0 (s0.pl m).n0 (s0.pl m).c0) ∧ u.cell? ⟨w.heap.size, 2 + m * 4 + 1, none⟩ = some (.slice (s0.pl m).A1 (s0.pl m).n1 (s0.pl m).c1) ∧ u.cell? ⟨w.heap.size, 2 + m * 4 + 2, none⟩ = some (.slice (s0.pl m).A2 (s0.pl m).n2 (s0.pl m).c2) ∧ u.cell? ⟨w.heap.size, 2 + m * 4 + 3, none⟩ = some (.slice (s0.pl m).A3 (s0.pl m).n3 (s0.pl m).c3) ∧ Hid (Bx w u g s0 X0 r3 Y3 r4 Y4 h x (X0.setPl c Q)))
                  (first | exact hN.out _ BD | exact hN.out _ (by assumption))
                  (first | (go_at_call 30; refine (CP.out _ ?_).mono ?_; (exact (by assumption)); rintro e v1 ⟨rfl, hv1⟩; have BU := hide (Bx.step (Hid.out (by assumption)) hv1)))
                all_goals
                  clear hv1 BD CP hN BM
                  go_wp2
                  go_roundw
                  case rel => exact ⟨m + 1, by omega, by go_num, BU⟩
                  case measure => simp [intOf]; omega
            · have BB := hide BM.out.back
              obtain ⟨e0, e1⟩ := BB.out.xs.box.era
              obtain ⟨f0, f1⟩ := BB.out.ap.st.box.era
              rw [BB.out.xs.sees.t] at e0
              rw [BB.out.ap.st.sees.t] at f0
              have l1 := BB.out.xs.box.lt
              have l2 := BB.out.ap.st.box.lt
              have CE := hide (Era.samee_yes X0.T (x.setPs s0).z.A s0.z.A (x.setPs s0).z.n s0.z.n (x.setPs s0).z.c s0.z.c _ _ X0.Z _ BB.out.xs.sees.z BB.out.ap.st.sees.z (Nat.le_refl _) (Nat.le_refl _) (by rw [← BB.out.xs.sees.z.len]; exact HFEW.out.z))
              go_wp2_with (first | ((with_reducible refine ld27 (.tmp 70) w.heap.size ?_ s0 ?_ ?_); (exact rfl); (exact BM.out.ap.st.box)) | ((with_reducible refine st27 (.tmp 72) (.tmp 71) h ?_ s0 ?_ x ?_ ?_); (exact rfl); (exact rfl); (exact BM.out.xs.box)))
              refine CE.out.mono ?_
              rintro e v1 ⟨rfl, hv1⟩
              have BU := hide (BB.out.step hv1)
              clear hv1 BB CE e0 e1 f0 f1 l1 l2 BM
              go_wp2_with (first | ((with_reducible refine ld31w (.tmp 13) h ?_ ?_ (x.setPs s0) ?_ ?_); (exact rfl); (exact rfl); (exact BU.out.xs.box)) | ((with_reducible refine ld31w (.tmp 3) w.heap.size ?_ ?_ s0 ?_ ?_); (exact rfl); (exact rfl); (exact BU.out.ap.st.box)))
              refine (same_yes (x.setPs s0) s0 X0 _ BU.out.xs.sees BU.out.ap.st.sees HFEW.out).mono ?_
              rintro e v2 ⟨rfl, hv2⟩
              have BV := hide (BU.out.step hv2)
              clear hv2 BU
              go_wp2
              go_roundw
              case rel => exact ⟨k + 1, by omega, by go_num, BV.out.ap⟩
              case measure => simp [intOf]; omega
        · have hne : (ek != 0) = true := by simpa using he
          have AN := hide (BF.out.ap.alloc (.cells #[.int .i64 x3, .int .i64 x4] 34))
          go_wp2_with (first | ((with_reducible refine ld31at (.tmp 41) g k ?_ x ?_ ?_); (exact rfl); (exact HSL.out)) | ((with_reducible refine st31 (.tmp 13) (.tmp 42) wr.heap.size ?_ x ?_ noSh ?_ ?_); (exact rfl); (exact rfl); (exact heap_alloc_new _ _)))
          go_roundw
          case rel => exact ⟨k + 1, by omega, by go_num, AN⟩
          case measure => simp [intOf]; omega
      · go_wp2
        go_ret
        exact ⟨rfl, AR.out.st.bel⟩

set_option maxRecDepth 100000 in
theorem lifted (os : Os) (started : os.Started) (H : Type) (enc : TypeId × Value → H) :
    ReturnsInHanded {} Try.checked os 8 .any (Rows.arenaApartSpec.pre6 enc Try.prog Try.f8 Rows.arenaApartRow.domain false) (Rows.arenaApartSpec.post enc Try.prog Try.f8 false true false false) := by
  refine returnsInHanded_of_change (C := Try.checked) own started (by kernel_rfl) Try.func8
    (ChangeSpec.witness6 (enc := enc) (C := Try.checked) false ⟨#[], #[.agg #[.slice none 0 0, .slice none 0 0, .slice none 0 0, .slice none 0 0, .slice none 0 0, .slice none 0 0, .slice none 0 0, .slice none 0 0, .slice none 0 0, .slice none 0 0, .slice none 0 0, .slice none 0 0, .slice none 0 0, .slice none 0 0, .int .i64 0, .slice none 0 0], .int .i64 0, .int .i64 0], []⟩ 8 (by kernel_rfl) (by kernel_rfl) (by kernel_rfl) (by kernel_rfl)) ?_
  intro W base args ds gs before hval0 hW hcnd _
  have hval : ∀ (j : Nat) t v, Try.f8.params[j]? = some t → args[j]? = some v → Value.okWide Try.prog W .any base t v := hval0
  have hW' := hW
  obtain ⟨p, q, hA0, hV, rfl, hfz, hnd⟩ := hW
  have hA : DataW.TrodAll enc Try.prog W 0 (fun _ => true) true Try.f8.params.toList args.toList ds p := hA0
  rw [Try.params8] at hA hval
  obtain ⟨x0, vs0, d0, ds0, p0_, q0, hargs, rfl, rfl, h0, r0⟩ := trodAll_cons hA
  obtain ⟨x1, vs1, d1, ds1, p1_, q1, rfl, rfl, rfl, h1, r1⟩ := trodAll_cons r0
  obtain ⟨x2, vs2, d2, ds2, p2_, q2, rfl, rfl, rfl, h2, r2⟩ := trodAll_cons r1
  obtain ⟨rfl, rfl, rfl⟩ := trodAll_nil r2
  obtain rfl : args = #[x0, x1, x2] := by cases args; simp_all
  obtain ⟨rfl, rfl⟩ := trodVars_none hV
  have lt0 : ∀ x ∈ p0_, x.block < W.heap.size := by obtain ⟨m, hm⟩ := h0; exact DataW.trod_lt m _ _ _ hm
  obtain ⟨s0, X0, rfl, w0, f0⟩ := open_shared (hval 0 31 x0 rfl rfl) h0
  obtain ⟨a1, rfl, rfl, rfl, w1⟩ := open_int Try.underlying3 (hval 1 3 x1 rfl rfl) h1
  obtain ⟨a2, rfl, rfl, rfl, w2⟩ := open_int Try.underlying3 (hval 2 3 x2 rfl rfl) h2
  clear hA0 hval0
  refine (walk s0 X0 a1 a2 W w0 f0 w1 w2).mono fun e W' ⟨he, bel⟩ => ?_
  subst he
  exact ⟨_, rfl, _, _, _, [], _, [], hW', trodAll_mk1 (shut_bool Try.underlying4 _), (trodAll_cons_mk (Below.trod laidOut (by kernel_rfl) (of_decide_eq_true (by kernel_rfl)) h0 bel lt0) (trodAll_cons_mk (shut_int Try.underlying3 w1) (trodAll_cons_mk (shut_int Try.underlying3 w2) trodAll_mk0))), rfl, bel.frame _, fun h => by cases h⟩

theorem over : Rows.arenaApartRow.holds Try.pinned (OpenSpec.ofChange Rows.arenaApartSpec) :=
  OpenClaim.holds_of_wide 8 Try.f8 rfl rfl rfl rfl rfl rfl rfl ⟨rfl, rfl, rfl, rfl, rfl⟩ rfl rfl rfl rfl rfl (by kernel_rfl) Try.func8 (by kernel_rfl)
    (of_decide_eq_true (by kernel_rfl)) (by unfold Func.isWrapper; first | (rw [if_pos (by decide +kernel)]; kernel_rfl) | (rw [if_neg (by decide +kernel)]; exact ⟨rfl, rfl⟩))
    (fun os started H enc _ => lifted os started H enc)

end Go.Proofs.Ythficfmakbblkaa.arenaApart

namespace Go.Proofs.Ythficfmakbblkaa
/-- The statement. -/
theorem arenaApart_holds : Rows.ArenaApartSaid := arenaApart.over
#print axioms arenaApart_holds
end Go.Proofs.Ythficfmakbblkaa
