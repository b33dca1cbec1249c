/- For every configuration, every number of threads and all steps: no slot is taken again while a thread is pinned that was so when the slot was retired; what is live can be retired; and what comes of it may be. (The statement tendrillaw07.ArenaPinned.) -/
import Derived.Test.YthficfmakbblkaaRows
import Derived.Test.YthficfmakbblkaaPinJ
import Derived.Test.YthficfmakbblkaaArC
import Derived.WalkKit
import Derived.Deep.DeepCutAuto
namespace Go.Proofs.Ythficfmakbblkaa.arenaPinned
open Go.Joins Go.ChangeShapes Go.WideShapes Go.ChangeAt Go.RowKit Go.Deep
open Pool (Pl PL MayBe noP noPl Drew Told4)
set_option linter.unusedVariables false

set_option maxRecDepth 100000 in
set_option maxHeartbeats 8000000 in
theorem walk (n0 e0 p0 i0 j0 : Int) (a1 : Int) (A2 : Option Addr) (n2 c2 : Nat) (z2 : List Int) (w : World) (w1 : (Lit.int .i64 a1).wf = true) (w2 : Pool.Came w 1 A2 n2 c2 z2) :
    Calls Try.prog 6 #[.agg #[.int .i64 n0, .int .i64 e0, .int .i64 p0, .int .i64 i0, .int .i64 j0], .int .i64 a1, .slice A2 n2 c2] w (Drew (.bool true) w) := by
  obtain ⟨w2a, w2b, w2c, w2d⟩ := w2
  have HST := hide w2a
  have HWF := hide w2d
  have HC0 := hide (heap_alloc_new w (.cells #[.int .i64 n0, .int .i64 e0, .int .i64 p0, .int .i64 i0, .int .i64 j0] 23))
  have B0 := hide ((Below.refl w.heap.size w).alloc (Nat.le_refl _) (.cells #[.int .i64 n0, .int .i64 e0, .int .i64 p0, .int .i64 i0, .int .i64 j0] 23))
  clear w2a w2b w2c w2d w1
  go_enter Try.func6, Try.ntmps6
  go_wp2_with fail
  refine (live_yes _).mono ?_
  rintro e u1 ⟨rfl, b1⟩
  have HC1 : Hid (u1.heap[w.heap.size]? = some (.cells #[.int .i64 n0, .int .i64 e0, .int .i64 p0, .int .i64 i0, .int .i64 j0] 23 (0, 0))) := (b1.block _ (by simp)).trans HC0.out
  have B1 := hide (Pool.next_call B0.out (Nat.le_refl _) b1)
  clear b1 B0 HC0
  by_cases t1 : a1 < 1
  · have d1 : decide (a1 < 1) = true := by simpa using t1
    go_wp2
    go_ret
    exact ⟨rfl, B1.out⟩
  have d1 : decide (a1 < 1) = false := by simpa using t1
  by_cases t2 : 6 < a1
  · have d2 : decide (6 < a1) = true := by simpa using t2
    go_wp2
    go_ret
    exact ⟨rfl, B1.out⟩
  have d2 : decide (6 < a1) = false := by simpa using t2
  by_cases t3 : 120 < n2
  · have d3 : decide ((120 : Int) < (n2 : Int)) = true := by simp; omega
    go_wp2
    go_ret
    exact ⟨rfl, B1.out⟩
  have d3 : decide ((120 : Int) < (n2 : Int)) = false := by simp; omega
  obtain ⟨TN, rfl⟩ : ∃ TN : Nat, a1 = (TN : Int) := ⟨a1.toNat, by omega⟩
  have hc : ∀ i, u1.cell? ⟨w.heap.size, i, none⟩ = (#[.int .i64 n0, .int .i64 e0, .int .i64 p0, .int .i64 i0, .int .i64 j0] : Array Value)[i]? := fun i => cell_of_row u1 _ i _ 23 (0, 0) HC1.out
  have hl : w.heap.size < u1.heap.size := (Array.getElem?_eq_some_iff.1 HC1.out).1
  go_wp2_with fail
  refine (new_any n0 e0 p0 i0 j0 (TN : Int) _).mono ?_
  rintro e u3 ⟨r3, rfl, S3, K3, b3⟩
  have Q3 := hide (St.first (Pool.next_call B1.out (Nat.le_refl _) b3) S3)
  clear S3 K3 b3 hc hl HC1 B1
  by_cases ho : nwOk n0 e0 p0 i0 j0 (TN : Int)
  · have E := hide (nw_yes ho).1
    obtain ⟨IN, LN⟩ := inv_new ho
    have I0 := hide IN
    have L0 := hide LN
    rw [E.out]
    generalize nwX n0 e0 p0 i0 j0 (TN : Int) = X at Q3 I0 L0
    clear IN LN ho E
    obtain ⟨Z9, H9, hmk9⟩ := make_heads TN (by omega)
    obtain ⟨Z10, H10, hmk10⟩ := make_bools TN (by omega)
    have P0 := hide (pn_first Q3.out H9.out H10.out)
    have hz3 : ((u3.alloc (.cells zeros16 31)).setRow u3.heap.size r3.cs).heap.size = u3.heap.size + 1 := by simp
    rw [hz3] at P0
    go_wp2_with (first | ((with_reducible refine st31 (.tmp 7) (.tmp 55) u3.heap.size ?_ r3 ?_ noSh ?_ ?_); (exact rfl); (exact rfl); (exact heap_alloc_new _ _)))
    clear hmk9 hmk10 H9 H10 Q3 hz3
    generalize u3.heap.size + 1 + 1 = g10 at P0 ⊢
    generalize u3.heap.size + 1 = g9 at P0 ⊢
    generalize u3.heap.size = h at P0 ⊢
    have CL0 : Hid (∀ i : Nat, ((fun _ : Nat => ([] : List (Int × Int))) i).length ≤ 0) := fun i => by simp
    refine pn_loop w h g9 g10 TN n2 c2 A2 z2 HST.out HWF.out (by omega) (by omega) (by omega) _ _ _ ?_ ?_ ?_
    · exact ⟨r3, X, List.replicate TN false, fun _ => noSl, fun _ => [], none, 0, 0, by omega, ⟨rfl, P0.out, I0.out, L0.out, CL0.out⟩, fr_mk⟩
    · intro a u hW
      obtain ⟨s, X', pb, R, C, lA, ln, lc, hj, S, U, rfl⟩ := hW
      have SP := hide S.pn
      have SI := hide S.inv
      clear S P0 I0 L0 CL0
      go_wp2_with (first | ((with_reducible refine ld31 (.tmp 7) h ?_ s ?_ ?_); (exact rfl); (exact SP.out.st.box)))
      have ck : chk true = 0 := rfl
      refine (check_any s X' true _ SP.out.st.sees SI.out.few ⟨fun _ => SI.out.ok, fun _ => rfl⟩).mono ?_
      rintro e u2 ⟨rfl, b2⟩
      rw [ck]
      go_wp2
      go_ret
      exact ⟨rfl, SP.out.st.bel.trans (b2.mono SP.out.st.bel.size)⟩
    · intro a u hW
      obtain ⟨hb, lA, ln, lc, j, U, rfl⟩ := hW
      go_ret
      exact ⟨rfl, hb⟩
  · obtain ⟨E1, E2⟩ := nw_no ho
    rw [E1]
    rw [E2] at Q3
    have hz := few_none Q3.out.sees
    have e5 : ((u3.alloc (.cells zeros16 31)).setRow u3.heap.size r3.cs).cell? ⟨u3.heap.size, 15, none⟩ = some (.slice r3.z.A r3.z.n r3.z.c) := Q3.out.box.era.2
    rw [hz] at e5
    have hl := Q3.out.box.lt
    go_wp2_with (first | ((with_reducible refine st31 (.tmp 7) (.tmp 55) u3.heap.size ?_ r3 ?_ noSh ?_ ?_); (exact rfl); (exact rfl); (exact heap_alloc_new _ _)))
    go_ret
    exact ⟨rfl, Q3.out.bel⟩

set_option maxRecDepth 100000 in
theorem lifted (os : Os) (started : os.Started) (H : Type) (enc : TypeId × Value → H) :
    ReturnsInHanded {} Try.checked os 6 .any (Rows.arenaPinnedSpec.pre6 enc Try.prog Try.f6 Rows.arenaPinnedRow.domain false) (Rows.arenaPinnedSpec.post enc Try.prog Try.f6 false true false false) := by
  refine returnsInHanded_of_change (C := Try.checked) own started (by kernel_rfl) Try.func6
    (ChangeSpec.witness6 (enc := enc) (C := Try.checked) false ⟨#[], #[.agg #[.int .i64 0, .int .i64 0, .int .i64 0, .int .i64 0, .int .i64 0], .int .i64 0, .slice none 0 0], []⟩ 8 (by kernel_rfl) (by kernel_rfl) (by kernel_rfl) (by kernel_rfl)) ?_
  intro W base args ds gs before hval0 hW hcnd _
  have hval : ∀ (j : Nat) t v, Try.f6.params[j]? = some t → args[j]? = some v → Value.okWide Try.prog W .any base t v := hval0
  have hW' := hW
  obtain ⟨p, q, hA0, hV, rfl, hfz, hnd⟩ := hW
  have hA : DataW.TrodAll enc Try.prog W 0 (fun _ => true) true Try.f6.params.toList args.toList ds p := hA0
  rw [Try.params6] at hA hval
  obtain ⟨x0, vs0, d0, ds0, p0_, q0, hargs, rfl, rfl, h0, r0⟩ := trodAll_cons hA
  obtain ⟨x1, vs1, d1, ds1, p1_, q1, rfl, rfl, rfl, h1, r1⟩ := trodAll_cons r0
  obtain ⟨x2, vs2, d2, ds2, p2_, q2, rfl, rfl, rfl, h2, r2⟩ := trodAll_cons r1
  obtain ⟨rfl, rfl, rfl⟩ := trodAll_nil r2
  obtain rfl : args = #[x0, x1, x2] := by cases args; simp_all
  obtain ⟨rfl, rfl⟩ := trodVars_none hV
  have lt0 : ∀ x ∈ p0_, x.block < W.heap.size := by obtain ⟨m, hm⟩ := h0; exact DataW.trod_lt m _ _ _ hm
  have lt2 : ∀ x ∈ p2_, x.block < W.heap.size := by obtain ⟨m, hm⟩ := h2; exact DataW.trod_lt m _ _ _ hm
  obtain ⟨n0, e0, p0, i0, j0, rfl⟩ := open_cfg (hval 0 23 x0 rfl rfl) h0
  obtain ⟨a1, rfl, rfl, rfl, w1⟩ := open_int Try.underlying3 (hval 1 3 x1 rfl rfl) h1
  obtain ⟨A2, n2, c2, rfl⟩ := okWide_slice Try.underlying24 (hval 2 24 x2 rfl rfl)
  obtain ⟨z2, w2⟩ := Pool.open_flat h2
  clear hA0 hval0
  refine (walk n0 e0 p0 i0 j0 a1 A2 n2 c2 z2 W w1 w2).mono fun e W' ⟨he, bel⟩ => ?_
  subst he
  exact ⟨_, rfl, _, _, _, [], _, [], hW', trodAll_mk1 (shut_bool Try.underlying4 _), (trodAll_cons_mk (Below.trod laidOut (by kernel_rfl) (of_decide_eq_true (by kernel_rfl)) h0 bel lt0) (trodAll_cons_mk (shut_int Try.underlying3 w1) (trodAll_cons_mk (Below.trod laidOut (by kernel_rfl) (of_decide_eq_true (by kernel_rfl)) h2 bel lt2) trodAll_mk0))), rfl, bel.frame _, fun h => by cases h⟩

theorem over : Rows.arenaPinnedRow.holds Try.pinned (OpenSpec.ofChange Rows.arenaPinnedSpec) :=
  OpenClaim.holds_of_wide 6 Try.f6 rfl rfl rfl rfl rfl rfl rfl ⟨rfl, rfl, rfl, rfl, rfl⟩ rfl rfl rfl rfl rfl (by kernel_rfl) Try.func6 (by kernel_rfl)
    (of_decide_eq_true (by kernel_rfl)) (by unfold Func.isWrapper; first | (rw [if_pos (by decide +kernel)]; kernel_rfl) | (rw [if_neg (by decide +kernel)]; exact ⟨rfl, rfl⟩))
    (fun os started H enc _ => lifted os started H enc)

end Go.Proofs.Ythficfmakbblkaa.arenaPinned

namespace Go.Proofs.Ythficfmakbblkaa
/-- The statement. -/
theorem arenaPinned_holds : Rows.ArenaPinnedSaid := arenaPinned.over
#print axioms arenaPinned_holds
end Go.Proofs.Ythficfmakbblkaa
