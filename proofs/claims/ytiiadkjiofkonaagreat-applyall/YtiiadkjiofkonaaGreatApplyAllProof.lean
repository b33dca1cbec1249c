/- Any operations done, one after the other, from nothing on: the code and the document. No condition. (The statement tendrillaw11.ApplyAll.) -/
import Derived.Test.YtiiadkjiofkonaaGreatRows
import Derived.Test.YtiiadkjiofkonaaGreatAB4
import Derived.Test.YtiiadkjiofkonaaGreatAB5
import Derived.WalkKit
import Derived.Below
import Derived.Deep.QuietTactic
import Derived.BigQuiet
import Derived.Deep.AppendLies
import Derived.Deep.RegionHeld3
import Derived.Deep.DeepCutAuto
import Derived.Shelf.Abstract
namespace Go.Proofs.YtiiadkjiofkonaaGreat.applyAll
open Go.Joins Go.ChangeShapes Go.WideShapes Go.ChangeAt Go.RowKit Go.Deep
set_option linter.unusedVariables false

set_option maxRecDepth 100000 in
set_option maxHeartbeats 8000000 in
theorem walk (n0 e0 p0 i0 j0 : Int) (s1 : Sl) (l1 : List O5) (w : World) (w1 : Ops w w.heap.size s1 l1) (m1 : s1.n ≤ 9223372036854775807) (u1 : Wf l1) :
    Calls Tryz.prog 5 #[.agg (fc n0 e0 p0 i0 j0), .slice s1.A s1.n s1.c] w (Drew (.bool true) w) := by
  obtain ⟨lA, ln, lc⟩ := s1
  have PL := hide w1
  have WL := hide u1
  have LL : Hid (l1.length = ln) := w1.1
  dsimp only at m1
  clear w1 u1
  obtain ⟨W, hW⟩ : ∃ W, Hid (w.alloc (.cells ((fc n0 e0 p0 i0 j0)) 23) = W) := ⟨_, rfl⟩
  have BW : Hid (Below w.heap.size w W) := by show Below _ _ _; rw [← hW.out]; exact ((Below.refl _ _).alloc (Nat.le_refl _) _)
  have HC : Hid (Bx W (w.heap.size) ((fc n0 e0 p0 i0 j0)) 23) := by
    have h := (Bx.new w ((fc n0 e0 p0 i0 j0)) 23)
    show Bx _ _ _ _
    rw [← hW.out]
    simpa using h
  go_enter Tryz.func5, Tryz.ntmps5
  go_upto_region 1 with fail
  have hW' := hW.out
  rw [hW']
  clear hW hW'
  go_wp2_with fail
  refine (alive_any W).mono ?_
  rintro e u1 ⟨rfl, hb⟩
  have HC := hide (HC.out.step hb)
  have BW := hide (BW.out.trans (hb.mono BW.out.size))
  clear hb
  go_wp2_with (((with_reducible refine ldC (.tmp 2) (w.heap.size) (0) ?_ ?_ n0 e0 p0 i0 j0 ?_ ?_); (exact rfl); (exact rfl); (exact HC.out.lies)))
  by_cases hc : Place.Ok n0 e0 p0 i0 j0
  case neg =>
    refine (Place.rcheck_no n0 e0 p0 i0 j0 u1 hc).mono ?_
    rintro e u2 ⟨rfl, hb⟩
    have BW := hide (BW.out.trans (hb.mono BW.out.size))
    clear hb
    go_wp2
    go_ret
    exact ⟨rfl, BW.out⟩
  refine (Place.rcheck_ok n0 e0 p0 i0 j0 u1 hc).mono ?_
  rintro e u2 ⟨rfl, hb⟩
  have HC := hide (HC.out.step hb)
  have BW := hide (BW.out.trans (hb.mono BW.out.size))
  clear hb hc
  by_cases h1 : ln ≤ 60
  case neg =>
    have t1 : decide ((60 : Int) < (ln : Int)) = true := by simp; omega
    go_wp2
    go_ret
    exact ⟨rfl, BW.out⟩
  have t1 : decide ((60 : Int) < (ln : Int)) = false := by simp; omega
  clear m1
  go_wp2_with (((with_reducible refine ldC (.tmp 2) (w.heap.size) (0) ?_ ?_ n0 e0 p0 i0 j0 ?_ ?_); (exact rfl); (exact rfl); (exact HC.out.lies)))
  refine (all_any n0 e0 p0 i0 j0 ⟨lA, ln, lc⟩ l1 u2 ((PL.out.below BW.out (Nat.le_refl _)).more BW.out.size) (by dsimp only; omega) WL.out).mono ?_
  rintro e u3 ⟨v1, A1, n1, c1, Z1, rfl, hH, hR, hM, hb⟩
  have OG : Hid (Has u3 w.heap.size v1 (allG i0 j0 newG0 l1)) := hH.out.less BW.out.size
  have RO : Hid (ROws u3 w.heap.size A1 n1 c1 Z1) := hR.out.less BW.out.size
  clear hH hR
  have HC := hide (HC.out.step hb.out)
  have BW := hide (BW.out.trans (hb.out.mono BW.out.size))
  clear hb t1
  have Hh : Hid (Bx (u3.alloc (.cells (#[.slice none 0 0, .slice none 0 0, .int .i64 0, .int .i64 0]) 27)) u3.heap.size (#[.slice none 0 0, .slice none 0 0, .int .i64 0, .int .i64 0]) 27) := Bx.new u3 (#[.slice none 0 0, .slice none 0 0, .int .i64 0, .int .i64 0]) 27
  go_upto_region 6 with (((with_reducible refine stG (.tmp 5) (.tmp 23) (u3.heap.size) ?_ v1 ?_ (#[.slice none 0 0, .slice none 0 0, .int .i64 0, .int .i64 0]) ?_ ?_ ?_); (exact rfl); (exact rfl); (exact Hh.out); (exact rfl)))
  obtain ⟨V, hV⟩ : ∃ V, Hid ((u3.alloc (.cells (#[.slice none 0 0, .slice none 0 0, .int .i64 0, .int .i64 0]) 27)).setRow u3.heap.size (gc v1) = V) := ⟨_, rfl⟩
  obtain ⟨g1, hg1⟩ : ∃ g, Hid (u3.heap.size = g) := ⟨_, rfl⟩
  have BV : Hid (Below u3.heap.size u3 V) := by show Below _ _ _; rw [← hV.out]; exact row_below ((Below.refl _ _).alloc (Nat.le_refl _) _) (Nat.le_refl _) _
  have Hh : Hid (Bx V g1 (gc v1) 27) := by show Bx _ _ _ _; rw [← hV.out, ← hg1.out]; exact Hh.out.put _
  have HC := hide (HC.out.step BV.out)
  have OG := hide (OG.out.step BV.out)
  have RO := hide (RO.out.step BV.out)
  have BW := hide (BW.out.trans (BV.out.mono BW.out.size))
  clear BV
  have hV' := hV.out
  have hg' := hg1.out
  rw [hV', hg']
  clear hV hg1 hV' hg'
  go_wp2_with (((with_reducible refine ldC (.tmp 2) (w.heap.size) (0) ?_ ?_ n0 e0 p0 i0 j0 ?_ ?_); (exact rfl); (exact rfl); (exact HC.out.lies)))
  refine (rall_any n0 e0 p0 i0 j0 ⟨lA, ln, lc⟩ l1 V ((PL.out.below BW.out (Nat.le_refl _)).more BW.out.size) (by dsimp only; omega)).mono ?_
  rintro e u4 ⟨v2, A2, n2, c2, Z2, rfl, hH, hR, hM2, hb⟩
  have OH : Hid (Has u4 w.heap.size v2 (allG i0 j0 newG0 l1)) := hH.out.less BW.out.size
  have RH : Hid (ROws u4 w.heap.size A2 n2 c2 Z2) := hR.out.less BW.out.size
  clear hH hR
  have HC := hide (HC.out.step hb.out)
  have Hh := hide (Hh.out.step hb.out)
  have OG := hide (OG.out.step hb.out)
  have RO := hide (RO.out.step hb.out)
  have BW := hide (BW.out.trans (hb.out.mono BW.out.size))
  clear hb
  have Hx : Hid (Bx (u4.alloc (.cells (#[.slice none 0 0, .slice none 0 0, .int .i64 0, .int .i64 0]) 27)) u4.heap.size (#[.slice none 0 0, .slice none 0 0, .int .i64 0, .int .i64 0]) 27) := Bx.new u4 (#[.slice none 0 0, .slice none 0 0, .int .i64 0, .int .i64 0]) 27
  go_upto_region 7 with (((with_reducible refine stG (.tmp 7) (.tmp 29) (u4.heap.size) ?_ v2 ?_ (#[.slice none 0 0, .slice none 0 0, .int .i64 0, .int .i64 0]) ?_ ?_ ?_); (exact rfl); (exact rfl); (exact Hx.out); (exact rfl)))
  obtain ⟨V2, hV⟩ : ∃ V, Hid ((u4.alloc (.cells (#[.slice none 0 0, .slice none 0 0, .int .i64 0, .int .i64 0]) 27)).setRow u4.heap.size (gc v2) = V) := ⟨_, rfl⟩
  obtain ⟨g2, hg1⟩ : ∃ g, Hid (u4.heap.size = g) := ⟨_, rfl⟩
  have BV : Hid (Below u4.heap.size u4 V2) := by show Below _ _ _; rw [← hV.out]; exact row_below ((Below.refl _ _).alloc (Nat.le_refl _) _) (Nat.le_refl _) _
  have Hx : Hid (Bx V2 g2 (gc v2) 27) := by show Bx _ _ _ _; rw [← hV.out, ← hg1.out]; exact Hx.out.put _
  have HC := hide (HC.out.step BV.out)
  have Hh := hide (Hh.out.step BV.out)
  have OG := hide (OG.out.step BV.out)
  have RO := hide (RO.out.step BV.out)
  have OH := hide (OH.out.step BV.out)
  have RH := hide (RH.out.step BV.out)
  have BW := hide (BW.out.trans (BV.out.mono BW.out.size))
  clear BV
  have hV' := hV.out
  have hg' := hg1.out
  rw [hV', hg']
  clear hV hg1 hV' hg'
  have FE : Hid (Few 140 (allG i0 j0 newG0 l1)) := few_end (by have := LL.out; omega)
  go_wp2_with (first | ((with_reducible refine ldG (.tmp 5) (g1) (0) ?_ ?_ v1 ?_ ?_); (exact rfl); (exact rfl); (exact Hh.out.lies)) | ((with_reducible refine ldG (.tmp 7) (g2) (0) ?_ ?_ v2 ?_ ?_); (exact rfl); (exact rfl); (exact Hx.out.lies)))
  refine (rgraph_eq OG.out.sees OH.out.sees FE.out (by decide)).mono ?_
  rintro e u5 ⟨rfl, hb⟩
  have HC := hide (HC.out.step hb)
  have Hh := hide (Hh.out.step hb)
  have Hx := hide (Hx.out.step hb)
  have OG := hide (OG.out.step hb)
  have RO := hide (RO.out.step hb)
  have OH := hide (OH.out.step hb)
  have RH := hide (RH.out.step hb)
  have BW := hide (BW.out.trans (hb.mono BW.out.size))
  clear hb
  obtain rfl : n2 = n1 := by have h1 := RO.out.len; have h2 := RH.out.len; have h3 := congrArg List.length hM.out; have h4 := congrArg List.length hM2.out; simp only [List.length_map] at h3 h4; omega
  have hn2 : n2 ≤ 1000 := by have h1 := RO.out.len; have h3 := congrArg List.length hM.out; rw [List.length_map, allR_len] at h3; have := LL.out; omega
  go_wp2_with fail
  refine (sameAll_yes A1 A2 n2 c1 c2 w.heap.size w.heap.size Z1 Z2 u5 RO.out RH.out (by show _ = _; rw [hM.out, hM2.out]) hn2 (by show ∀ r ∈ Z1.map (·.1), Most r; rw [hM.out]; exact most_all _ few_new (by have := LL.out; omega))).mono ?_
  rintro e u6 ⟨rfl, hb⟩
  have BW := hide (BW.out.trans (hb.mono BW.out.size))
  clear hb
  go_wp2
  go_ret
  exact ⟨rfl, BW.out⟩

set_option maxRecDepth 100000 in
theorem lifted (os : Os) (started : os.Started) (H : Type) (enc : TypeId × Value → H) :
    ReturnsInHanded {} Tryz.checked os 5 .any (Rows.applyAllSpec.pre6 enc Tryz.prog Tryz.f5 Rows.applyAllRow.domain false) (Rows.applyAllSpec.post enc Tryz.prog Tryz.f5 false true false false) := by
  refine returnsInHanded_of_change (C := Tryz.checked) own started (by kernel_rfl) Tryz.func5
    (ChangeSpec.witness6 (enc := enc) (C := Tryz.checked) false ⟨#[], #[.agg #[.int .i64 0, .int .i64 0, .int .i64 0, .int .i64 0, .int .i64 0], .slice none 0 0], []⟩ 8 (by kernel_rfl) (by kernel_rfl) (by kernel_rfl) (by kernel_rfl)) ?_
  intro W base args ds gs before hval0 hW hcnd _
  have hval : ∀ (j : Nat) t v, Tryz.f5.params[j]? = some t → args[j]? = some v → Value.okWide Tryz.prog W .any base t v := hval0
  have hW' := hW
  obtain ⟨p, q, hA0, hV, rfl, hfz, hnd⟩ := hW
  have hA : DataW.TrodAll enc Tryz.prog W 0 (fun _ => true) true Tryz.f5.params.toList args.toList ds p := hA0
  rw [Tryz.params5] at hA hval
  obtain ⟨x0, vs0, d0, ds0, p0_, q0, hargs, rfl, rfl, h0, r0_⟩ := trodAll_cons hA
  obtain ⟨x1, vs1, d1, ds1, p1_, q1, rfl, rfl, rfl, h1, r1_⟩ := trodAll_cons r0_
  obtain ⟨rfl, rfl, rfl⟩ := trodAll_nil r1_
  obtain rfl : args = #[x0, x1] := by cases args; simp_all
  obtain ⟨rfl, rfl⟩ := trodVars_none hV
  have lt0 : ∀ x ∈ p0_, x.block < W.heap.size := by obtain ⟨m, hm⟩ := h0; exact DataW.trod_lt m _ _ _ hm
  have lt1 : ∀ x ∈ p1_, x.block < W.heap.size := by obtain ⟨m, hm⟩ := h1; exact DataW.trod_lt m _ _ _ hm
  obtain ⟨n0, e0, p0, i0, j0, rfl⟩ := open_cfg (hval 0 23 x0 rfl rfl) h0
  obtain ⟨s1, l1, rfl, w1, m1, u1⟩ := open_ops (hval 1 48 x1 rfl rfl) h1
  clear hA0 hval0
  refine (walk n0 e0 p0 i0 j0 s1 l1 W w1 (by unfold maxLen at m1; omega) u1).mono fun e W' ⟨he, bel⟩ => ?_
  subst he
  exact ⟨_, rfl, _, _, _, [], _, [], hW', trodAll_mk1 (shut_bool Tryz.underlying4 _), (trodAll_cons_mk (Below.trod laidOut (by kernel_rfl) (of_decide_eq_true (by kernel_rfl)) h0 bel lt0) (trodAll_cons_mk (Below.trod laidOut (by kernel_rfl) (of_decide_eq_true (by kernel_rfl)) h1 bel lt1) trodAll_mk0)), rfl, bel.frame _, fun h => by cases h⟩

theorem over : Rows.applyAllRow.holds Tryz.pinned (OpenSpec.ofChange Rows.applyAllSpec) :=
  OpenClaim.holds_of_wide 5 Tryz.f5 rfl rfl rfl rfl rfl rfl rfl ⟨rfl, rfl, rfl, rfl, rfl⟩ rfl rfl rfl rfl rfl (by kernel_rfl) Tryz.func5 (by kernel_rfl)
    (of_decide_eq_true (by kernel_rfl)) (by unfold Func.isWrapper; first | (rw [if_pos (by decide +kernel)]; kernel_rfl) | (rw [if_neg (by decide +kernel)]; exact ⟨rfl, rfl⟩))
    (fun os started H enc _ => lifted os started H enc)

end Go.Proofs.YtiiadkjiofkonaaGreat.applyAll

namespace Go.Proofs.YtiiadkjiofkonaaGreat
/-- The statement. -/
theorem applyAll_holds : Rows.ApplyAllSaid := applyAll.over
#print axioms applyAll_holds
end Go.Proofs.YtiiadkjiofkonaaGreat
