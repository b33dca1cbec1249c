/- What an operation does itself can be told of it; that it is full can be told of it just if it takes a record, and then nothing is changed. No condition. (The statement tendrillaw11.ApplyFull.) -/
import Derived.Test.YtiiadkjiofkonaaGreatRows
import Derived.Test.YtiiadkjiofkonaaGreatAFull
import Derived.Test.YtiiadkjiofkonaaGreatAB4
import Derived.WalkKit
import Derived.Below
import Derived.Deep.QuietTactic
import Derived.BigQuiet
import Derived.Deep.AppendLies
import Derived.Deep.RegionHeld3
import Derived.Deep.DeepCutAuto
import Derived.Shelf.Abstract
namespace Go.Proofs.YtiiadkjiofkonaaGreat.applyFull
open Go.Joins Go.ChangeShapes Go.WideShapes Go.ChangeAt Go.RowKit Go.Deep
set_option linter.unusedVariables false

set_option maxRecDepth 100000 in
set_option maxHeartbeats 16000000 in
theorem walk (n0 e0 p0 i0 j0 : Int) (v1 : Gv) (G1 : GL) (o2 : O5) (w : World) (w1 : Sees w w.heap.size v1 G1) (s1 : v1.N.n ≤ 9223372036854775807) (t1 : v1.E.n ≤ 9223372036854775807) (u1 : ∀ j, j < G1.N.length → (G1.N.getD j (0, [])).2.length ≤ 9223372036854775807) (w2 : (Lit.int .i64 o2.k).wf = true) :
    Calls Tryz.prog 7 #[.agg (fc n0 e0 p0 i0 j0), .agg (gc v1), .agg (oc o2)] w (Drew (.bool true) w) := by
  have SB := hide w1
  have HN := hide s1
  have HE := hide t1
  have HP := hide u1
  have HWF := hide w2
  clear w1 s1 t1 u1 w2
  obtain ⟨W, hW⟩ : ∃ W, Hid (((w.alloc (.cells ((fc n0 e0 p0 i0 j0)) 23)).alloc (.cells (gc v1) 27)).alloc (.cells (oc o2) 29) = W) := ⟨_, rfl⟩
  have BW : Hid (Below w.heap.size w W) := by show Below _ _ _; rw [← hW.out]; exact ((((Below.refl _ _).alloc (Nat.le_refl _) _).alloc (by simp) _).alloc (by simp; omega) _)
  have HC : Hid (Bx W (w.heap.size) ((fc n0 e0 p0 i0 j0)) 23) := by
    have h := (((Bx.new w ((fc n0 e0 p0 i0 j0)) 23).alloc (.cells (gc v1) 27)).alloc (.cells (oc o2) 29))
    show Bx _ _ _ _
    rw [← hW.out]
    simpa using h
  have HG : Hid (Bx W (w.heap.size + 1) (gc v1) 27) := by
    have h := ((Bx.new (w.alloc (.cells ((fc n0 e0 p0 i0 j0)) 23)) (gc v1) 27).alloc (.cells (oc o2) 29))
    show Bx _ _ _ _
    rw [← hW.out]
    simpa using h
  have HO : Hid (Bx W (w.heap.size + 2) (oc o2) 29) := by
    have h := (Bx.new ((w.alloc (.cells ((fc n0 e0 p0 i0 j0)) 23)).alloc (.cells (gc v1) 27)) (oc o2) 29)
    show Bx _ _ _ _
    rw [← hW.out]
    simpa using h
  go_enter Tryz.func7, Tryz.ntmps7
  go_upto_region 1 with fail
  have hW' := hW.out
  rw [hW']
  clear hW hW'
  go_wp2_with fail
  refine (alive_any W).mono ?_
  rintro e u1 ⟨rfl, hb⟩
  have HC := hide (HC.out.step hb)
  have HG := hide (HG.out.step hb)
  have HO := hide (HO.out.step hb)
  have BW := hide (BW.out.trans (hb.mono BW.out.size))
  clear hb
  go_wp2_with (first | ((with_reducible refine ldC (.tmp 3) (w.heap.size) (0) ?_ ?_ n0 e0 p0 i0 j0 ?_ ?_); (exact rfl); (exact rfl); (exact HC.out.lies)) | ((with_reducible refine ldG (.tmp 4) (w.heap.size + 1) (0) ?_ ?_ v1 ?_ ?_); (exact rfl); (exact rfl); (exact HG.out.lies)))
  obtain ⟨q, hq⟩ := bool_of (FewG G1 ∧ Okg n0 e0 p0 i0 j0 G1)
  have HQ := hide hq
  clear hq
  refine (amay_any n0 e0 p0 i0 j0 v1 G1 q u1 (sees_at SB.out BW.out) HN.out HE.out HP.out HQ).mono ?_
  rintro e u2 ⟨rfl, hb⟩
  have HC := hide (HC.out.step hb)
  have HG := hide (HG.out.step hb)
  have HO := hide (HO.out.step hb)
  have BW := hide (BW.out.trans (hb.mono BW.out.size))
  clear hb
  cases q
  · go_wp2
    go_ret
    exact ⟨rfl, BW.out⟩
  have HK : Hid (Okg n0 e0 p0 i0 j0 G1) := (HQ.out.1 rfl).2
  have HF : Hid (Few 64 G1) := HK.out.few
  have H140 : Hid (Few 140 G1) := HF.out.more (by decide)
  clear HQ HN HE HP
  obtain ⟨R, r, hD⟩ : ∃ R r, Hid (doR i0 j0 G1 o2 = (R, r)) := ⟨_, _, rfl⟩
  obtain ⟨tk, htk⟩ : ∃ t, Hid (takesR i0 j0 G1 o2 = t) := ⟨_, rfl⟩
  obtain ⟨bt, hbt⟩ : ∃ b, Hid ((takesR i0 j0 G1 o2 != 0) = b) := ⟨_, rfl⟩
  have hbk : Hid ((tk != 0) = bt) := by show _ = _; rw [← htk.out]; exact hbt.out
  have FR : Hid (Few 65 R) := by show Few _ _; have h := few_do (c3 := i0) (c4 := j0) (o := o2) HF.out; rw [hD.out] at h; exact h
  have MR : Hid (Most r) := by show Most _; have h := HF.out.most (c3 := i0) (c4 := j0) (o := o2) (by decide); rw [hD.out] at h; exact h
  go_wp2_with (first | ((with_reducible refine ldC (.tmp 3) (w.heap.size) (0) ?_ ?_ n0 e0 p0 i0 j0 ?_ ?_); (exact rfl); (exact rfl); (exact HC.out.lies)) | ((with_reducible refine ldG (.tmp 4) (w.heap.size + 1) (0) ?_ ?_ v1 ?_ ?_); (exact rfl); (exact rfl); (exact HG.out.lies)) | ((with_reducible refine ldO (.tmp 5) (w.heap.size + 2) (0) ?_ ?_ o2 ?_ ?_); (exact rfl); (exact rfl); (exact HO.out.lies)))
  refine (do_any n0 e0 p0 i0 j0 v1 G1 o2 u2 (sees_at SB.out BW.out) H140.out HWF.out).mono ?_
  rintro e y1 ⟨va, sa, rfl, hm, hn, hb⟩
  have OG1 : Hid (Has y1 w.heap.size va R) := by have h := hm.out; rw [hD.out] at h; exact h.less BW.out.size
  have OR1 : Hid (ROwn y1 w.heap.size sa r) := by have h := hn.out; rw [hD.out] at h; exact h.less BW.out.size
  rw [hD.out]
  clear hm hn
  have HC := hide (HC.out.step hb.out)
  have HG := hide (HG.out.step hb.out)
  have HO := hide (HO.out.step hb.out)
  have BW := hide (BW.out.trans (hb.out.mono BW.out.size))
  clear hb
  have Ha : Hid (Bx ((y1.alloc (.cells (#[.slice none 0 0, .slice none 0 0, .int .i64 0, .int .i64 0]) 27)).alloc (.cells (#[.int .i64 0, .int .i64 0, .slice none 0 0, .slice none 0 0, .slice none 0 0]) 37)) y1.heap.size (#[.slice none 0 0, .slice none 0 0, .int .i64 0, .int .i64 0]) 27) := (Bx.new y1 (#[.slice none 0 0, .slice none 0 0, .int .i64 0, .int .i64 0]) 27).alloc _
  have Har : Hid (Bx (((y1.alloc (.cells (#[.slice none 0 0, .slice none 0 0, .int .i64 0, .int .i64 0]) 27)).alloc (.cells (#[.int .i64 0, .int .i64 0, .slice none 0 0, .slice none 0 0, .slice none 0 0]) 37)).setRow y1.heap.size (gc va)) (y1.heap.size + 1) (#[.int .i64 0, .int .i64 0, .slice none 0 0, .slice none 0 0, .slice none 0 0]) 37) := by have h := Bx.new (y1.alloc (.cells (#[.slice none 0 0, .slice none 0 0, .int .i64 0, .int .i64 0]) 27)) (#[.int .i64 0, .int .i64 0, .slice none 0 0, .slice none 0 0, .slice none 0 0]) 37; exact Bx.far (by simpa using h) (by omega) _
  go_upto_region 6 with (first | ((with_reducible refine stG (.tmp 7) (.tmp 24) (y1.heap.size) ?_ va ?_ (#[.slice none 0 0, .slice none 0 0, .int .i64 0, .int .i64 0]) ?_ ?_ ?_); (exact rfl); (exact rfl); (exact Ha.out); (exact rfl)) | ((with_reducible refine stR (.tmp 8) (.tmp 25) (y1.heap.size + 1) ?_ r sa ?_ (#[.int .i64 0, .int .i64 0, .slice none 0 0, .slice none 0 0, .slice none 0 0]) ?_ ?_ ?_); (exact rfl); (exact rfl); (exact Har.out); (exact rfl)))
  obtain ⟨Va, hV⟩ : ∃ V, Hid (((((y1.alloc (.cells (#[.slice none 0 0, .slice none 0 0, .int .i64 0, .int .i64 0]) 27)).alloc (.cells (#[.int .i64 0, .int .i64 0, .slice none 0 0, .slice none 0 0, .slice none 0 0]) 37)).setRow y1.heap.size (gc va)).setRow (y1.heap.size + 1) (rc r sa)) = V) := ⟨_, rfl⟩
  obtain ⟨ga, hg1⟩ : ∃ g, Hid (y1.heap.size = g) := ⟨_, rfl⟩
  have BV : Hid (Below y1.heap.size y1 Va) := by show Below _ _ _; rw [← hV.out]; exact row_below (row_below (((Below.refl _ _).alloc (Nat.le_refl _) _).alloc (by simp) _) (Nat.le_refl _) _) (by omega) _
  have Ha : Hid (Bx Va ga (gc va) 27) := by show Bx _ _ _ _; rw [← hV.out, ← hg1.out]; exact (Ha.out.put _).far (by omega) _
  have Har : Hid (Bx Va (ga + 1) (rc r sa) 37) := by show Bx _ _ _ _; rw [← hV.out, ← hg1.out]; exact Har.out.put _
  have HC := hide (HC.out.step BV.out)
  have HG := hide (HG.out.step BV.out)
  have HO := hide (HO.out.step BV.out)
  have OG1 := hide (OG1.out.step BV.out)
  have OR1 := hide (OR1.out.step BV.out)
  have BW := hide (BW.out.trans (BV.out.mono BW.out.size))
  clear BV
  have hV' := hV.out
  have hg' := hg1.out
  rw [hV', hg']
  clear hV hg1 hV' hg'
  go_wp2_with (first | ((with_reducible refine ldC (.tmp 3) (w.heap.size) (0) ?_ ?_ n0 e0 p0 i0 j0 ?_ ?_); (exact rfl); (exact rfl); (exact HC.out.lies)) | ((with_reducible refine ldG (.tmp 4) (w.heap.size + 1) (0) ?_ ?_ v1 ?_ ?_); (exact rfl); (exact rfl); (exact HG.out.lies)) | ((with_reducible refine ldO (.tmp 5) (w.heap.size + 2) (0) ?_ ?_ o2 ?_ ?_); (exact rfl); (exact rfl); (exact HO.out.lies)) | ((with_reducible refine ldR (.tmp 8) (ga + 1) (0) ?_ ?_ r sa ?_ ?_); (exact rfl); (exact rfl); (exact Har.out.lies)))
  refine (fits_own n0 e0 p0 i0 j0 v1 G1 R o2 r sa Va (sees_at SB.out BW.out) H140.out HWF.out OR1.out.sees MR.out hD).mono ?_
  rintro e y2 ⟨vb, rfl, hm, hb⟩
  have OG2 : Hid (Has y2 w.heap.size vb R) := hm.out.less BW.out.size
  clear hm OR1 Har
  have HC := hide (HC.out.step hb.out)
  have HG := hide (HG.out.step hb.out)
  have HO := hide (HO.out.step hb.out)
  have Ha := hide (Ha.out.step hb.out)
  have OG1 := hide (OG1.out.step hb.out)
  have BW := hide (BW.out.trans (hb.out.mono BW.out.size))
  clear hb
  have Hb : Hid (Bx (y2.alloc (.cells (#[.slice none 0 0, .slice none 0 0, .int .i64 0, .int .i64 0]) 27)) y2.heap.size (#[.slice none 0 0, .slice none 0 0, .int .i64 0, .int .i64 0]) 27) := Bx.new y2 (#[.slice none 0 0, .slice none 0 0, .int .i64 0, .int .i64 0]) 27
  go_upto_region 7 with (((with_reducible refine stG (.tmp 9) (.tmp 32) (y2.heap.size) ?_ vb ?_ (#[.slice none 0 0, .slice none 0 0, .int .i64 0, .int .i64 0]) ?_ ?_ ?_); (exact rfl); (exact rfl); (exact Hb.out); (exact rfl)))
  obtain ⟨Vb, hV⟩ : ∃ V, Hid ((y2.alloc (.cells (#[.slice none 0 0, .slice none 0 0, .int .i64 0, .int .i64 0]) 27)).setRow y2.heap.size (gc vb) = V) := ⟨_, rfl⟩
  obtain ⟨gb, hg1⟩ : ∃ g, Hid (y2.heap.size = g) := ⟨_, rfl⟩
  have BV : Hid (Below y2.heap.size y2 Vb) := by show Below _ _ _; rw [← hV.out]; exact row_below ((Below.refl _ _).alloc (Nat.le_refl _) _) (Nat.le_refl _) _
  have Hb : Hid (Bx Vb gb (gc vb) 27) := by show Bx _ _ _ _; rw [← hV.out, ← hg1.out]; exact Hb.out.put _
  have HC := hide (HC.out.step BV.out)
  have HG := hide (HG.out.step BV.out)
  have HO := hide (HO.out.step BV.out)
  have Ha := hide (Ha.out.step BV.out)
  have OG1 := hide (OG1.out.step BV.out)
  have OG2 := hide (OG2.out.step BV.out)
  have BW := hide (BW.out.trans (BV.out.mono BW.out.size))
  clear BV
  have hV' := hV.out
  have hg' := hg1.out
  rw [hV', hg']
  clear hV hg1 hV' hg'
  go_wp2_with (first | ((with_reducible refine ldC (.tmp 3) (w.heap.size) (0) ?_ ?_ n0 e0 p0 i0 j0 ?_ ?_); (exact rfl); (exact rfl); (exact HC.out.lies)) | ((with_reducible refine ldG (.tmp 4) (w.heap.size + 1) (0) ?_ ?_ v1 ?_ ?_); (exact rfl); (exact rfl); (exact HG.out.lies)) | ((with_reducible refine ldO (.tmp 5) (w.heap.size + 2) (0) ?_ ?_ o2 ?_ ?_); (exact rfl); (exact rfl); (exact HO.out.lies)))
  refine (fits_full n0 e0 p0 i0 j0 v1 G1 o2 bt Vb (sees_at SB.out BW.out) H140.out HWF.out hbt).mono ?_
  rintro e y3 ⟨vc, rfl, hm, hb⟩
  have OG3 : Hid (Has y3 w.heap.size vc G1) := hm.out.less BW.out.size
  clear hm
  have HC := hide (HC.out.step hb.out)
  have HG := hide (HG.out.step hb.out)
  have HO := hide (HO.out.step hb.out)
  have Ha := hide (Ha.out.step hb.out)
  have Hb := hide (Hb.out.step hb.out)
  have OG1 := hide (OG1.out.step hb.out)
  have OG2 := hide (OG2.out.step hb.out)
  have BW := hide (BW.out.trans (hb.out.mono BW.out.size))
  clear hb
  have Hd : Hid (Bx (y3.alloc (.cells (#[.slice none 0 0, .slice none 0 0, .int .i64 0, .int .i64 0]) 27)) y3.heap.size (#[.slice none 0 0, .slice none 0 0, .int .i64 0, .int .i64 0]) 27) := Bx.new y3 (#[.slice none 0 0, .slice none 0 0, .int .i64 0, .int .i64 0]) 27
  go_upto_region 8 with (((with_reducible refine stG (.tmp 11) (.tmp 40) (y3.heap.size) ?_ vc ?_ (#[.slice none 0 0, .slice none 0 0, .int .i64 0, .int .i64 0]) ?_ ?_ ?_); (exact rfl); (exact rfl); (exact Hd.out); (exact rfl)))
  obtain ⟨Vd, hV⟩ : ∃ V, Hid ((y3.alloc (.cells (#[.slice none 0 0, .slice none 0 0, .int .i64 0, .int .i64 0]) 27)).setRow y3.heap.size (gc vc) = V) := ⟨_, rfl⟩
  obtain ⟨gd, hg1⟩ : ∃ g, Hid (y3.heap.size = g) := ⟨_, rfl⟩
  have BV : Hid (Below y3.heap.size y3 Vd) := by show Below _ _ _; rw [← hV.out]; exact row_below ((Below.refl _ _).alloc (Nat.le_refl _) _) (Nat.le_refl _) _
  have Hd : Hid (Bx Vd gd (gc vc) 27) := by show Bx _ _ _ _; rw [← hV.out, ← hg1.out]; exact Hd.out.put _
  have HC := hide (HC.out.step BV.out)
  have HG := hide (HG.out.step BV.out)
  have HO := hide (HO.out.step BV.out)
  have Ha := hide (Ha.out.step BV.out)
  have Hb := hide (Hb.out.step BV.out)
  have OG1 := hide (OG1.out.step BV.out)
  have OG2 := hide (OG2.out.step BV.out)
  have OG3 := hide (OG3.out.step BV.out)
  have BW := hide (BW.out.trans (BV.out.mono BW.out.size))
  clear BV
  have hV' := hV.out
  have hg' := hg1.out
  rw [hV', hg']
  clear hV hg1 hV' hg'
  go_wp2_with (first | ((with_reducible refine ldG (.tmp 7) (ga) (0) ?_ ?_ va ?_ ?_); (exact rfl); (exact rfl); (exact Ha.out.lies)) | ((with_reducible refine ldG (.tmp 9) (gb) (0) ?_ ?_ vb ?_ ?_); (exact rfl); (exact rfl); (exact Hb.out.lies)))
  refine (cgraph_eq OG1.out.sees OG2.out.sees FR.out (by decide)).mono ?_
  rintro e x1 ⟨rfl, hb⟩
  have HC := hide (HC.out.step hb)
  have HG := hide (HG.out.step hb)
  have HO := hide (HO.out.step hb)
  have Ha := hide (Ha.out.step hb)
  have Hb := hide (Hb.out.step hb)
  have Hd := hide (Hd.out.step hb)
  have OG1 := hide (OG1.out.step hb)
  have OG2 := hide (OG2.out.step hb)
  have OG3 := hide (OG3.out.step hb)
  have BW := hide (BW.out.trans (hb.mono BW.out.size))
  clear hb
  go_wp2_with (first | ((with_reducible refine ldG (.tmp 11) (gd) (0) ?_ ?_ vc ?_ ?_); (exact rfl); (exact rfl); (exact Hd.out.lies)) | ((with_reducible refine ldG (.tmp 4) (w.heap.size + 1) (0) ?_ ?_ v1 ?_ ?_); (exact rfl); (exact rfl); (exact HG.out.lies)))
  refine (cgraph_eq OG3.out.sees (sees_at SB.out BW.out) HF.out (by decide)).mono ?_
  rintro e x2 ⟨rfl, hb⟩
  have HC := hide (HC.out.step hb)
  have HG := hide (HG.out.step hb)
  have HO := hide (HO.out.step hb)
  have Ha := hide (Ha.out.step hb)
  have Hb := hide (Hb.out.step hb)
  have Hd := hide (Hd.out.step hb)
  have OG1 := hide (OG1.out.step hb)
  have OG2 := hide (OG2.out.step hb)
  have OG3 := hide (OG3.out.step hb)
  have BW := hide (BW.out.trans (hb.mono BW.out.size))
  clear hb
  go_wp2_with (first | ((with_reducible refine ldC (.tmp 3) (w.heap.size) (0) ?_ ?_ n0 e0 p0 i0 j0 ?_ ?_); (exact rfl); (exact rfl); (exact HC.out.lies)) | ((with_reducible refine ldG (.tmp 4) (w.heap.size + 1) (0) ?_ ?_ v1 ?_ ?_); (exact rfl); (exact rfl); (exact HG.out.lies)) | ((with_reducible refine ldO (.tmp 5) (w.heap.size + 2) (0) ?_ ?_ o2 ?_ ?_); (exact rfl); (exact rfl); (exact HO.out.lies)))
  refine (takes_any n0 e0 p0 i0 j0 v1 G1 o2 x2 (sees_at SB.out BW.out) H140.out HWF.out).mono ?_
  rintro e x3 ⟨rfl, hb⟩
  rw [htk.out]
  have HC := hide (HC.out.step hb)
  have HG := hide (HG.out.step hb)
  have HO := hide (HO.out.step hb)
  have Ha := hide (Ha.out.step hb)
  have Hb := hide (Hb.out.step hb)
  have Hd := hide (Hd.out.step hb)
  have OG1 := hide (OG1.out.step hb)
  have OG2 := hide (OG2.out.step hb)
  have OG3 := hide (OG3.out.step hb)
  have BW := hide (BW.out.trans (hb.mono BW.out.size))
  clear hb
  have hbk' := hbk.out
  cases bt
  · have ht : tk = 0 := by simpa using hbk'
    subst ht
    go_wp2
    go_ret
    exact ⟨rfl, BW.out⟩
  · have ht : tk ≠ 0 := by simpa using hbk'
    have ht2 : (tk == 0) = false := by simpa using ht
    go_wp2
    go_ret
    exact ⟨by simp_all, BW.out⟩

set_option maxRecDepth 100000 in
theorem lifted (os : Os) (started : os.Started) (H : Type) (enc : TypeId × Value → H) :
    ReturnsInHanded {} Tryz.checked os 7 .any (Rows.applyFullSpec.pre6 enc Tryz.prog Tryz.f7 Rows.applyFullRow.domain false) (Rows.applyFullSpec.post enc Tryz.prog Tryz.f7 false true false false) := by
  refine returnsInHanded_of_change (C := Tryz.checked) own started (by kernel_rfl) Tryz.func7
    (ChangeSpec.witness6 (enc := enc) (C := Tryz.checked) false ⟨#[], #[.agg #[.int .i64 0, .int .i64 0, .int .i64 0, .int .i64 0, .int .i64 0], .agg #[.slice none 0 0, .slice none 0 0, .int .i64 0, .int .i64 0], .agg #[.int .i64 0, .int .i64 0, .int .i64 0, .int .i64 0, .int .i64 0]], []⟩ 8 (by kernel_rfl) (by kernel_rfl) (by kernel_rfl) (by kernel_rfl)) ?_
  intro W base args ds gs before hval0 hW hcnd _
  have hval : ∀ (j : Nat) t v, Tryz.f7.params[j]? = some t → args[j]? = some v → Value.okWide Tryz.prog W .any base t v := hval0
  have hW' := hW
  obtain ⟨p, q, hA0, hV, rfl, hfz, hnd⟩ := hW
  have hA : DataW.TrodAll enc Tryz.prog W 0 (fun _ => true) true Tryz.f7.params.toList args.toList ds p := hA0
  rw [Tryz.params7] at hA hval
  obtain ⟨x0, vs0, d0, ds0, p0_, q0, hargs, rfl, rfl, h0, r0_⟩ := trodAll_cons hA
  obtain ⟨x1, vs1, d1, ds1, p1_, q1, rfl, rfl, rfl, h1, r1_⟩ := trodAll_cons r0_
  obtain ⟨x2, vs2, d2, ds2, p2_, q2, rfl, rfl, rfl, h2, r2_⟩ := trodAll_cons r1_
  obtain ⟨rfl, rfl, rfl⟩ := trodAll_nil r2_
  obtain rfl : args = #[x0, x1, x2] := by cases args; simp_all
  obtain ⟨rfl, rfl⟩ := trodVars_none hV
  have lt0 : ∀ x ∈ p0_, x.block < W.heap.size := by obtain ⟨m, hm⟩ := h0; exact DataW.trod_lt m _ _ _ hm
  have lt1 : ∀ x ∈ p1_, x.block < W.heap.size := by obtain ⟨m, hm⟩ := h1; exact DataW.trod_lt m _ _ _ hm
  have lt2 : ∀ x ∈ p2_, x.block < W.heap.size := by obtain ⟨m, hm⟩ := h2; exact DataW.trod_lt m _ _ _ hm
  obtain ⟨n0, e0, p0, i0, j0, rfl⟩ := open_cfg (hval 0 23 x0 rfl rfl) h0
  obtain ⟨v1, G1, rfl, w1, s1, t1, u1, -, -⟩ := open_graph (hval 1 27 x1 rfl rfl) h1
  obtain ⟨o2, rfl, w2⟩ := open_op (hval 2 29 x2 rfl rfl) h2
  clear hA0 hval0
  refine (walk n0 e0 p0 i0 j0 v1 G1 o2 W w1 s1 t1 u1 w2).mono fun e W' ⟨he, bel⟩ => ?_
  subst he
  exact ⟨_, rfl, _, _, _, [], _, [], hW', trodAll_mk1 (shut_bool Tryz.underlying4 _), (trodAll_cons_mk (Below.trod laidOut (by kernel_rfl) (of_decide_eq_true (by kernel_rfl)) h0 bel lt0) (trodAll_cons_mk (Below.trod laidOut (by kernel_rfl) (of_decide_eq_true (by kernel_rfl)) h1 bel lt1) (trodAll_cons_mk (Below.trod laidOut (by kernel_rfl) (of_decide_eq_true (by kernel_rfl)) h2 bel lt2) trodAll_mk0))), rfl, bel.frame _, fun h => by cases h⟩

theorem over : Rows.applyFullRow.holds Tryz.pinned (OpenSpec.ofChange Rows.applyFullSpec) :=
  OpenClaim.holds_of_wide 7 Tryz.f7 rfl rfl rfl rfl rfl rfl rfl ⟨rfl, rfl, rfl, rfl, rfl⟩ rfl rfl rfl rfl rfl (by kernel_rfl) Tryz.func7 (by kernel_rfl)
    (of_decide_eq_true (by kernel_rfl)) (by unfold Func.isWrapper; first | (rw [if_pos (by decide +kernel)]; kernel_rfl) | (rw [if_neg (by decide +kernel)]; exact ⟨rfl, rfl⟩))
    (fun os started H enc _ => lifted os started H enc)

end Go.Proofs.YtiiadkjiofkonaaGreat.applyFull

namespace Go.Proofs.YtiiadkjiofkonaaGreat
/-- The statement. -/
theorem applyFull_holds : Rows.ApplyFullSaid := applyFull.over
#print axioms applyFull_holds
end Go.Proofs.YtiiadkjiofkonaaGreat
