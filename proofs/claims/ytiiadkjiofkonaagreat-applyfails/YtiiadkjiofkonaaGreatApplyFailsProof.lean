/- An operation that fails leaves the graph as it was; what it does not look at says nothing. No condition. (The statement tendrillaw11.ApplyFails.) -/
import Derived.Test.YtiiadkjiofkonaaGreatRows
import Derived.Test.YtiiadkjiofkonaaGreatAB4
import Derived.Test.YtiiadkjiofkonaaGreatAPlain
import Derived.Test.YtiiadkjiofkonaaGreatAB3
import Derived.WalkKit
import Derived.Below
import Derived.Deep.QuietTactic
import Derived.BigQuiet
import Derived.Deep.AppendLies
import Derived.Deep.RegionHeld3
import Derived.Deep.DeepCutAuto
import Derived.Shelf.Abstract
namespace Go.Proofs.YtiiadkjiofkonaaGreat.applyFails
open Go.Joins Go.ChangeShapes Go.WideShapes Go.ChangeAt Go.RowKit Go.Deep
set_option linter.unusedVariables false

set_option maxRecDepth 100000 in
set_option maxHeartbeats 16000000 in
theorem walk (n0 e0 p0 i0 j0 : Int) (v1 : Gv) (G1 : GL) (o2 : O5) (w : World) (w1 : Sees w w.heap.size v1 G1) (s1 : v1.N.n ≤ 9223372036854775807) (t1 : v1.E.n ≤ 9223372036854775807) (u1 : ∀ j, j < G1.N.length → (G1.N.getD j (0, [])).2.length ≤ 9223372036854775807) (w2 : (Lit.int .i64 o2.k).wf = true) :
    Calls Tryz.prog 6 #[.agg (fc n0 e0 p0 i0 j0), .agg (gc v1), .agg (oc o2)] w (Drew (.bool true) w) := by
  have SB := hide w1
  have HN := hide s1
  have HE := hide t1
  have HP := hide u1
  have HWF := hide w2
  clear w1 s1 t1 u1 w2
  obtain ⟨W, hW⟩ : ∃ W, Hid (((w.alloc (.cells ((fc n0 e0 p0 i0 j0)) 23)).alloc (.cells (gc v1) 27)).alloc (.cells (oc o2) 29) = W) := ⟨_, rfl⟩
  have BW : Hid (Below w.heap.size w W) := by show Below _ _ _; rw [← hW.out]; exact ((((Below.refl _ _).alloc (Nat.le_refl _) _).alloc (by simp) _).alloc (by simp; omega) _)
  have HC : Hid (Bx W (w.heap.size) ((fc n0 e0 p0 i0 j0)) 23) := by
    have h := (((Bx.new w ((fc n0 e0 p0 i0 j0)) 23).alloc (.cells (gc v1) 27)).alloc (.cells (oc o2) 29))
    show Bx _ _ _ _
    rw [← hW.out]
    simpa using h
  have HG : Hid (Bx W (w.heap.size + 1) (gc v1) 27) := by
    have h := ((Bx.new (w.alloc (.cells ((fc n0 e0 p0 i0 j0)) 23)) (gc v1) 27).alloc (.cells (oc o2) 29))
    show Bx _ _ _ _
    rw [← hW.out]
    simpa using h
  have HO : Hid (Bx W (w.heap.size + 2) (oc o2) 29) := by
    have h := (Bx.new ((w.alloc (.cells ((fc n0 e0 p0 i0 j0)) 23)).alloc (.cells (gc v1) 27)) (oc o2) 29)
    show Bx _ _ _ _
    rw [← hW.out]
    simpa using h
  go_enter Tryz.func6, Tryz.ntmps6
  go_upto_region 1 with fail
  have hW' := hW.out
  rw [hW']
  clear hW hW'
  go_wp2_with fail
  refine (alive_any W).mono ?_
  rintro e u1 ⟨rfl, hb⟩
  have HC := hide (HC.out.step hb)
  have HG := hide (HG.out.step hb)
  have HO := hide (HO.out.step hb)
  have BW := hide (BW.out.trans (hb.mono BW.out.size))
  clear hb
  go_wp2_with (first | ((with_reducible refine ldC (.tmp 3) (w.heap.size) (0) ?_ ?_ n0 e0 p0 i0 j0 ?_ ?_); (exact rfl); (exact rfl); (exact HC.out.lies)) | ((with_reducible refine ldG (.tmp 4) (w.heap.size + 1) (0) ?_ ?_ v1 ?_ ?_); (exact rfl); (exact rfl); (exact HG.out.lies)))
  obtain ⟨q, hq⟩ := bool_of (FewG G1 ∧ Okg n0 e0 p0 i0 j0 G1)
  have HQ := hide hq
  clear hq
  refine (amay_any n0 e0 p0 i0 j0 v1 G1 q u1 (sees_at SB.out BW.out) HN.out HE.out HP.out HQ).mono ?_
  rintro e u2 ⟨rfl, hb⟩
  have HC := hide (HC.out.step hb)
  have HG := hide (HG.out.step hb)
  have HO := hide (HO.out.step hb)
  have BW := hide (BW.out.trans (hb.mono BW.out.size))
  clear hb
  cases q
  · go_wp2
    go_ret
    exact ⟨rfl, BW.out⟩
  have HK : Hid (Okg n0 e0 p0 i0 j0 G1) := (HQ.out.1 rfl).2
  have HF : Hid (Few 64 G1) := HK.out.few
  have H140 : Hid (Few 140 G1) := HF.out.more (by decide)
  clear HQ HN HE HP
  obtain ⟨R, r, hD⟩ : ∃ R r, Hid (doR i0 j0 G1 o2 = (R, r)) := ⟨_, _, rfl⟩
  obtain ⟨tk, htk⟩ : ∃ t, Hid (takesR i0 j0 G1 o2 = t) := ⟨_, rfl⟩
  obtain ⟨p, is, hp⟩ : ∃ p b, Hid (plainR o2 = (p, b)) := ⟨_, _, rfl⟩
  have FR : Hid (Few 65 R) := by show Few _ _; have h := few_do (c3 := i0) (c4 := j0) (o := o2) HF.out; rw [hD.out] at h; exact h
  have MR : Hid (Most r) := by show Most _; have h := HF.out.most (c3 := i0) (c4 := j0) (o := o2) (by decide); rw [hD.out] at h; exact h
  go_wp2_with (first | ((with_reducible refine ldC (.tmp 3) (w.heap.size) (0) ?_ ?_ n0 e0 p0 i0 j0 ?_ ?_); (exact rfl); (exact rfl); (exact HC.out.lies)) | ((with_reducible refine ldG (.tmp 4) (w.heap.size + 1) (0) ?_ ?_ v1 ?_ ?_); (exact rfl); (exact rfl); (exact HG.out.lies)) | ((with_reducible refine ldO (.tmp 5) (w.heap.size + 2) (0) ?_ ?_ o2 ?_ ?_); (exact rfl); (exact rfl); (exact HO.out.lies)))
  refine (do_any n0 e0 p0 i0 j0 v1 G1 o2 u2 (sees_at SB.out BW.out) H140.out HWF.out).mono ?_
  rintro e y1 ⟨va, sa, rfl, hm, hn, hb⟩
  have OG1 : Hid (Has y1 w.heap.size va R) := by have h := hm.out; rw [hD.out] at h; exact h.less BW.out.size
  have OR1 : Hid (ROwn y1 w.heap.size sa r) := by have h := hn.out; rw [hD.out] at h; exact h.less BW.out.size
  rw [hD.out]
  clear hm hn
  have HC := hide (HC.out.step hb.out)
  have HG := hide (HG.out.step hb.out)
  have HO := hide (HO.out.step hb.out)
  have BW := hide (BW.out.trans (hb.out.mono BW.out.size))
  clear hb
  have Ha : Hid (Bx ((y1.alloc (.cells (#[.slice none 0 0, .slice none 0 0, .int .i64 0, .int .i64 0]) 27)).alloc (.cells (#[.int .i64 0, .int .i64 0, .slice none 0 0, .slice none 0 0, .slice none 0 0]) 37)) y1.heap.size (#[.slice none 0 0, .slice none 0 0, .int .i64 0, .int .i64 0]) 27) := (Bx.new y1 (#[.slice none 0 0, .slice none 0 0, .int .i64 0, .int .i64 0]) 27).alloc _
  have Har : Hid (Bx (((y1.alloc (.cells (#[.slice none 0 0, .slice none 0 0, .int .i64 0, .int .i64 0]) 27)).alloc (.cells (#[.int .i64 0, .int .i64 0, .slice none 0 0, .slice none 0 0, .slice none 0 0]) 37)).setRow y1.heap.size (gc va)) (y1.heap.size + 1) (#[.int .i64 0, .int .i64 0, .slice none 0 0, .slice none 0 0, .slice none 0 0]) 37) := by have h := Bx.new (y1.alloc (.cells (#[.slice none 0 0, .slice none 0 0, .int .i64 0, .int .i64 0]) 27)) (#[.int .i64 0, .int .i64 0, .slice none 0 0, .slice none 0 0, .slice none 0 0]) 37; exact Bx.far (by simpa using h) (by omega) _
  go_upto_region 6 with (first | ((with_reducible refine stG (.tmp 7) (.tmp 25) (y1.heap.size) ?_ va ?_ (#[.slice none 0 0, .slice none 0 0, .int .i64 0, .int .i64 0]) ?_ ?_ ?_); (exact rfl); (exact rfl); (exact Ha.out); (exact rfl)) | ((with_reducible refine stR (.tmp 8) (.tmp 26) (y1.heap.size + 1) ?_ r sa ?_ (#[.int .i64 0, .int .i64 0, .slice none 0 0, .slice none 0 0, .slice none 0 0]) ?_ ?_ ?_); (exact rfl); (exact rfl); (exact Har.out); (exact rfl)))
  obtain ⟨Va, hV⟩ : ∃ V, Hid (((((y1.alloc (.cells (#[.slice none 0 0, .slice none 0 0, .int .i64 0, .int .i64 0]) 27)).alloc (.cells (#[.int .i64 0, .int .i64 0, .slice none 0 0, .slice none 0 0, .slice none 0 0]) 37)).setRow y1.heap.size (gc va)).setRow (y1.heap.size + 1) (rc r sa)) = V) := ⟨_, rfl⟩
  obtain ⟨ga, hg1⟩ : ∃ g, Hid (y1.heap.size = g) := ⟨_, rfl⟩
  have BV : Hid (Below y1.heap.size y1 Va) := by show Below _ _ _; rw [← hV.out]; exact row_below (row_below (((Below.refl _ _).alloc (Nat.le_refl _) _).alloc (by simp) _) (Nat.le_refl _) _) (by omega) _
  have Ha : Hid (Bx Va ga (gc va) 27) := by show Bx _ _ _ _; rw [← hV.out, ← hg1.out]; exact (Ha.out.put _).far (by omega) _
  have Har : Hid (Bx Va (ga + 1) (rc r sa) 37) := by show Bx _ _ _ _; rw [← hV.out, ← hg1.out]; exact Har.out.put _
  have HC := hide (HC.out.step BV.out)
  have HG := hide (HG.out.step BV.out)
  have HO := hide (HO.out.step BV.out)
  have OG1 := hide (OG1.out.step BV.out)
  have OR1 := hide (OR1.out.step BV.out)
  have BW := hide (BW.out.trans (BV.out.mono BW.out.size))
  clear BV
  have hV' := hV.out
  have hg' := hg1.out
  rw [hV', hg']
  clear hV hg1 hV' hg'
  go_wp2_with (((with_reducible refine ldO (.tmp 5) (w.heap.size + 2) (0) ?_ ?_ o2 ?_ ?_); (exact rfl); (exact rfl); (exact HO.out.lies)))
  refine (plain_any o2 p is Va hp).mono ?_
  rintro e y2 ⟨rfl, hb⟩
  have HC := hide (HC.out.step hb)
  have HG := hide (HG.out.step hb)
  have HO := hide (HO.out.step hb)
  have Ha := hide (Ha.out.step hb)
  have Har := hide (Har.out.step hb)
  have OG1 := hide (OG1.out.step hb)
  have OR1 := hide (OR1.out.step hb)
  have BW := hide (BW.out.trans (hb.mono BW.out.size))
  clear hb
  have Hk : Hid (Bx (y2.alloc (.cells (#[.int .i64 0, .int .i64 0, .int .i64 0, .int .i64 0, .int .i64 0]) 29)) y2.heap.size (#[.int .i64 0, .int .i64 0, .int .i64 0, .int .i64 0, .int .i64 0]) 29) := Bx.new y2 (#[.int .i64 0, .int .i64 0, .int .i64 0, .int .i64 0, .int .i64 0]) 29
  go_upto_region 7 with (((with_reducible refine stO (.tmp 9) (.tmp 30) (y2.heap.size) ?_ p ?_ (#[.int .i64 0, .int .i64 0, .int .i64 0, .int .i64 0, .int .i64 0]) ?_ ?_ ?_); (exact rfl); (exact rfl); (exact Hk.out); (exact rfl)))
  obtain ⟨Vk, hV⟩ : ∃ V, Hid ((y2.alloc (.cells (#[.int .i64 0, .int .i64 0, .int .i64 0, .int .i64 0, .int .i64 0]) 29)).setRow y2.heap.size (oc p) = V) := ⟨_, rfl⟩
  obtain ⟨gk, hg1⟩ : ∃ g, Hid (y2.heap.size = g) := ⟨_, rfl⟩
  have BV : Hid (Below y2.heap.size y2 Vk) := by show Below _ _ _; rw [← hV.out]; exact row_below ((Below.refl _ _).alloc (Nat.le_refl _) _) (Nat.le_refl _) _
  have Hk : Hid (Bx Vk gk (oc p) 29) := by show Bx _ _ _ _; rw [← hV.out, ← hg1.out]; exact Hk.out.put _
  have HC := hide (HC.out.step BV.out)
  have HG := hide (HG.out.step BV.out)
  have HO := hide (HO.out.step BV.out)
  have Ha := hide (Ha.out.step BV.out)
  have Har := hide (Har.out.step BV.out)
  have OG1 := hide (OG1.out.step BV.out)
  have OR1 := hide (OR1.out.step BV.out)
  have BW := hide (BW.out.trans (BV.out.mono BW.out.size))
  clear BV
  have hV' := hV.out
  have hg' := hg1.out
  rw [hV', hg']
  clear hV hg1 hV' hg'
  cases is
  case false =>
    obtain ⟨hd1, ht1⟩ := not_plain i0 j0 G1 hp.out
    have hR : Hid (G1 = R ∧ r = ⟨1, 0, [], [], []⟩) := by have h := hD.out; rw [hd1] at h; simp only [Prod.mk.injEq] at h; exact ⟨h.1, h.2.symm⟩
    obtain ⟨hR1, hR2⟩ := hR.out
    subst hR1 hR2
    have htk0 : Hid (tk = 0) := by show _ = _; rw [← htk.out]; exact ht1
    obtain rfl := htk0.out
    clear hd1 ht1 hR htk0
    have e0 : Vk.cell? ⟨ga + 1, 0, none⟩ = some (.int .i64 1) := Har.out.cells 0
    go_wp2_with (first | ((with_reducible refine ldG (.tmp 7) (ga) (0) ?_ ?_ va ?_ ?_); (exact rfl); (exact rfl); (exact Ha.out.lies)) | ((with_reducible refine ldG (.tmp 4) (w.heap.size + 1) (0) ?_ ?_ v1 ?_ ?_); (exact rfl); (exact rfl); (exact HG.out.lies)))
    clear e0
    refine (cgraph_eq OG1.out.sees (sees_at SB.out BW.out) FR.out (by decide)).mono ?_
    rintro e x1 ⟨rfl, hb⟩
    have HC := hide (HC.out.step hb)
    have HG := hide (HG.out.step hb)
    have HO := hide (HO.out.step hb)
    have Ha := hide (Ha.out.step hb)
    have Har := hide (Har.out.step hb)
    have Hk := hide (Hk.out.step hb)
    have OG1 := hide (OG1.out.step hb)
    have OR1 := hide (OR1.out.step hb)
    have BW := hide (BW.out.trans (hb.mono BW.out.size))
    clear hb
    go_wp2_with (first | ((with_reducible refine ldC (.tmp 3) (w.heap.size) (0) ?_ ?_ n0 e0 p0 i0 j0 ?_ ?_); (exact rfl); (exact rfl); (exact HC.out.lies)) | ((with_reducible refine ldG (.tmp 4) (w.heap.size + 1) (0) ?_ ?_ v1 ?_ ?_); (exact rfl); (exact rfl); (exact HG.out.lies)) | ((with_reducible refine ldO (.tmp 5) (w.heap.size + 2) (0) ?_ ?_ o2 ?_ ?_); (exact rfl); (exact rfl); (exact HO.out.lies)))
    refine (takes_any n0 e0 p0 i0 j0 v1 G1 o2 x1 (sees_at SB.out BW.out) H140.out HWF.out).mono ?_
    rintro e x2 ⟨rfl, hb⟩
    rw [htk.out]
    have HC := hide (HC.out.step hb)
    have HG := hide (HG.out.step hb)
    have HO := hide (HO.out.step hb)
    have Ha := hide (Ha.out.step hb)
    have Har := hide (Har.out.step hb)
    have Hk := hide (Hk.out.step hb)
    have OG1 := hide (OG1.out.step hb)
    have OR1 := hide (OR1.out.step hb)
    have BW := hide (BW.out.trans (hb.mono BW.out.size))
    clear hb
    go_wp2
    go_ret
    exact ⟨rfl, BW.out⟩
  have hDp : Hid (doR i0 j0 G1 p = (R, r)) := by show _ = _; rw [plain_do i0 j0 G1 hp.out]; exact hD.out
  have htp : Hid (takesR i0 j0 G1 p = tk) := by show _ = _; rw [plain_takes i0 j0 G1 hp.out]; exact htk.out
  have HWP : Hid ((Lit.int .i64 p.k).wf = true) := by show _ = _; rw [plain_kind hp.out]; exact HWF.out
  go_wp2_with (first | ((with_reducible refine ldC (.tmp 3) (w.heap.size) (0) ?_ ?_ n0 e0 p0 i0 j0 ?_ ?_); (exact rfl); (exact rfl); (exact HC.out.lies)) | ((with_reducible refine ldG (.tmp 4) (w.heap.size + 1) (0) ?_ ?_ v1 ?_ ?_); (exact rfl); (exact rfl); (exact HG.out.lies)) | ((with_reducible refine ldO (.tmp 9) (gk) (0) ?_ ?_ p ?_ ?_); (exact rfl); (exact rfl); (exact Hk.out.lies)))
  refine (do_any n0 e0 p0 i0 j0 v1 G1 p Vk (sees_at SB.out BW.out) H140.out HWP.out).mono ?_
  rintro e y3 ⟨vb, sb, rfl, hm, hn, hb⟩
  have OG3 : Hid (Has y3 w.heap.size vb R) := by have h := hm.out; rw [hDp.out] at h; exact h.less BW.out.size
  have OR3 : Hid (ROwn y3 w.heap.size sb r) := by have h := hn.out; rw [hDp.out] at h; exact h.less BW.out.size
  rw [hDp.out]
  clear hm hn
  have HC := hide (HC.out.step hb.out)
  have HG := hide (HG.out.step hb.out)
  have HO := hide (HO.out.step hb.out)
  have Ha := hide (Ha.out.step hb.out)
  have Har := hide (Har.out.step hb.out)
  have Hk := hide (Hk.out.step hb.out)
  have OG1 := hide (OG1.out.step hb.out)
  have OR1 := hide (OR1.out.step hb.out)
  have BW := hide (BW.out.trans (hb.out.mono BW.out.size))
  clear hb
  have Hb : Hid (Bx ((y3.alloc (.cells (#[.slice none 0 0, .slice none 0 0, .int .i64 0, .int .i64 0]) 27)).alloc (.cells (#[.int .i64 0, .int .i64 0, .slice none 0 0, .slice none 0 0, .slice none 0 0]) 37)) y3.heap.size (#[.slice none 0 0, .slice none 0 0, .int .i64 0, .int .i64 0]) 27) := (Bx.new y3 (#[.slice none 0 0, .slice none 0 0, .int .i64 0, .int .i64 0]) 27).alloc _
  have Hbr : Hid (Bx (((y3.alloc (.cells (#[.slice none 0 0, .slice none 0 0, .int .i64 0, .int .i64 0]) 27)).alloc (.cells (#[.int .i64 0, .int .i64 0, .slice none 0 0, .slice none 0 0, .slice none 0 0]) 37)).setRow y3.heap.size (gc vb)) (y3.heap.size + 1) (#[.int .i64 0, .int .i64 0, .slice none 0 0, .slice none 0 0, .slice none 0 0]) 37) := by have h := Bx.new (y3.alloc (.cells (#[.slice none 0 0, .slice none 0 0, .int .i64 0, .int .i64 0]) 27)) (#[.int .i64 0, .int .i64 0, .slice none 0 0, .slice none 0 0, .slice none 0 0]) 37; exact Bx.far (by simpa using h) (by omega) _
  go_upto_region 10 with (first | ((with_reducible refine stG (.tmp 11) (.tmp 54) (y3.heap.size) ?_ vb ?_ (#[.slice none 0 0, .slice none 0 0, .int .i64 0, .int .i64 0]) ?_ ?_ ?_); (exact rfl); (exact rfl); (exact Hb.out); (exact rfl)) | ((with_reducible refine stR (.tmp 12) (.tmp 55) (y3.heap.size + 1) ?_ r sb ?_ (#[.int .i64 0, .int .i64 0, .slice none 0 0, .slice none 0 0, .slice none 0 0]) ?_ ?_ ?_); (exact rfl); (exact rfl); (exact Hbr.out); (exact rfl)))
  obtain ⟨Vb, hV⟩ : ∃ V, Hid (((((y3.alloc (.cells (#[.slice none 0 0, .slice none 0 0, .int .i64 0, .int .i64 0]) 27)).alloc (.cells (#[.int .i64 0, .int .i64 0, .slice none 0 0, .slice none 0 0, .slice none 0 0]) 37)).setRow y3.heap.size (gc vb)).setRow (y3.heap.size + 1) (rc r sb)) = V) := ⟨_, rfl⟩
  obtain ⟨gb, hg1⟩ : ∃ g, Hid (y3.heap.size = g) := ⟨_, rfl⟩
  have BV : Hid (Below y3.heap.size y3 Vb) := by show Below _ _ _; rw [← hV.out]; exact row_below (row_below (((Below.refl _ _).alloc (Nat.le_refl _) _).alloc (by simp) _) (Nat.le_refl _) _) (by omega) _
  have Hb : Hid (Bx Vb gb (gc vb) 27) := by show Bx _ _ _ _; rw [← hV.out, ← hg1.out]; exact (Hb.out.put _).far (by omega) _
  have Hbr : Hid (Bx Vb (gb + 1) (rc r sb) 37) := by show Bx _ _ _ _; rw [← hV.out, ← hg1.out]; exact Hbr.out.put _
  have HC := hide (HC.out.step BV.out)
  have HG := hide (HG.out.step BV.out)
  have HO := hide (HO.out.step BV.out)
  have Ha := hide (Ha.out.step BV.out)
  have Har := hide (Har.out.step BV.out)
  have Hk := hide (Hk.out.step BV.out)
  have OG1 := hide (OG1.out.step BV.out)
  have OR1 := hide (OR1.out.step BV.out)
  have OG3 := hide (OG3.out.step BV.out)
  have OR3 := hide (OR3.out.step BV.out)
  have BW := hide (BW.out.trans (BV.out.mono BW.out.size))
  clear BV
  have hV' := hV.out
  have hg' := hg1.out
  rw [hV', hg']
  clear hV hg1 hV' hg'
  have D0 := hide ((Below.refl Vb.heap.size Vb).drew)
  refine wp_region_held_drew (S := fun u => Below Vb.heap.size Vb u) (by kernel_rfl) D0.out (fun hS0 => ?_)
  refine wpAnyH_take (i := 0) (v := (.agg (gc va))) rfl (by kernel_rfl) (by kernel_rfl) (by kernel_rfl) (fun _ _ _ h => h) (Or.inl ⟨by kernel_rfl, fun u hu => xlG (.tmp 7) (ga) 0 rfl va (Ha.out.step hu).lies⟩) hS0 ?_
  refine wpAnyH_take (i := 1) (v := (.agg (gc vb))) rfl (by kernel_rfl) (by kernel_rfl) (by kernel_rfl) (fun _ _ _ h => h) (Or.inl ⟨by kernel_rfl, fun u hu => xlG (.tmp 11) (gb) 0 rfl vb (Hb.out.step hu).lies⟩) hS0 ?_
  refine wpAnyH_ready (rs := [2]) (by kernel_rfl) (by simp) ?_
  refine AllReadyH.cons rfl (fun K hK => ?_) AllReadyH.nil
  go_simp
  refine (cgraph_eq (OG1.out.step hS0).sees (OG3.out.step hS0).sees FR.out (by decide)).mono ?_
  rintro e x1 ⟨rfl, hb⟩
  have hS1_ : Below Vb.heap.size Vb x1 := hS0.trans (hb.mono hS0.size)
  clear hb
  refine hK.out _ _ hS1_ (fun hS1 => ?_)
  clear hK K hS1_
  refine wpAnyH_take (i := 3) (v := .bool false) rfl (by kernel_rfl) (by kernel_rfl) (by kernel_rfl) (fun _ _ _ h => h) (Or.inl ⟨by kernel_rfl, by intro u hu; go_simp⟩) hS1 ?_
  refine wpAnyH_take (i := 4) (v := .bool false) rfl (by kernel_rfl) (by kernel_rfl) (by kernel_rfl) (fun _ _ _ h => h) (Or.inl ⟨by kernel_rfl, by intro u hu; go_simp⟩) hS1 ?_
  go_simp
  refine wpAnyH_take (i := 5) (v := (.agg (rc r sa))) rfl (by kernel_rfl) (by kernel_rfl) (by kernel_rfl) (fun _ _ _ h => h) (Or.inl ⟨by kernel_rfl, fun u hu => xlR (.tmp 8) (ga + 1) 0 rfl r sa (Har.out.step hu).lies⟩) hS1 ?_
  refine wpAnyH_take (i := 6) (v := (.agg (rc r sb))) rfl (by kernel_rfl) (by kernel_rfl) (by kernel_rfl) (fun _ _ _ h => h) (Or.inl ⟨by kernel_rfl, fun u hu => xlR (.tmp 12) (gb + 1) 0 rfl r sb (Hbr.out.step hu).lies⟩) hS1 ?_
  go_simp
  refine wpAnyH_ready (rs := [7]) (by kernel_rfl) (by simp) ?_
  refine AllReadyH.cons rfl (fun K hK => ?_) AllReadyH.nil
  go_simp
  refine (asame_any r r sa sb true x1 (OR1.out.step hS1).sees (OR3.out.step hS1).sees MR.out MR.out ⟨fun _ => rfl, fun _ => rfl⟩).mono ?_
  rintro e x2 ⟨rfl, hb⟩
  have hS2_ : Below Vb.heap.size Vb x2 := hS1.trans (hb.mono hS1.size)
  clear hb
  refine hK.out _ _ hS2_ (fun hS2 => ?_)
  clear hK K hS2_
  refine wpAnyH_take (i := 8) (v := .bool false) rfl (by kernel_rfl) (by kernel_rfl) (by kernel_rfl) (fun _ _ _ h => h) (Or.inl ⟨by kernel_rfl, by intro u hu; go_simp⟩) hS2 ?_
  refine wpAnyH_take (i := 9) (v := .bool false) rfl (by kernel_rfl) (by kernel_rfl) (by kernel_rfl) (fun _ _ _ h => h) (Or.inl ⟨by kernel_rfl, by intro u hu; go_simp⟩) hS2 ?_
  refine wpAnyH_take (i := 10) (v := .bool false) rfl (by kernel_rfl) (by kernel_rfl) (by kernel_rfl) (fun _ _ _ h => h) (Or.inl ⟨by kernel_rfl, by intro u hu; go_simp⟩) hS2 ?_
  go_simp
  refine wpAnyH_take (i := 11) (v := .agg (fc n0 e0 p0 i0 j0)) rfl (by kernel_rfl) (by kernel_rfl) (by kernel_rfl) (fun _ _ _ h => h) (Or.inl ⟨by kernel_rfl, fun u hu => xlC (.tmp 3) (w.heap.size) 0 rfl n0 e0 p0 i0 j0 (HC.out.step hu).lies⟩) hS2 ?_
  refine wpAnyH_take (i := 12) (v := (.agg (gc v1))) rfl (by kernel_rfl) (by kernel_rfl) (by kernel_rfl) (fun _ _ _ h => h) (Or.inl ⟨by kernel_rfl, fun u hu => xlG (.tmp 4) (w.heap.size + 1) 0 rfl v1 (HG.out.step hu).lies⟩) hS2 ?_
  refine wpAnyH_take (i := 13) (v := (.agg (oc o2))) rfl (by kernel_rfl) (by kernel_rfl) (by kernel_rfl) (fun _ _ _ h => h) (Or.inl ⟨by kernel_rfl, fun u hu => xlO (.tmp 5) (w.heap.size + 2) 0 rfl o2 (HO.out.step hu).lies⟩) hS2 ?_
  go_simp
  refine wpAnyH_take (i := 15) (v := .agg (fc n0 e0 p0 i0 j0)) rfl (by kernel_rfl) (by kernel_rfl) (by kernel_rfl) (fun _ _ _ h => h) (Or.inl ⟨by kernel_rfl, fun u hu => xlC (.tmp 3) (w.heap.size) 0 rfl n0 e0 p0 i0 j0 (HC.out.step hu).lies⟩) hS2 ?_
  refine wpAnyH_take (i := 16) (v := (.agg (gc v1))) rfl (by kernel_rfl) (by kernel_rfl) (by kernel_rfl) (fun _ _ _ h => h) (Or.inl ⟨by kernel_rfl, fun u hu => xlG (.tmp 4) (w.heap.size + 1) 0 rfl v1 (HG.out.step hu).lies⟩) hS2 ?_
  refine wpAnyH_take (i := 17) (v := (.agg (oc p))) rfl (by kernel_rfl) (by kernel_rfl) (by kernel_rfl) (fun _ _ _ h => h) (Or.inl ⟨by kernel_rfl, fun u hu => xlO (.tmp 9) (gk) 0 rfl p (Hk.out.step hu).lies⟩) hS2 ?_
  go_simp
  refine wpAnyH_ready (rs := [14]) (by kernel_rfl) (by simp) ?_
  refine AllReadyH.cons rfl (fun K hK => ?_) AllReadyH.nil
  go_simp
  refine (takes_any n0 e0 p0 i0 j0 v1 G1 o2 x2 (sees_at SB.out (BW.out.trans (hS2.mono BW.out.size))) H140.out HWF.out).mono ?_
  rintro e x3 ⟨rfl, hb⟩
  rw [htk.out]
  have hS3_ : Below Vb.heap.size Vb x3 := hS2.trans (hb.mono hS2.size)
  clear hb
  refine hK.out _ _ hS3_ (fun hS3 => ?_)
  clear hK K hS3_
  refine wpAnyH_ready (rs := [18]) (by kernel_rfl) (by simp) ?_
  refine AllReadyH.cons rfl (fun K hK => ?_) AllReadyH.nil
  go_simp
  refine (takes_any n0 e0 p0 i0 j0 v1 G1 p x3 (sees_at SB.out (BW.out.trans (hS3.mono BW.out.size))) H140.out HWP.out).mono ?_
  rintro e x4 ⟨rfl, hb⟩
  rw [htp.out]
  have hS4_ : Below Vb.heap.size Vb x4 := hS3.trans (hb.mono hS3.size)
  clear hb
  refine hK.out _ _ hS4_ (fun hS4 => ?_)
  clear hK K hS4_
  refine wpAnyH_take (i := 19) (v := .bool false) rfl (by kernel_rfl) (by kernel_rfl) (by kernel_rfl) (fun _ _ _ h => h) (Or.inl ⟨by kernel_rfl, by intro u hu; go_simp⟩) hS4 ?_
  go_simp
  refine wpAnyH_ready (rs := [20]) (by kernel_rfl) (by simp) ?_
  refine AllReadyH.cons rfl (fun K hK => ?_) AllReadyH.nil
  go_simp
  refine hK.out _ _ hS4 (fun _ => ?_)
  clear hK K
  refine wpAnyH_done (by kernel_rfl) ?_ _
  have BX : Hid (Below Vb.heap.size Vb x4) := hS4
  have HC := hide (HC.out.step BX.out)
  have HG := hide (HG.out.step BX.out)
  have HO := hide (HO.out.step BX.out)
  have Ha := hide (Ha.out.step BX.out)
  have Har := hide (Har.out.step BX.out)
  have Hk := hide (Hk.out.step BX.out)
  have Hb := hide (Hb.out.step BX.out)
  have Hbr := hide (Hbr.out.step BX.out)
  have OG1 := hide (OG1.out.step BX.out)
  have OR1 := hide (OR1.out.step BX.out)
  have OG3 := hide (OG3.out.step BX.out)
  have OR3 := hide (OR3.out.step BX.out)
  have BW := hide (BW.out.trans (BX.out.mono BW.out.size))
  clear BX
  have hRe : Hid (r.er ≠ 0 → R = G1) := fun h => by have h1 := do_fails i0 j0 G1 o2 (by rw [hD.out]; exact h); rw [hD.out] at h1; exact h1
  have hRk : Hid (o2.k = 6 ∨ o2.k = 7 → R = G1) := fun h => by have h1 := do_reads i0 j0 G1 o2 h; rw [hD.out] at h1; exact h1
  by_cases hk : o2.k = 6
  case pos =>
    by_cases her : r.er = 0
    case pos =>
      have e0 : x4.cell? ⟨w.heap.size + 2, 0, none⟩ = some (.int .i64 6) := by rw [← hk]; exact HO.out.cells 0
      have e1 : x4.cell? ⟨ga + 1, 0, none⟩ = some (.int .i64 0) := by rw [← her]; exact Har.out.cells 0
      obtain rfl : R = G1 := hRk.out (Or.inl hk)
      clear hk her hRe hRk
      go_wp2_with (first | ((with_reducible refine ldG (.tmp 7) (ga) (0) ?_ ?_ va ?_ ?_); (exact rfl); (exact rfl); (exact Ha.out.lies)) | ((with_reducible refine ldG (.tmp 4) (w.heap.size + 1) (0) ?_ ?_ v1 ?_ ?_); (exact rfl); (exact rfl); (exact HG.out.lies)))
      refine (cgraph_eq OG1.out.sees (sees_at SB.out BW.out) FR.out (by decide)).mono ?_
      rintro e x9 ⟨rfl, hb⟩
      have HC := hide (HC.out.step hb)
      have HG := hide (HG.out.step hb)
      have HO := hide (HO.out.step hb)
      have Ha := hide (Ha.out.step hb)
      have Har := hide (Har.out.step hb)
      have Hk := hide (Hk.out.step hb)
      have Hb := hide (Hb.out.step hb)
      have Hbr := hide (Hbr.out.step hb)
      have OG1 := hide (OG1.out.step hb)
      have OR1 := hide (OR1.out.step hb)
      have OG3 := hide (OG3.out.step hb)
      have OR3 := hide (OR3.out.step hb)
      have BW := hide (BW.out.trans (hb.mono BW.out.size))
      clear hb
      go_wp2
      go_ret
      exact ⟨rfl, BW.out⟩
    have e0 : x4.cell? ⟨w.heap.size + 2, 0, none⟩ = some (.int .i64 6) := by rw [← hk]; exact HO.out.cells 0
    have e1 : x4.cell? ⟨ga + 1, 0, none⟩ = some (.int .i64 r.er) := Har.out.cells 0
    obtain rfl : R = G1 := hRk.out (Or.inl hk)
    have t0 : (r.er == 0) = false := by simpa using her
    clear hk her hRe hRk
    go_wp2_with (first | ((with_reducible refine ldG (.tmp 7) (ga) (0) ?_ ?_ va ?_ ?_); (exact rfl); (exact rfl); (exact Ha.out.lies)) | ((with_reducible refine ldG (.tmp 4) (w.heap.size + 1) (0) ?_ ?_ v1 ?_ ?_); (exact rfl); (exact rfl); (exact HG.out.lies)))
    refine (cgraph_eq OG1.out.sees (sees_at SB.out BW.out) FR.out (by decide)).mono ?_
    rintro e x9 ⟨rfl, hb⟩
    have HC := hide (HC.out.step hb)
    have HG := hide (HG.out.step hb)
    have HO := hide (HO.out.step hb)
    have Ha := hide (Ha.out.step hb)
    have Har := hide (Har.out.step hb)
    have Hk := hide (Hk.out.step hb)
    have Hb := hide (Hb.out.step hb)
    have Hbr := hide (Hbr.out.step hb)
    have OG1 := hide (OG1.out.step hb)
    have OR1 := hide (OR1.out.step hb)
    have OG3 := hide (OG3.out.step hb)
    have OR3 := hide (OR3.out.step hb)
    have BW := hide (BW.out.trans (hb.mono BW.out.size))
    clear hb
    go_wp2
    go_ret
    exact ⟨rfl, BW.out⟩
  have t6 : (o2.k == 6) = false := by simpa using hk
  clear hk
  by_cases hk : o2.k = 7
  case pos =>
    by_cases her : r.er = 0
    case pos =>
      have e0 : x4.cell? ⟨w.heap.size + 2, 0, none⟩ = some (.int .i64 7) := by rw [← hk]; exact HO.out.cells 0
      have e1 : x4.cell? ⟨ga + 1, 0, none⟩ = some (.int .i64 0) := by rw [← her]; exact Har.out.cells 0
      obtain rfl : R = G1 := hRk.out (Or.inr hk)
      clear hk her hRe hRk
      go_wp2_with (first | ((with_reducible refine ldG (.tmp 7) (ga) (0) ?_ ?_ va ?_ ?_); (exact rfl); (exact rfl); (exact Ha.out.lies)) | ((with_reducible refine ldG (.tmp 4) (w.heap.size + 1) (0) ?_ ?_ v1 ?_ ?_); (exact rfl); (exact rfl); (exact HG.out.lies)))
      refine (cgraph_eq OG1.out.sees (sees_at SB.out BW.out) FR.out (by decide)).mono ?_
      rintro e x9 ⟨rfl, hb⟩
      have HC := hide (HC.out.step hb)
      have HG := hide (HG.out.step hb)
      have HO := hide (HO.out.step hb)
      have Ha := hide (Ha.out.step hb)
      have Har := hide (Har.out.step hb)
      have Hk := hide (Hk.out.step hb)
      have Hb := hide (Hb.out.step hb)
      have Hbr := hide (Hbr.out.step hb)
      have OG1 := hide (OG1.out.step hb)
      have OR1 := hide (OR1.out.step hb)
      have OG3 := hide (OG3.out.step hb)
      have OR3 := hide (OR3.out.step hb)
      have BW := hide (BW.out.trans (hb.mono BW.out.size))
      clear hb
      go_wp2
      go_ret
      exact ⟨rfl, BW.out⟩
    have e0 : x4.cell? ⟨w.heap.size + 2, 0, none⟩ = some (.int .i64 7) := by rw [← hk]; exact HO.out.cells 0
    have e1 : x4.cell? ⟨ga + 1, 0, none⟩ = some (.int .i64 r.er) := Har.out.cells 0
    obtain rfl : R = G1 := hRk.out (Or.inr hk)
    have t0 : (r.er == 0) = false := by simpa using her
    clear hk her hRe hRk
    go_wp2_with (first | ((with_reducible refine ldG (.tmp 7) (ga) (0) ?_ ?_ va ?_ ?_); (exact rfl); (exact rfl); (exact Ha.out.lies)) | ((with_reducible refine ldG (.tmp 4) (w.heap.size + 1) (0) ?_ ?_ v1 ?_ ?_); (exact rfl); (exact rfl); (exact HG.out.lies)))
    refine (cgraph_eq OG1.out.sees (sees_at SB.out BW.out) FR.out (by decide)).mono ?_
    rintro e x9 ⟨rfl, hb⟩
    have HC := hide (HC.out.step hb)
    have HG := hide (HG.out.step hb)
    have HO := hide (HO.out.step hb)
    have Ha := hide (Ha.out.step hb)
    have Har := hide (Har.out.step hb)
    have Hk := hide (Hk.out.step hb)
    have Hb := hide (Hb.out.step hb)
    have Hbr := hide (Hbr.out.step hb)
    have OG1 := hide (OG1.out.step hb)
    have OR1 := hide (OR1.out.step hb)
    have OG3 := hide (OG3.out.step hb)
    have OR3 := hide (OR3.out.step hb)
    have BW := hide (BW.out.trans (hb.mono BW.out.size))
    clear hb
    go_wp2
    go_ret
    exact ⟨rfl, BW.out⟩
  have t7 : (o2.k == 7) = false := by simpa using hk
  clear hk
  by_cases her : r.er = 0
  case pos =>
    have e0 : x4.cell? ⟨w.heap.size + 2, 0, none⟩ = some (.int .i64 o2.k) := HO.out.cells 0
    have e1 : x4.cell? ⟨ga + 1, 0, none⟩ = some (.int .i64 0) := by rw [← her]; exact Har.out.cells 0
    clear her hRe hRk
    go_wp2
    go_ret
    exact ⟨rfl, BW.out⟩
  have e0 : x4.cell? ⟨w.heap.size + 2, 0, none⟩ = some (.int .i64 o2.k) := HO.out.cells 0
  have e1 : x4.cell? ⟨ga + 1, 0, none⟩ = some (.int .i64 r.er) := Har.out.cells 0
  obtain rfl : R = G1 := hRe.out her
  have t0 : (r.er == 0) = false := by simpa using her
  clear her hRe hRk
  go_wp2_with (first | ((with_reducible refine ldG (.tmp 7) (ga) (0) ?_ ?_ va ?_ ?_); (exact rfl); (exact rfl); (exact Ha.out.lies)) | ((with_reducible refine ldG (.tmp 4) (w.heap.size + 1) (0) ?_ ?_ v1 ?_ ?_); (exact rfl); (exact rfl); (exact HG.out.lies)))
  refine (cgraph_eq OG1.out.sees (sees_at SB.out BW.out) FR.out (by decide)).mono ?_
  rintro e x9 ⟨rfl, hb⟩
  have HC := hide (HC.out.step hb)
  have HG := hide (HG.out.step hb)
  have HO := hide (HO.out.step hb)
  have Ha := hide (Ha.out.step hb)
  have Har := hide (Har.out.step hb)
  have Hk := hide (Hk.out.step hb)
  have Hb := hide (Hb.out.step hb)
  have Hbr := hide (Hbr.out.step hb)
  have OG1 := hide (OG1.out.step hb)
  have OR1 := hide (OR1.out.step hb)
  have OG3 := hide (OG3.out.step hb)
  have OR3 := hide (OR3.out.step hb)
  have BW := hide (BW.out.trans (hb.mono BW.out.size))
  clear hb
  go_wp2
  go_ret
  exact ⟨rfl, BW.out⟩

set_option maxRecDepth 100000 in
theorem lifted (os : Os) (started : os.Started) (H : Type) (enc : TypeId × Value → H) :
    ReturnsInHanded {} Tryz.checked os 6 .any (Rows.applyFailsSpec.pre6 enc Tryz.prog Tryz.f6 Rows.applyFailsRow.domain false) (Rows.applyFailsSpec.post enc Tryz.prog Tryz.f6 false true false false) := by
  refine returnsInHanded_of_change (C := Tryz.checked) own started (by kernel_rfl) Tryz.func6
    (ChangeSpec.witness6 (enc := enc) (C := Tryz.checked) false ⟨#[], #[.agg #[.int .i64 0, .int .i64 0, .int .i64 0, .int .i64 0, .int .i64 0], .agg #[.slice none 0 0, .slice none 0 0, .int .i64 0, .int .i64 0], .agg #[.int .i64 0, .int .i64 0, .int .i64 0, .int .i64 0, .int .i64 0]], []⟩ 8 (by kernel_rfl) (by kernel_rfl) (by kernel_rfl) (by kernel_rfl)) ?_
  intro W base args ds gs before hval0 hW hcnd _
  have hval : ∀ (j : Nat) t v, Tryz.f6.params[j]? = some t → args[j]? = some v → Value.okWide Tryz.prog W .any base t v := hval0
  have hW' := hW
  obtain ⟨p, q, hA0, hV, rfl, hfz, hnd⟩ := hW
  have hA : DataW.TrodAll enc Tryz.prog W 0 (fun _ => true) true Tryz.f6.params.toList args.toList ds p := hA0
  rw [Tryz.params6] at hA hval
  obtain ⟨x0, vs0, d0, ds0, p0_, q0, hargs, rfl, rfl, h0, r0_⟩ := trodAll_cons hA
  obtain ⟨x1, vs1, d1, ds1, p1_, q1, rfl, rfl, rfl, h1, r1_⟩ := trodAll_cons r0_
  obtain ⟨x2, vs2, d2, ds2, p2_, q2, rfl, rfl, rfl, h2, r2_⟩ := trodAll_cons r1_
  obtain ⟨rfl, rfl, rfl⟩ := trodAll_nil r2_
  obtain rfl : args = #[x0, x1, x2] := by cases args; simp_all
  obtain ⟨rfl, rfl⟩ := trodVars_none hV
  have lt0 : ∀ x ∈ p0_, x.block < W.heap.size := by obtain ⟨m, hm⟩ := h0; exact DataW.trod_lt m _ _ _ hm
  have lt1 : ∀ x ∈ p1_, x.block < W.heap.size := by obtain ⟨m, hm⟩ := h1; exact DataW.trod_lt m _ _ _ hm
  have lt2 : ∀ x ∈ p2_, x.block < W.heap.size := by obtain ⟨m, hm⟩ := h2; exact DataW.trod_lt m _ _ _ hm
  obtain ⟨n0, e0, p0, i0, j0, rfl⟩ := open_cfg (hval 0 23 x0 rfl rfl) h0
  obtain ⟨v1, G1, rfl, w1, s1, t1, u1, -, -⟩ := open_graph (hval 1 27 x1 rfl rfl) h1
  obtain ⟨o2, rfl, w2⟩ := open_op (hval 2 29 x2 rfl rfl) h2
  clear hA0 hval0
  refine (walk n0 e0 p0 i0 j0 v1 G1 o2 W w1 s1 t1 u1 w2).mono fun e W' ⟨he, bel⟩ => ?_
  subst he
  exact ⟨_, rfl, _, _, _, [], _, [], hW', trodAll_mk1 (shut_bool Tryz.underlying4 _), (trodAll_cons_mk (Below.trod laidOut (by kernel_rfl) (of_decide_eq_true (by kernel_rfl)) h0 bel lt0) (trodAll_cons_mk (Below.trod laidOut (by kernel_rfl) (of_decide_eq_true (by kernel_rfl)) h1 bel lt1) (trodAll_cons_mk (Below.trod laidOut (by kernel_rfl) (of_decide_eq_true (by kernel_rfl)) h2 bel lt2) trodAll_mk0))), rfl, bel.frame _, fun h => by cases h⟩

theorem over : Rows.applyFailsRow.holds Tryz.pinned (OpenSpec.ofChange Rows.applyFailsSpec) :=
  OpenClaim.holds_of_wide 6 Tryz.f6 rfl rfl rfl rfl rfl rfl rfl ⟨rfl, rfl, rfl, rfl, rfl⟩ rfl rfl rfl rfl rfl (by kernel_rfl) Tryz.func6 (by kernel_rfl)
    (of_decide_eq_true (by kernel_rfl)) (by unfold Func.isWrapper; first | (rw [if_pos (by decide +kernel)]; kernel_rfl) | (rw [if_neg (by decide +kernel)]; exact ⟨rfl, rfl⟩))
    (fun os started H enc _ => lifted os started H enc)

end Go.Proofs.YtiiadkjiofkonaaGreat.applyFails

namespace Go.Proofs.YtiiadkjiofkonaaGreat
/-- The statement. -/
theorem applyFails_holds : Rows.ApplyFailsSaid := applyFails.over
#print axioms applyFails_holds
end Go.Proofs.YtiiadkjiofkonaaGreat
