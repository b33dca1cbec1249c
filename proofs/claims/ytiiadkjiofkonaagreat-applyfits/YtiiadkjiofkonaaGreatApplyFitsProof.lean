/- Whether any result can be that of any operation, and of any two whether they are the same: the code and the document. No condition. (The statement tendrillaw11.ApplyFits.) -/
import Derived.Test.YtiiadkjiofkonaaGreatRows
import Derived.Test.YtiiadkjiofkonaaGreatAB4
import Derived.Test.YtiiadkjiofkonaaGreatAB10
import Derived.WalkKit
import Derived.Below
import Derived.Deep.QuietTactic
import Derived.BigQuiet
import Derived.Deep.AppendLies
import Derived.Deep.RegionHeld3
import Derived.Deep.DeepCutAuto
import Derived.Shelf.Abstract
namespace Go.Proofs.YtiiadkjiofkonaaGreat.applyFits
open Go.Joins Go.ChangeShapes Go.WideShapes Go.ChangeAt Go.RowKit Go.Deep
set_option linter.unusedVariables false

set_option maxRecDepth 100000 in
set_option maxHeartbeats 16000000 in
theorem walk (n0 e0 p0 i0 j0 : Int) (v1 : Gv) (G1 : GL) (o2 : O5) (r3 : RL) (z3 : S3) (r4 : RL) (z4 : S3) (w : World) (w1 : Sees w w.heap.size v1 G1) (s1 : v1.N.n ≤ 9223372036854775807) (t1 : v1.E.n ≤ 9223372036854775807) (u1 : ∀ j, j < G1.N.length → (G1.N.getD j (0, [])).2.length ≤ 9223372036854775807) (w2 : (Lit.int .i64 o2.k).wf = true) (w3 : RSee w w.heap.size z3 r3) (u3 : MostL r3) (w4 : RSee w w.heap.size z4 r4) (u4 : MostL r4) :
    Calls Tryz.prog 4 #[.agg (fc n0 e0 p0 i0 j0), .agg (gc v1), .agg (oc o2), .agg (rc r3 z3), .agg (rc r4 z4)] w (Drew (.bool true) w) := by
  have SB := hide w1
  have HN := hide s1
  have HE := hide t1
  have HP := hide u1
  have HWF := hide w2
  clear w1 s1 t1 u1 w2
  have S3 := hide w3
  have S4 := hide w4
  clear w3 u3 w4 u4
  obtain ⟨W, hW⟩ : ∃ W, Hid (((((w.alloc (.cells ((fc n0 e0 p0 i0 j0)) 23)).alloc (.cells (gc v1) 27)).alloc (.cells (oc o2) 29)).alloc (.cells (rc r3 z3) 37)).alloc (.cells (rc r4 z4) 37) = W) := ⟨_, rfl⟩
  have BW : Hid (Below w.heap.size w W) := by show Below _ _ _; rw [← hW.out]; exact ((((((Below.refl _ _).alloc (Nat.le_refl _) _).alloc (by simp) _).alloc (by simp; omega) _).alloc (by simp; omega) _).alloc (by simp; omega) _)
  have HC : Hid (Bx W (w.heap.size) ((fc n0 e0 p0 i0 j0)) 23) := by
    have h := (((((Bx.new w ((fc n0 e0 p0 i0 j0)) 23).alloc (.cells (gc v1) 27)).alloc (.cells (oc o2) 29)).alloc (.cells (rc r3 z3) 37)).alloc (.cells (rc r4 z4) 37))
    show Bx _ _ _ _
    rw [← hW.out]
    simpa using h
  have HG : Hid (Bx W (w.heap.size + 1) (gc v1) 27) := by
    have h := ((((Bx.new (w.alloc (.cells ((fc n0 e0 p0 i0 j0)) 23)) (gc v1) 27).alloc (.cells (oc o2) 29)).alloc (.cells (rc r3 z3) 37)).alloc (.cells (rc r4 z4) 37))
    show Bx _ _ _ _
    rw [← hW.out]
    simpa using h
  have HO : Hid (Bx W (w.heap.size + 2) (oc o2) 29) := by
    have h := (((Bx.new ((w.alloc (.cells ((fc n0 e0 p0 i0 j0)) 23)).alloc (.cells (gc v1) 27)) (oc o2) 29).alloc (.cells (rc r3 z3) 37)).alloc (.cells (rc r4 z4) 37))
    show Bx _ _ _ _
    rw [← hW.out]
    simpa using h
  have HR : Hid (Bx W (w.heap.size + 3) (rc r3 z3) 37) := by
    have h := ((Bx.new (((w.alloc (.cells ((fc n0 e0 p0 i0 j0)) 23)).alloc (.cells (gc v1) 27)).alloc (.cells (oc o2) 29)) (rc r3 z3) 37).alloc (.cells (rc r4 z4) 37))
    show Bx _ _ _ _
    rw [← hW.out]
    simpa using h
  have HS : Hid (Bx W (w.heap.size + 4) (rc r4 z4) 37) := by
    have h := (Bx.new ((((w.alloc (.cells ((fc n0 e0 p0 i0 j0)) 23)).alloc (.cells (gc v1) 27)).alloc (.cells (oc o2) 29)).alloc (.cells (rc r3 z3) 37)) (rc r4 z4) 37)
    show Bx _ _ _ _
    rw [← hW.out]
    simpa using h
  go_enter Tryz.func4, Tryz.ntmps4
  go_upto_region 1 with fail
  have hW' := hW.out
  rw [hW']
  clear hW hW'
  go_wp2_with fail
  refine (alive_any W).mono ?_
  rintro e u1 ⟨rfl, hb⟩
  have HC := hide (HC.out.step hb)
  have HG := hide (HG.out.step hb)
  have HO := hide (HO.out.step hb)
  have HR := hide (HR.out.step hb)
  have HS := hide (HS.out.step hb)
  have BW := hide (BW.out.trans (hb.mono BW.out.size))
  clear hb
  go_wp2_with (first | ((with_reducible refine ldC (.tmp 5) (w.heap.size) (0) ?_ ?_ n0 e0 p0 i0 j0 ?_ ?_); (exact rfl); (exact rfl); (exact HC.out.lies)) | ((with_reducible refine ldG (.tmp 6) (w.heap.size + 1) (0) ?_ ?_ v1 ?_ ?_); (exact rfl); (exact rfl); (exact HG.out.lies)))
  obtain ⟨q, hq⟩ := bool_of (FewG G1 ∧ Okg n0 e0 p0 i0 j0 G1)
  have HQ := hide hq
  clear hq
  refine (amay_any n0 e0 p0 i0 j0 v1 G1 q u1 (sees_at SB.out BW.out) HN.out HE.out HP.out HQ).mono ?_
  rintro e u2 ⟨rfl, hb⟩
  have HC := hide (HC.out.step hb)
  have HG := hide (HG.out.step hb)
  have HO := hide (HO.out.step hb)
  have HR := hide (HR.out.step hb)
  have HS := hide (HS.out.step hb)
  have BW := hide (BW.out.trans (hb.mono BW.out.size))
  clear hb
  cases q
  · go_wp2
    go_ret
    exact ⟨rfl, BW.out⟩
  have HK : Hid (Okg n0 e0 p0 i0 j0 G1) := (HQ.out.1 rfl).2
  have HF : Hid (Few 64 G1) := HK.out.few
  have H140 : Hid (Few 140 G1) := HF.out.more (by decide)
  clear HQ HN HE HP
  obtain ⟨f3, hf3'⟩ := bool_of (r3.P.length ≤ 100 ∧ r3.O.length ≤ 100 ∧ r3.I.length ≤ 100)
  have hf3 := hide hf3'
  clear hf3'
  go_wp2_with (((with_reducible refine ldR (.tmp 8) (w.heap.size + 3) (0) ?_ ?_ r3 z3 ?_ ?_); (exact rfl); (exact rfl); (exact HR.out.lies)))
  refine (fewr_any r3 z3 f3 u2 ((S3.out.below BW.out (Nat.le_refl _)).more (BW.out).size) hf3).mono ?_
  rintro e k1 ⟨rfl, hb⟩
  have HC := hide (HC.out.step hb)
  have HG := hide (HG.out.step hb)
  have HO := hide (HO.out.step hb)
  have HR := hide (HR.out.step hb)
  have HS := hide (HS.out.step hb)
  have BW := hide (BW.out.trans (hb.mono BW.out.size))
  clear hb
  cases f3
  · go_wp2
    go_ret
    exact ⟨rfl, BW.out⟩
  have M3 : Hid (Most r3) := by have h := hf3.out.1 rfl; exact ⟨by omega, by omega, by omega⟩
  clear hf3
  obtain ⟨f4, hf4'⟩ := bool_of (r4.P.length ≤ 100 ∧ r4.O.length ≤ 100 ∧ r4.I.length ≤ 100)
  have hf4 := hide hf4'
  clear hf4'
  go_wp2_with (((with_reducible refine ldR (.tmp 9) (w.heap.size + 4) (0) ?_ ?_ r4 z4 ?_ ?_); (exact rfl); (exact rfl); (exact HS.out.lies)))
  refine (fewr_any r4 z4 f4 k1 ((S4.out.below BW.out (Nat.le_refl _)).more (BW.out).size) hf4).mono ?_
  rintro e k2 ⟨rfl, hb⟩
  have HC := hide (HC.out.step hb)
  have HG := hide (HG.out.step hb)
  have HO := hide (HO.out.step hb)
  have HR := hide (HR.out.step hb)
  have HS := hide (HS.out.step hb)
  have BW := hide (BW.out.trans (hb.mono BW.out.size))
  clear hb
  cases f4
  · go_wp2
    go_ret
    exact ⟨rfl, BW.out⟩
  have M4 : Hid (Most r4) := by have h := hf4.out.1 rfl; exact ⟨by omega, by omega, by omega⟩
  clear hf4
  obtain ⟨q0, hq0'⟩ := bool_of (r3 = (doR i0 j0 G1 o2).2)
  obtain ⟨f0, hf0'⟩ := bool_of (r3 = full)
  obtain ⟨b, hb0⟩ : ∃ b, Hid ((q0 || (f0 && (takesR i0 j0 G1 o2 != 0))) = b) := ⟨_, rfl⟩
  obtain ⟨R, hR⟩ : ∃ R, Hid (pickG q0 (doR i0 j0 G1 o2).1 G1 = R) := ⟨_, rfl⟩
  obtain ⟨q2, hq2'⟩ := bool_of (r3 = r4)
  have hq0 := hide hq0'
  have hf0 := hide hf0'
  have hq2 := hide hq2'
  clear hq0' hf0' hq2'
  have FR : Hid (Few 65 R) := by
    show Few _ _
    rw [← hR.out]
    cases q0
    · exact HF.out.more (by decide)
    · exact few_do (c3 := i0) (c4 := j0) (o := o2) HF.out
  go_wp2_with (first | ((with_reducible refine ldC (.tmp 5) (w.heap.size) (0) ?_ ?_ n0 e0 p0 i0 j0 ?_ ?_); (exact rfl); (exact rfl); (exact HC.out.lies)) | ((with_reducible refine ldG (.tmp 6) (w.heap.size + 1) (0) ?_ ?_ v1 ?_ ?_); (exact rfl); (exact rfl); (exact HG.out.lies)) | ((with_reducible refine ldO (.tmp 7) (w.heap.size + 2) (0) ?_ ?_ o2 ?_ ?_); (exact rfl); (exact rfl); (exact HO.out.lies)) | ((with_reducible refine ldR (.tmp 8) (w.heap.size + 3) (0) ?_ ?_ r3 z3 ?_ ?_); (exact rfl); (exact rfl); (exact HR.out.lies)))
  refine (fits_w n0 e0 p0 i0 j0 v1 G1 R o2 r3 z3 q0 f0 b k2 (sees_at SB.out BW.out) H140.out HWF.out ((S3.out.below BW.out (Nat.le_refl _)).more (BW.out).size) M3.out hq0 hf0 hb0 hR).mono ?_
  rintro e y1 ⟨va, rfl, hm, hb⟩
  have OG1 : Hid (Has y1 w.heap.size va R) := hm.out.less BW.out.size
  clear hm
  have HC := hide (HC.out.step hb.out)
  have HG := hide (HG.out.step hb.out)
  have HO := hide (HO.out.step hb.out)
  have HR := hide (HR.out.step hb.out)
  have HS := hide (HS.out.step hb.out)
  have BW := hide (BW.out.trans (hb.out.mono BW.out.size))
  clear hb
  have Ha : Hid (Bx (y1.alloc (.cells (#[.slice none 0 0, .slice none 0 0, .int .i64 0, .int .i64 0]) 27)) y1.heap.size (#[.slice none 0 0, .slice none 0 0, .int .i64 0, .int .i64 0]) 27) := Bx.new y1 (#[.slice none 0 0, .slice none 0 0, .int .i64 0, .int .i64 0]) 27
  go_upto_region 6 with (((with_reducible refine stG (.tmp 11) (.tmp 37) (y1.heap.size) ?_ va ?_ (#[.slice none 0 0, .slice none 0 0, .int .i64 0, .int .i64 0]) ?_ ?_ ?_); (exact rfl); (exact rfl); (exact Ha.out); (exact rfl)))
  obtain ⟨Va, hV⟩ : ∃ V, Hid ((y1.alloc (.cells (#[.slice none 0 0, .slice none 0 0, .int .i64 0, .int .i64 0]) 27)).setRow y1.heap.size (gc va) = V) := ⟨_, rfl⟩
  obtain ⟨ga, hg1⟩ : ∃ g, Hid (y1.heap.size = g) := ⟨_, rfl⟩
  have BV : Hid (Below y1.heap.size y1 Va) := by show Below _ _ _; rw [← hV.out]; exact row_below ((Below.refl _ _).alloc (Nat.le_refl _) _) (Nat.le_refl _) _
  have Ha : Hid (Bx Va ga (gc va) 27) := by show Bx _ _ _ _; rw [← hV.out, ← hg1.out]; exact Ha.out.put _
  have HC := hide (HC.out.step BV.out)
  have HG := hide (HG.out.step BV.out)
  have HO := hide (HO.out.step BV.out)
  have HR := hide (HR.out.step BV.out)
  have HS := hide (HS.out.step BV.out)
  have OG1 := hide (OG1.out.step BV.out)
  have BW := hide (BW.out.trans (BV.out.mono BW.out.size))
  clear BV
  have hV' := hV.out
  have hg' := hg1.out
  rw [hV', hg']
  clear hV hg1 hV' hg'
  go_wp2_with (first | ((with_reducible refine ldC (.tmp 5) (w.heap.size) (0) ?_ ?_ n0 e0 p0 i0 j0 ?_ ?_); (exact rfl); (exact rfl); (exact HC.out.lies)) | ((with_reducible refine ldG (.tmp 6) (w.heap.size + 1) (0) ?_ ?_ v1 ?_ ?_); (exact rfl); (exact rfl); (exact HG.out.lies)) | ((with_reducible refine ldO (.tmp 7) (w.heap.size + 2) (0) ?_ ?_ o2 ?_ ?_); (exact rfl); (exact rfl); (exact HO.out.lies)) | ((with_reducible refine ldR (.tmp 8) (w.heap.size + 3) (0) ?_ ?_ r3 z3 ?_ ?_); (exact rfl); (exact rfl); (exact HR.out.lies)))
  refine (rfits_w n0 e0 p0 i0 j0 v1 G1 R o2 r3 z3 q0 f0 b Va (sees_at SB.out BW.out) H140.out HWF.out ((S3.out.below BW.out (Nat.le_refl _)).more (BW.out).size) M3.out hq0 hf0 hb0 hR).mono ?_
  rintro e y2 ⟨vb, rfl, hm, hb⟩
  have OG2 : Hid (Has y2 w.heap.size vb R) := hm.out.less BW.out.size
  clear hm
  have HC := hide (HC.out.step hb.out)
  have HG := hide (HG.out.step hb.out)
  have HO := hide (HO.out.step hb.out)
  have HR := hide (HR.out.step hb.out)
  have HS := hide (HS.out.step hb.out)
  have Ha := hide (Ha.out.step hb.out)
  have OG1 := hide (OG1.out.step hb.out)
  have BW := hide (BW.out.trans (hb.out.mono BW.out.size))
  clear hb
  have Hb : Hid (Bx (y2.alloc (.cells (#[.slice none 0 0, .slice none 0 0, .int .i64 0, .int .i64 0]) 27)) y2.heap.size (#[.slice none 0 0, .slice none 0 0, .int .i64 0, .int .i64 0]) 27) := Bx.new y2 (#[.slice none 0 0, .slice none 0 0, .int .i64 0, .int .i64 0]) 27
  go_upto_region 7 with (((with_reducible refine stG (.tmp 13) (.tmp 45) (y2.heap.size) ?_ vb ?_ (#[.slice none 0 0, .slice none 0 0, .int .i64 0, .int .i64 0]) ?_ ?_ ?_); (exact rfl); (exact rfl); (exact Hb.out); (exact rfl)))
  obtain ⟨Vb, hV⟩ : ∃ V, Hid ((y2.alloc (.cells (#[.slice none 0 0, .slice none 0 0, .int .i64 0, .int .i64 0]) 27)).setRow y2.heap.size (gc vb) = V) := ⟨_, rfl⟩
  obtain ⟨gb, hg1⟩ : ∃ g, Hid (y2.heap.size = g) := ⟨_, rfl⟩
  have BV : Hid (Below y2.heap.size y2 Vb) := by show Below _ _ _; rw [← hV.out]; exact row_below ((Below.refl _ _).alloc (Nat.le_refl _) _) (Nat.le_refl _) _
  have Hb : Hid (Bx Vb gb (gc vb) 27) := by show Bx _ _ _ _; rw [← hV.out, ← hg1.out]; exact Hb.out.put _
  have HC := hide (HC.out.step BV.out)
  have HG := hide (HG.out.step BV.out)
  have HO := hide (HO.out.step BV.out)
  have HR := hide (HR.out.step BV.out)
  have HS := hide (HS.out.step BV.out)
  have Ha := hide (Ha.out.step BV.out)
  have OG1 := hide (OG1.out.step BV.out)
  have OG2 := hide (OG2.out.step BV.out)
  have BW := hide (BW.out.trans (BV.out.mono BW.out.size))
  clear BV
  have hV' := hV.out
  have hg' := hg1.out
  rw [hV', hg']
  clear hV hg1 hV' hg'
  have D0 := hide ((Below.refl Vb.heap.size Vb).drew)
  refine wp_region_held_drew (S := fun u => Below Vb.heap.size Vb u) (by kernel_rfl) D0.out (fun hS0 => ?_)
  refine wpAnyH_take (i := 0) (v := (.agg (gc va))) rfl (by kernel_rfl) (by kernel_rfl) (by kernel_rfl) (fun _ _ _ h => h) (Or.inl ⟨by kernel_rfl, fun u hu => xlG (.tmp 11) (ga) 0 rfl va (Ha.out.step hu).lies⟩) hS0 ?_
  refine wpAnyH_take (i := 1) (v := (.agg (gc vb))) rfl (by kernel_rfl) (by kernel_rfl) (by kernel_rfl) (fun _ _ _ h => h) (Or.inl ⟨by kernel_rfl, fun u hu => xlG (.tmp 13) (gb) 0 rfl vb (Hb.out.step hu).lies⟩) hS0 ?_
  refine wpAnyH_ready (rs := [2]) (by kernel_rfl) (by simp) ?_
  refine AllReadyH.cons rfl (fun K hK => ?_) AllReadyH.nil
  go_simp
  refine (rgraph_eq (OG1.out.step hS0).sees (OG2.out.step hS0).sees FR.out (by decide)).mono ?_
  rintro e x1 ⟨rfl, hb⟩
  have hS1_ : Below Vb.heap.size Vb x1 := hS0.trans (hb.mono hS0.size)
  clear hb
  refine hK.out _ _ hS1_ (fun hS1 => ?_)
  clear hK K hS1_
  refine wpAnyH_take (i := 3) (v := .bool true) rfl (by kernel_rfl) (by kernel_rfl) (by kernel_rfl) (fun _ _ _ h => h) (Or.inl ⟨by kernel_rfl, by intro u hu; go_simp⟩) hS1 ?_
  refine wpAnyH_take (i := 4) (v := .bool b) rfl (by kernel_rfl) (by kernel_rfl) (by kernel_rfl) (fun _ _ _ h => h) (Or.inl ⟨by kernel_rfl, by intro u hu; go_simp⟩) hS1 ?_
  refine wpAnyH_take (i := 5) (v := .bool b) rfl (by kernel_rfl) (by kernel_rfl) (by kernel_rfl) (fun _ _ _ h => h) (Or.inl ⟨by kernel_rfl, by intro u hu; go_simp⟩) hS1 ?_
  go_simp
  refine wpAnyH_take (i := 6) (v := .bool true) rfl (by kernel_rfl) (by kernel_rfl) (by kernel_rfl) (fun _ _ _ h => h) (Or.inl ⟨by kernel_rfl, by intro u hu; go_simp⟩) hS1 ?_
  refine wpAnyH_take (i := 7) (v := .bool true) rfl (by kernel_rfl) (by kernel_rfl) (by kernel_rfl) (fun _ _ _ h => h) (Or.inl ⟨by kernel_rfl, by intro u hu; go_simp⟩) hS1 ?_
  refine wpAnyH_take (i := 8) (v := .bool true) rfl (by kernel_rfl) (by kernel_rfl) (by kernel_rfl) (fun _ _ _ h => h) (Or.inl ⟨by kernel_rfl, by intro u hu; go_simp⟩) hS1 ?_
  go_simp
  refine wpAnyH_take (i := 9) (v := (.agg (rc r3 z3))) rfl (by kernel_rfl) (by kernel_rfl) (by kernel_rfl) (fun _ _ _ h => h) (Or.inl ⟨by kernel_rfl, fun u hu => xlR (.tmp 8) (w.heap.size + 3) 0 rfl r3 z3 (HR.out.step hu).lies⟩) hS1 ?_
  refine wpAnyH_take (i := 10) (v := (.agg (rc r4 z4))) rfl (by kernel_rfl) (by kernel_rfl) (by kernel_rfl) (fun _ _ _ h => h) (Or.inl ⟨by kernel_rfl, fun u hu => xlR (.tmp 9) (w.heap.size + 4) 0 rfl r4 z4 (HS.out.step hu).lies⟩) hS1 ?_
  go_simp
  refine wpAnyH_take (i := 12) (v := (.agg (rc r3 z3))) rfl (by kernel_rfl) (by kernel_rfl) (by kernel_rfl) (fun _ _ _ h => h) (Or.inl ⟨by kernel_rfl, fun u hu => xlR (.tmp 8) (w.heap.size + 3) 0 rfl r3 z3 (HR.out.step hu).lies⟩) hS1 ?_
  refine wpAnyH_take (i := 13) (v := (.agg (rc r4 z4))) rfl (by kernel_rfl) (by kernel_rfl) (by kernel_rfl) (fun _ _ _ h => h) (Or.inl ⟨by kernel_rfl, fun u hu => xlR (.tmp 9) (w.heap.size + 4) 0 rfl r4 z4 (HS.out.step hu).lies⟩) hS1 ?_
  go_simp
  refine wpAnyH_ready (rs := [11]) (by kernel_rfl) (by simp) ?_
  refine AllReadyH.cons rfl (fun K hK => ?_) AllReadyH.nil
  go_simp
  refine (asame_any r3 r4 z3 z4 q2 x1 ((S3.out.below (BW.out.trans (hS1.mono BW.out.size)) (Nat.le_refl _)).more ((BW.out.trans (hS1.mono BW.out.size))).size) ((S4.out.below (BW.out.trans (hS1.mono BW.out.size)) (Nat.le_refl _)).more ((BW.out.trans (hS1.mono BW.out.size))).size) M3.out M4.out hq2).mono ?_
  rintro e x2 ⟨rfl, hb⟩
  have hS2_ : Below Vb.heap.size Vb x2 := hS1.trans (hb.mono hS1.size)
  clear hb
  refine hK.out _ _ hS2_ (fun hS2 => ?_)
  clear hK K hS2_
  refine wpAnyH_ready (rs := [14]) (by kernel_rfl) (by simp) ?_
  refine AllReadyH.cons rfl (fun K hK => ?_) AllReadyH.nil
  go_simp
  refine (rsame_any r3 r4 z3 z4 q2 x2 ((S3.out.below (BW.out.trans (hS2.mono BW.out.size)) (Nat.le_refl _)).more ((BW.out.trans (hS2.mono BW.out.size))).size) ((S4.out.below (BW.out.trans (hS2.mono BW.out.size)) (Nat.le_refl _)).more ((BW.out.trans (hS2.mono BW.out.size))).size) M3.out M4.out hq2).mono ?_
  rintro e x3 ⟨rfl, hb⟩
  have hS3_ : Below Vb.heap.size Vb x3 := hS2.trans (hb.mono hS2.size)
  clear hb
  refine hK.out _ _ hS3_ (fun hS3 => ?_)
  clear hK K hS3_
  refine wpAnyH_take (i := 15) (v := .bool true) rfl (by kernel_rfl) (by kernel_rfl) (by kernel_rfl) (fun _ _ _ h => h) (Or.inl ⟨by kernel_rfl, by intro u hu; go_simp⟩) hS3 ?_
  refine wpAnyH_take (i := 16) (v := .bool true) rfl (by kernel_rfl) (by kernel_rfl) (by kernel_rfl) (fun _ _ _ h => h) (Or.inl ⟨by kernel_rfl, by intro u hu; go_simp⟩) hS3 ?_
  go_simp
  refine wpAnyH_ready (rs := [17]) (by kernel_rfl) (by simp) ?_
  refine AllReadyH.cons rfl (fun K hK => ?_) AllReadyH.nil
  go_simp
  refine hK.out _ _ hS3 (fun _ => ?_)
  clear hK K
  refine wpAnyH_done (by kernel_rfl) ?_ _
  go_wp2
  go_ret
  exact ⟨rfl, BW.out.trans (hS3.mono BW.out.size)⟩

set_option maxRecDepth 100000 in
theorem lifted (os : Os) (started : os.Started) (H : Type) (enc : TypeId × Value → H) :
    ReturnsInHanded {} Tryz.checked os 4 .any (Rows.applyFitsSpec.pre6 enc Tryz.prog Tryz.f4 Rows.applyFitsRow.domain false) (Rows.applyFitsSpec.post enc Tryz.prog Tryz.f4 false true false false) := by
  refine returnsInHanded_of_change (C := Tryz.checked) own started (by kernel_rfl) Tryz.func4
    (ChangeSpec.witness6 (enc := enc) (C := Tryz.checked) false ⟨#[], #[.agg #[.int .i64 0, .int .i64 0, .int .i64 0, .int .i64 0, .int .i64 0], .agg #[.slice none 0 0, .slice none 0 0, .int .i64 0, .int .i64 0], .agg #[.int .i64 0, .int .i64 0, .int .i64 0, .int .i64 0, .int .i64 0], .agg #[.int .i64 0, .int .i64 0, .slice none 0 0, .slice none 0 0, .slice none 0 0], .agg #[.int .i64 0, .int .i64 0, .slice none 0 0, .slice none 0 0, .slice none 0 0]], []⟩ 8 (by kernel_rfl) (by kernel_rfl) (by kernel_rfl) (by kernel_rfl)) ?_
  intro W base args ds gs before hval0 hW hcnd _
  have hval : ∀ (j : Nat) t v, Tryz.f4.params[j]? = some t → args[j]? = some v → Value.okWide Tryz.prog W .any base t v := hval0
  have hW' := hW
  obtain ⟨p, q, hA0, hV, rfl, hfz, hnd⟩ := hW
  have hA : DataW.TrodAll enc Tryz.prog W 0 (fun _ => true) true Tryz.f4.params.toList args.toList ds p := hA0
  rw [Tryz.params4] at hA hval
  obtain ⟨x0, vs0, d0, ds0, p0_, q0, hargs, rfl, rfl, h0, r0_⟩ := trodAll_cons hA
  obtain ⟨x1, vs1, d1, ds1, p1_, q1, rfl, rfl, rfl, h1, r1_⟩ := trodAll_cons r0_
  obtain ⟨x2, vs2, d2, ds2, p2_, q2, rfl, rfl, rfl, h2, r2_⟩ := trodAll_cons r1_
  obtain ⟨x3, vs3, d3, ds3, p3_, q3, rfl, rfl, rfl, h3, r3_⟩ := trodAll_cons r2_
  obtain ⟨x4, vs4, d4, ds4, p4_, q4, rfl, rfl, rfl, h4, r4_⟩ := trodAll_cons r3_
  obtain ⟨rfl, rfl, rfl⟩ := trodAll_nil r4_
  obtain rfl : args = #[x0, x1, x2, x3, x4] := by cases args; simp_all
  obtain ⟨rfl, rfl⟩ := trodVars_none hV
  have lt0 : ∀ x ∈ p0_, x.block < W.heap.size := by obtain ⟨m, hm⟩ := h0; exact DataW.trod_lt m _ _ _ hm
  have lt1 : ∀ x ∈ p1_, x.block < W.heap.size := by obtain ⟨m, hm⟩ := h1; exact DataW.trod_lt m _ _ _ hm
  have lt2 : ∀ x ∈ p2_, x.block < W.heap.size := by obtain ⟨m, hm⟩ := h2; exact DataW.trod_lt m _ _ _ hm
  have lt3 : ∀ x ∈ p3_, x.block < W.heap.size := by obtain ⟨m, hm⟩ := h3; exact DataW.trod_lt m _ _ _ hm
  have lt4 : ∀ x ∈ p4_, x.block < W.heap.size := by obtain ⟨m, hm⟩ := h4; exact DataW.trod_lt m _ _ _ hm
  obtain ⟨n0, e0, p0, i0, j0, rfl⟩ := open_cfg (hval 0 23 x0 rfl rfl) h0
  obtain ⟨v1, G1, rfl, w1, s1, t1, u1, -, -⟩ := open_graph (hval 1 27 x1 rfl rfl) h1
  obtain ⟨o2, rfl, w2⟩ := open_op (hval 2 29 x2 rfl rfl) h2
  obtain ⟨r3, z3, rfl, w3, u3⟩ := open_res (hval 3 37 x3 rfl rfl) h3
  obtain ⟨r4, z4, rfl, w4, u4⟩ := open_res (hval 4 37 x4 rfl rfl) h4
  clear hA0 hval0
  refine (walk n0 e0 p0 i0 j0 v1 G1 o2 r3 z3 r4 z4 W w1 s1 t1 u1 w2 w3 u3 w4 u4).mono fun e W' ⟨he, bel⟩ => ?_
  subst he
  exact ⟨_, rfl, _, _, _, [], _, [], hW', trodAll_mk1 (shut_bool Tryz.underlying4 _), (trodAll_cons_mk (Below.trod laidOut (by kernel_rfl) (of_decide_eq_true (by kernel_rfl)) h0 bel lt0) (trodAll_cons_mk (Below.trod laidOut (by kernel_rfl) (of_decide_eq_true (by kernel_rfl)) h1 bel lt1) (trodAll_cons_mk (Below.trod laidOut (by kernel_rfl) (of_decide_eq_true (by kernel_rfl)) h2 bel lt2) (trodAll_cons_mk (Below.trod laidOut (by kernel_rfl) (of_decide_eq_true (by kernel_rfl)) h3 bel lt3) (trodAll_cons_mk (Below.trod laidOut (by kernel_rfl) (of_decide_eq_true (by kernel_rfl)) h4 bel lt4) trodAll_mk0))))), rfl, bel.frame _, fun h => by cases h⟩

theorem over : Rows.applyFitsRow.holds Tryz.pinned (OpenSpec.ofChange Rows.applyFitsSpec) :=
  OpenClaim.holds_of_wide 4 Tryz.f4 rfl rfl rfl rfl rfl rfl rfl ⟨rfl, rfl, rfl, rfl, rfl⟩ rfl rfl rfl rfl rfl (by kernel_rfl) Tryz.func4 (by kernel_rfl)
    (of_decide_eq_true (by kernel_rfl)) (by unfold Func.isWrapper; first | (rw [if_pos (by decide +kernel)]; kernel_rfl) | (rw [if_neg (by decide +kernel)]; exact ⟨rfl, rfl⟩))
    (fun os started H enc _ => lifted os started H enc)

end Go.Proofs.YtiiadkjiofkonaaGreat.applyFits

namespace Go.Proofs.YtiiadkjiofkonaaGreat
/-- The statement. -/
theorem applyFits_holds : Rows.ApplyFitsSaid := applyFits.over
#print axioms applyFits_holds
end Go.Proofs.YtiiadkjiofkonaaGreat
