/- Which results fit an operation: the document's answer. Conditions: a small graph, lists that are not great. Whether a result is short; which results fit, the code and the document, told by letters. Conditions: a small graph, lists that are not great. -/
import Derived.Test.YtiiadkjiofkonaaGreatAB5
import Derived.WalkKit
import Derived.Below
import Derived.Deep.QuietTactic
import Derived.BigQuiet
import Derived.Deep.AppendLies
import Derived.Deep.RegionHeld3
import Derived.Deep.DeepCutAuto
import Derived.Shelf.Abstract
import Derived.Test.YtiiadkjiofkonaaGreatAB3
namespace Go.Proofs.YtiiadkjiofkonaaGreat
open Go.RowKit
set_option linter.unusedVariables false
set_option maxRecDepth 100000

set_option maxHeartbeats 8000000 in
theorem rfits_any11 (c0 c1 c2 c3 c4 : Int) (v : Gv) (G : GL) (o : O5) (r : RL) (z : S3) (q f : Bool) (w : World) (S : Sees w w.heap.size v G) (F : Few 140 G) (hwf : (Lit.int .i64 o.k).wf = true) (SR0 : RSee w w.heap.size z r) (MR0 : Most r) (hq : Hid (q = true ↔ r = (doR c3 c4 G o).2)) (hf : Hid (f = true ↔ r = full)) :
    Calls Tryz.prog 19 #[.agg (fc c0 c1 c2 c3 c4), .agg (gc v), .agg (oc o), .agg (rc r z)] w fun e w' => ∃ v', e = .returned (.tuple #[.agg (gc v'), .bool (q || (f && (takesR c3 c4 G o != 0)))]) ∧ Hid (Has w' w.heap.size v' (pickG q (doR c3 c4 G o).1 G)) ∧ Hid (Below w.heap.size w w') := by
  have SB := hide S
  have HF := hide F
  have SR := hide SR0
  have MR := hide MR0
  clear S F SR0 MR0
  obtain ⟨D1, D2, hD⟩ : ∃ D1 D2, Hid (doR c3 c4 G o = (D1, D2)) := ⟨_, _, rfl⟩
  rw [hD.out] at hq ⊢
  obtain ⟨tk, htk⟩ : ∃ t, Hid (takesR c3 c4 G o = t) := ⟨_, rfl⟩
  rw [htk.out]
  obtain ⟨W, hW⟩ : ∃ W, Hid (((((w.alloc (.cells ((fc c0 c1 c2 c3 c4)) 23)).alloc (.cells (gc v) 27)).alloc (.cells (oc o) 29)).alloc (.cells (rc r z) 37)).alloc (.cells (#[.slice none 0 0, .slice none 0 0, .int .i64 0, .int .i64 0]) 27) = W) := ⟨_, rfl⟩
  have BW : Hid (Below w.heap.size w W) := by show Below _ _ _; rw [← hW.out]; exact ((((((Below.refl _ _).alloc (Nat.le_refl _) _).alloc (by simp) _).alloc (by simp; omega) _).alloc (by simp; omega) _).alloc (by simp; omega) _)
  have HC : Hid (Bx W (w.heap.size) ((fc c0 c1 c2 c3 c4)) 23) := by
    have h := (((((Bx.new w ((fc c0 c1 c2 c3 c4)) 23).alloc (.cells (gc v) 27)).alloc (.cells (oc o) 29)).alloc (.cells (rc r z) 37)).alloc (.cells (#[.slice none 0 0, .slice none 0 0, .int .i64 0, .int .i64 0]) 27))
    show Bx _ _ _ _
    rw [← hW.out]
    simpa using h
  have HG : Hid (Bx W (w.heap.size + 1) (gc v) 27) := by
    have h := ((((Bx.new (w.alloc (.cells ((fc c0 c1 c2 c3 c4)) 23)) (gc v) 27).alloc (.cells (oc o) 29)).alloc (.cells (rc r z) 37)).alloc (.cells (#[.slice none 0 0, .slice none 0 0, .int .i64 0, .int .i64 0]) 27))
    show Bx _ _ _ _
    rw [← hW.out]
    simpa using h
  have HO : Hid (Bx W (w.heap.size + 2) (oc o) 29) := by
    have h := (((Bx.new ((w.alloc (.cells ((fc c0 c1 c2 c3 c4)) 23)).alloc (.cells (gc v) 27)) (oc o) 29).alloc (.cells (rc r z) 37)).alloc (.cells (#[.slice none 0 0, .slice none 0 0, .int .i64 0, .int .i64 0]) 27))
    show Bx _ _ _ _
    rw [← hW.out]
    simpa using h
  have HR : Hid (Bx W (w.heap.size + 3) (rc r z) 37) := by
    have h := ((Bx.new (((w.alloc (.cells ((fc c0 c1 c2 c3 c4)) 23)).alloc (.cells (gc v) 27)).alloc (.cells (oc o) 29)) (rc r z) 37).alloc (.cells (#[.slice none 0 0, .slice none 0 0, .int .i64 0, .int .i64 0]) 27))
    show Bx _ _ _ _
    rw [← hW.out]
    simpa using h
  have Hg : Hid (Bx W (w.heap.size + 4) (#[.slice none 0 0, .slice none 0 0, .int .i64 0, .int .i64 0]) 27) := by
    have h := (Bx.new ((((w.alloc (.cells ((fc c0 c1 c2 c3 c4)) 23)).alloc (.cells (gc v) 27)).alloc (.cells (oc o) 29)).alloc (.cells (rc r z) 37)) (#[.slice none 0 0, .slice none 0 0, .int .i64 0, .int .i64 0]) 27)
    show Bx _ _ _ _
    rw [← hW.out]
    simpa using h
  go_enter Tryz.func19, Tryz.ntmps19
  go_upto_region 1 with fail
  have hW' := hW.out
  rw [hW']
  clear hW hW'
  go_wp2_with (first | ((with_reducible refine ldC (.tmp 4) (w.heap.size) (0) ?_ ?_ c0 c1 c2 c3 c4 ?_ ?_); (exact rfl); (exact rfl); (exact HC.out.lies)) | ((with_reducible refine ldG (.tmp 5) (w.heap.size + 1) (0) ?_ ?_ v ?_ ?_); (exact rfl); (exact rfl); (exact HG.out.lies)) | ((with_reducible refine ldO (.tmp 6) (w.heap.size + 2) (0) ?_ ?_ o ?_ ?_); (exact rfl); (exact rfl); (exact HO.out.lies)))
  refine (rdo_any c0 c1 c2 c3 c4 v G o W (sees_at SB.out BW.out) HF.out).mono ?_
  rintro e u1 ⟨v', s', rfl, hm, hn, hb⟩
  have MD : Hid (Most D2) := by show Most _; have h := HF.out.most (c3 := c3) (c4 := c4) (o := o) (by decide); rw [hD.out] at h; exact h
  have OG : Hid (Has u1 w.heap.size v' D1) := by have h := hm.out; rw [hD.out] at h; exact h.less BW.out.size
  have OR : Hid (ROwn u1 w.heap.size s' D2) := by have h := hn.out; rw [hD.out] at h; exact h.less BW.out.size
  rw [hD.out]
  clear hm hn
  have HC := hide (HC.out.step hb.out)
  have HG := hide (HG.out.step hb.out)
  have HO := hide (HO.out.step hb.out)
  have HR := hide (HR.out.step hb.out)
  have Hg := hide (Hg.out.step hb.out)
  have BW := hide (BW.out.trans (hb.out.mono BW.out.size))
  clear hb
  have Hh : Hid (Bx ((u1.alloc (.cells (#[.slice none 0 0, .slice none 0 0, .int .i64 0, .int .i64 0]) 27)).alloc (.cells (#[.int .i64 0, .int .i64 0, .slice none 0 0, .slice none 0 0, .slice none 0 0]) 37)) u1.heap.size (#[.slice none 0 0, .slice none 0 0, .int .i64 0, .int .i64 0]) 27) := (Bx.new u1 (#[.slice none 0 0, .slice none 0 0, .int .i64 0, .int .i64 0]) 27).alloc _
  have Hq : Hid (Bx (((u1.alloc (.cells (#[.slice none 0 0, .slice none 0 0, .int .i64 0, .int .i64 0]) 27)).alloc (.cells (#[.int .i64 0, .int .i64 0, .slice none 0 0, .slice none 0 0, .slice none 0 0]) 37)).setRow u1.heap.size (gc v')) (u1.heap.size + 1) (#[.int .i64 0, .int .i64 0, .slice none 0 0, .slice none 0 0, .slice none 0 0]) 37) := by have h := Bx.new (u1.alloc (.cells (#[.slice none 0 0, .slice none 0 0, .int .i64 0, .int .i64 0]) 27)) (#[.int .i64 0, .int .i64 0, .slice none 0 0, .slice none 0 0, .slice none 0 0]) 37; exact Bx.far (by simpa using h) (by omega) _
  go_upto_region 2 with (first | ((with_reducible refine stG (.tmp 10) (.tmp 17) (u1.heap.size) ?_ v' ?_ (#[.slice none 0 0, .slice none 0 0, .int .i64 0, .int .i64 0]) ?_ ?_ ?_); (exact rfl); (exact rfl); (exact Hh.out); (exact rfl)) | ((with_reducible refine stR (.tmp 11) (.tmp 18) (u1.heap.size + 1) ?_ D2 s' ?_ (#[.int .i64 0, .int .i64 0, .slice none 0 0, .slice none 0 0, .slice none 0 0]) ?_ ?_ ?_); (exact rfl); (exact rfl); (exact Hq.out); (exact rfl)))
  obtain ⟨V, hV⟩ : ∃ V, Hid (((((u1.alloc (.cells (#[.slice none 0 0, .slice none 0 0, .int .i64 0, .int .i64 0]) 27)).alloc (.cells (#[.int .i64 0, .int .i64 0, .slice none 0 0, .slice none 0 0, .slice none 0 0]) 37)).setRow u1.heap.size (gc v')).setRow (u1.heap.size + 1) (rc D2 s')) = V) := ⟨_, rfl⟩
  obtain ⟨g1, hg1⟩ : ∃ g, Hid (u1.heap.size = g) := ⟨_, rfl⟩
  have BV : Hid (Below u1.heap.size u1 V) := by show Below _ _ _; rw [← hV.out]; exact row_below (row_below (((Below.refl _ _).alloc (Nat.le_refl _) _).alloc (by simp) _) (Nat.le_refl _) _) (by omega) _
  have Hh : Hid (Bx V g1 (gc v') 27) := by show Bx _ _ _ _; rw [← hV.out, ← hg1.out]; exact (Hh.out.put _).far (by omega) _
  have Hq : Hid (Bx V (g1 + 1) (rc D2 s') 37) := by show Bx _ _ _ _; rw [← hV.out, ← hg1.out]; exact Hq.out.put _
  have hgl : Hid (w.heap.size + 4 < g1) := by show _ < _; rw [← hg1.out]; exact Hg.out.lt
  have HC := hide (HC.out.step BV.out)
  have HG := hide (HG.out.step BV.out)
  have HO := hide (HO.out.step BV.out)
  have HR := hide (HR.out.step BV.out)
  have Hg := hide (Hg.out.step BV.out)
  have OG := hide (OG.out.step BV.out)
  have OR := hide (OR.out.step BV.out)
  have BW := hide (BW.out.trans (BV.out.mono BW.out.size))
  clear BV
  have hV' := hV.out
  have hg' := hg1.out
  rw [hV', hg']
  clear hV hg1 hV' hg'
  go_wp2_with (first | ((with_reducible refine ldR (.tmp 7) (w.heap.size + 3) (0) ?_ ?_ r z ?_ ?_); (exact rfl); (exact rfl); (exact HR.out.lies)) | ((with_reducible refine ldR (.tmp 11) (g1 + 1) (0) ?_ ?_ D2 s' ?_ ?_); (exact rfl); (exact rfl); (exact Hq.out.lies)))
  refine (rsame_any D2 r s' z q V OR.out.sees ((SR.out.below BW.out (Nat.le_refl _)).more BW.out.size) MD.out MR.out (by show _ ↔ _; exact hq.out.trans ⟨Eq.symm, Eq.symm⟩)).mono ?_
  rintro e u2 ⟨rfl, hb⟩
  have HC := hide (HC.out.step hb)
  have HG := hide (HG.out.step hb)
  have HO := hide (HO.out.step hb)
  have HR := hide (HR.out.step hb)
  have Hg := hide (Hg.out.step hb)
  have Hh := hide (Hh.out.step hb)
  have Hq := hide (Hq.out.step hb)
  have OG := hide (OG.out.step hb)
  have OR := hide (OR.out.step hb)
  have BW := hide (BW.out.trans (hb.mono BW.out.size))
  clear hb
  cases q
  case true =>
    go_wp2_with (first | ((with_reducible refine ldG (.tmp 10) (g1) (0) ?_ ?_ v' ?_ ?_); (exact rfl); (exact rfl); (exact Hh.out.lies)) | ((with_reducible refine stG (.tmp 8) (.tmp 22) (w.heap.size + 4) ?_ v' ?_ (#[.slice none 0 0, .slice none 0 0, .int .i64 0, .int .i64 0]) ?_ ?_ ?_); (exact rfl); (exact rfl); (exact Hg.out); (exact rfl)))
    exact bodyPost_ret (row_two rfl _ _ (w.heap.size + 4) 27 (gc v') (0, 0) _ rfl (Hg.out.put _) Tryz.underlying27 rfl asize27) rfl ⟨v', rfl, OG.out.row Hg.out apG _, row_below BW.out (by omega) _⟩
  clear OG OR Hh Hq MD hq
  have SX : Hid (∀ u, Hid (Below u2.heap.size u2 u) → Bx u w.heap.size (fc c0 c1 c2 c3 c4) 23 ∧ Bx u (w.heap.size + 1) (gc v) 27 ∧ Bx u (w.heap.size + 2) (oc o) 29 ∧ Bx u (w.heap.size + 3) (rc r z) 37) := fun u hu => ⟨HC.out.step hu.out, HG.out.step hu.out, HO.out.step hu.out, HR.out.step hu.out⟩
  go_upto_region 4 with fail
  have D0 := hide ((Below.refl u2.heap.size u2).drew)
  refine wp_region_held_drew (S := fun u => Bx u w.heap.size (fc c0 c1 c2 c3 c4) 23 ∧ Bx u (w.heap.size + 1) (gc v) 27 ∧ Bx u (w.heap.size + 2) (oc o) 29 ∧ Bx u (w.heap.size + 3) (rc r z) 37) (by kernel_rfl) (SX.out _ D0) (fun hS => ?_)
  refine wpAnyH_take (i := 0) (v := (.agg (gc v))) rfl (by kernel_rfl) (by kernel_rfl) (by kernel_rfl) (fun _ _ _ h => h) (Or.inl ⟨by kernel_rfl, fun u hu => xlG (.tmp 5) (w.heap.size + 1) 0 rfl v hu.2.1.lies⟩) hS ?_
  refine wpAnyH_take (i := 2) (v := (.agg (rc r z))) rfl (by kernel_rfl) (by kernel_rfl) (by kernel_rfl) (fun _ _ _ h => h) (Or.inl ⟨by kernel_rfl, fun u hu => xlR (.tmp 7) (w.heap.size + 3) 0 rfl r z hu.2.2.2.lies⟩) hS ?_
  refine wpAnyH_take (i := 3) (v := (.agg (rc full noS3))) rfl (by kernel_rfl) (by kernel_rfl) (by kernel_rfl) (fun _ _ _ h => h) (Or.inl ⟨by kernel_rfl, by intro u hu; go_simp; rfl⟩) hS ?_
  refine wpAnyH_ready (rs := [1]) (by kernel_rfl) (by simp) ?_
  refine AllReadyH.cons rfl (fun K hK => ?_) AllReadyH.nil
  go_simp
  refine (copy_any v G u2.drew (sees_at SB.out (Below.drew BW.out)) (by have h1 := SB.out.nodes.1; have h2 := HF.out.n; omega) (by have h1 := edges_len SB.out.edges; have h2 := HF.out.e; omega) (fun j hj => by have h1 := HF.out.prs j; have h2 : (prsAt G j).length = (G.N.getD j (0, [])).2.length := rfl; omega)).mono ?_
  rintro e u3 ⟨v3, L3, rfl, hm, hb⟩
  have OG3 : Hid (Has u3 w.heap.size v3 G) := Has.less ⟨L3, hm.out⟩ BW.out.size
  have hb3 : Hid (Below u2.heap.size u2 u3) := D0.out.trans hb.out
  clear hm hb
  refine hK.out _ _ (SX.out _ hb3) (fun hS1 => ?_)
  clear hK K
  refine wpAnyH_ready (rs := [4]) (by kernel_rfl) (by simp) ?_
  refine AllReadyH.cons rfl (fun K hK => ?_) AllReadyH.nil
  go_simp
  refine (rsame_any r full z noS3 f u3 ((SR.out.below (BW.out.trans (hb3.out.mono BW.out.size)) (Nat.le_refl _)).more (BW.out.trans (hb3.out.mono BW.out.size)).size) (RSee.nil _ _) MR.out Most.full hf).mono ?_
  rintro e u4 ⟨rfl, hb⟩
  have OG4 := hide (OG3.out.step hb)
  have hb4 : Hid (Below u2.heap.size u2 u4) := hb3.out.trans (hb.mono hb3.out.size)
  clear hb OG3 hb3
  refine hK.out _ _ (SX.out _ hb4) (fun hS2 => ?_)
  clear hK K
  cases f
  case false =>
    refine wpAnyH_take (i := 5) (v := .bool false) rfl (by kernel_rfl) (by kernel_rfl) (by kernel_rfl) (fun _ _ _ h => h) (Or.inl ⟨by kernel_rfl, by intro u hu; go_simp⟩) hS2 ?_
    refine wpAnyH_take (i := 6) (v := undef) rfl (by kernel_rfl) (by kernel_rfl) (by kernel_rfl) (fun _ _ _ h => h) (Or.inr ⟨by kernel_rfl, rfl⟩) hS2 ?_
    refine wpAnyH_take (i := 7) (v := undef) rfl (by kernel_rfl) (by kernel_rfl) (by kernel_rfl) (fun _ _ _ h => h) (Or.inr ⟨by kernel_rfl, rfl⟩) hS2 ?_
    refine wpAnyH_take (i := 8) (v := undef) rfl (by kernel_rfl) (by kernel_rfl) (by kernel_rfl) (fun _ _ _ h => h) (Or.inr ⟨by kernel_rfl, rfl⟩) hS2 ?_
    refine wpAnyH_take (i := 9) (v := undef) rfl (by kernel_rfl) (by kernel_rfl) (by kernel_rfl) (fun _ _ _ h => h) (Or.inr ⟨by kernel_rfl, rfl⟩) hS2 ?_
    refine wpAnyH_take (i := 10) (v := undef) rfl (by kernel_rfl) (by kernel_rfl) (by kernel_rfl) (fun _ _ _ h => h) (Or.inr ⟨by kernel_rfl, rfl⟩) hS2 ?_
    refine wpAnyH_take (i := 11) (v := .bool false) rfl (by kernel_rfl) (by kernel_rfl) (by kernel_rfl) (fun _ _ _ h => h) (Or.inl ⟨by kernel_rfl, by intro u hu; go_simp⟩) hS2 ?_
    have G5 := hide (Hg.out.step hb4.out)
    have B5 := hide (BW.out.trans (hb4.out.mono BW.out.size))
    go_simp
    refine wpAnyH_ready (rs := [12]) (by kernel_rfl) (by simp) ?_
    refine AllReadyH.cons rfl (fun K hK => ?_) AllReadyH.nil
    rw [if_pos (by kernel_rfl)]
    refine wp_store_row 27 (.tmp 8) (.tmp 24) rfl (w.heap.size + 4) (gc v3) rfl rfl 27 (#[.slice none 0 0, .slice none 0 0, .int .i64 0, .int .i64 0]) G5.out asize27 rfl (gc_one v3) ?_
    refine hK.out _ _ (⟨hS2.1.far (by omega) _, hS2.2.1.far (by omega) _, hS2.2.2.1.far (by omega) _, hS2.2.2.2.far (by omega) _⟩) (fun hS9 => ?_)
    clear hK K
    refine wpAnyH_ready (rs := [13]) (by kernel_rfl) (by simp) ?_
    refine AllReadyH.cons rfl (fun K hK => ?_) AllReadyH.nil
    go_simp
    refine hK.out _ _ hS9 (fun _ => ?_)
    clear hK K
    refine wpAnyH_done (by kernel_rfl) ?_ _
    go_wp2_with fail
    exact bodyPost_ret (row_two rfl _ _ (w.heap.size + 4) 27 (gc v3) (0, 0) _ rfl (G5.out.put _) Tryz.underlying27 rfl asize27) rfl ⟨v3, rfl, OG4.out.row G5.out apG _, row_below B5.out (by omega) _⟩
  refine wpAnyH_take (i := 5) (v := .bool true) rfl (by kernel_rfl) (by kernel_rfl) (by kernel_rfl) (fun _ _ _ h => h) (Or.inl ⟨by kernel_rfl, by intro u hu; go_simp⟩) hS2 ?_
  refine wpAnyH_take (i := 6) (v := .agg (fc c0 c1 c2 c3 c4)) rfl (by kernel_rfl) (by kernel_rfl) (by kernel_rfl) (fun _ _ _ h => h) (Or.inl ⟨by kernel_rfl, fun u hu => xlC (.tmp 4) (w.heap.size) 0 rfl c0 c1 c2 c3 c4 hu.1.lies⟩) hS2 ?_
  refine wpAnyH_take (i := 7) (v := (.agg (gc v))) rfl (by kernel_rfl) (by kernel_rfl) (by kernel_rfl) (fun _ _ _ h => h) (Or.inl ⟨by kernel_rfl, fun u hu => xlG (.tmp 5) (w.heap.size + 1) 0 rfl v hu.2.1.lies⟩) hS2 ?_
  refine wpAnyH_take (i := 8) (v := (.agg (oc o))) rfl (by kernel_rfl) (by kernel_rfl) (by kernel_rfl) (fun _ _ _ h => h) (Or.inl ⟨by kernel_rfl, fun u hu => xlO (.tmp 6) (w.heap.size + 2) 0 rfl o hu.2.2.1.lies⟩) hS2 ?_
  refine wpAnyH_ready (rs := [9]) (by kernel_rfl) (by simp) ?_
  refine AllReadyH.cons rfl (fun K hK => ?_) AllReadyH.nil
  go_simp
  refine (rtakes_any c0 c1 c2 c3 c4 v G o u4 (sees_at SB.out (BW.out.trans (hb4.out.mono BW.out.size))) HF.out hwf).mono ?_
  rintro e u5 ⟨rfl, hb⟩
  rw [htk.out]
  have OG5 := hide (OG4.out.step hb)
  have hb5 : Hid (Below u2.heap.size u2 u5) := hb4.out.trans (hb.mono hb4.out.size)
  clear hb OG4 hb4
  refine hK.out _ _ (SX.out _ hb5) (fun hS3 => ?_)
  clear hK K
  refine wpAnyH_take (i := 10) (v := .bool (tk != 0)) rfl (by kernel_rfl) (by kernel_rfl) (by kernel_rfl) (fun _ _ _ h => h) (Or.inl ⟨by kernel_rfl, by intro u hu; go_simp⟩) hS3 ?_
  refine wpAnyH_take (i := 11) (v := .bool (tk != 0)) rfl (by kernel_rfl) (by kernel_rfl) (by kernel_rfl) (fun _ _ _ h => h) (Or.inl ⟨by kernel_rfl, by intro u hu; go_simp⟩) hS3 ?_
  have G5 := hide (Hg.out.step hb5.out)
  have B5 := hide (BW.out.trans (hb5.out.mono BW.out.size))
  go_simp
  refine wpAnyH_ready (rs := [12]) (by kernel_rfl) (by simp) ?_
  refine AllReadyH.cons rfl (fun K hK => ?_) AllReadyH.nil
  rw [if_pos (by kernel_rfl)]
  refine wp_store_row 27 (.tmp 8) (.tmp 24) rfl (w.heap.size + 4) (gc v3) rfl rfl 27 (#[.slice none 0 0, .slice none 0 0, .int .i64 0, .int .i64 0]) G5.out asize27 rfl (gc_one v3) ?_
  refine hK.out _ _ (⟨hS3.1.far (by omega) _, hS3.2.1.far (by omega) _, hS3.2.2.1.far (by omega) _, hS3.2.2.2.far (by omega) _⟩) (fun hS9 => ?_)
  clear hK K
  refine wpAnyH_ready (rs := [13]) (by kernel_rfl) (by simp) ?_
  refine AllReadyH.cons rfl (fun K hK => ?_) AllReadyH.nil
  go_simp
  refine hK.out _ _ hS9 (fun _ => ?_)
  clear hK K
  refine wpAnyH_done (by kernel_rfl) ?_ _
  go_wp2_with fail
  exact bodyPost_ret (row_two rfl _ _ (w.heap.size + 4) 27 (gc v3) (0, 0) _ rfl (G5.out.put _) Tryz.underlying27 rfl asize27) rfl ⟨v3, rfl, OG5.out.row G5.out apG _, row_below B5.out (by omega) _⟩

end Go.Proofs.YtiiadkjiofkonaaGreat

namespace Go.Proofs.YtiiadkjiofkonaaGreat
open Go.RowKit
set_option linter.unusedVariables false
set_option maxRecDepth 100000

set_option maxHeartbeats 2000000 in
theorem fewr_any (r : RL) (z : S3) (b : Bool) (w : World) (p : RSee w w.heap.size z r) (hb : Hid (b = true ↔ r.P.length ≤ 100 ∧ r.O.length ≤ 100 ∧ r.I.length ≤ 100)) :
    Calls Tryz.prog 17 #[.agg (rc r z)] w (Drew (.bool b) w) := by
  obtain ⟨W, hW⟩ : ∃ W, Hid (w.alloc (.cells (rc r z) 37) = W) := ⟨_, rfl⟩
  have BW : Hid (Below w.heap.size w W) := by show Below _ _ _; rw [← hW.out]; exact ((Below.refl _ _).alloc (Nat.le_refl _) _)
  have HA : Hid (Bx W (w.heap.size) (rc r z) 37) := by
    have h := (Bx.new w (rc r z) 37)
    show Bx _ _ _ _
    rw [← hW.out]
    simpa using h
  have S1 := hide (p.step BW.out)
  have l1 : z.P.n = r.P.length := by have := S1.out.1.len; omega
  have l2 : z.O.n = r.O.length := by have := S1.out.2.1.len; omega
  have l3 : z.I.n = r.I.length := by have := S1.out.2.2.len; omega
  clear p
  by_cases x0 : z.P.n ≤ 100
  case neg =>
    have hres : Hid (b = false) := by show _ = _; cases b; rfl; exact absurd (hb.out.1 rfl) (by omega)
    have t0 : decide ((z.P.n : Int) ≤ 100) = false := by simp; omega
    clear x0 hb l1 l2 l3
    have a0 : (w.alloc (.cells (rc r z) 37)).cell? ⟨w.heap.size, 2, none⟩ = some (.slice z.P.A z.P.n z.P.c) := by rw [hW.out]; exact HA.out.cells 2
    go_enter Tryz.func17, Tryz.ntmps17
    go_wp2
    go_ret
    exact ⟨by rw [hres.out]; rfl, by rw [hW.out]; exact BW.out⟩
  have t0 : decide ((z.P.n : Int) ≤ 100) = true := by simp; omega
  by_cases x1 : z.O.n ≤ 100
  case neg =>
    have hres : Hid (b = false) := by show _ = _; cases b; rfl; exact absurd (hb.out.1 rfl) (by omega)
    have t1 : decide ((z.O.n : Int) ≤ 100) = false := by simp; omega
    clear x1 hb l1 l2 l3
    have a0 : (w.alloc (.cells (rc r z) 37)).cell? ⟨w.heap.size, 2, none⟩ = some (.slice z.P.A z.P.n z.P.c) := by rw [hW.out]; exact HA.out.cells 2
    have a1 : (w.alloc (.cells (rc r z) 37)).cell? ⟨w.heap.size, 3, none⟩ = some (.slice z.O.A z.O.n z.O.c) := by rw [hW.out]; exact HA.out.cells 3
    go_enter Tryz.func17, Tryz.ntmps17
    go_wp2
    go_ret
    exact ⟨by rw [hres.out]; rfl, by rw [hW.out]; exact BW.out⟩
  have t1 : decide ((z.O.n : Int) ≤ 100) = true := by simp; omega
  by_cases x2 : z.I.n ≤ 100
  case neg =>
    have hres : Hid (b = false) := by show _ = _; cases b; rfl; exact absurd (hb.out.1 rfl) (by omega)
    have t2 : decide ((z.I.n : Int) ≤ 100) = false := by simp; omega
    clear x2 hb l1 l2 l3
    have a0 : (w.alloc (.cells (rc r z) 37)).cell? ⟨w.heap.size, 2, none⟩ = some (.slice z.P.A z.P.n z.P.c) := by rw [hW.out]; exact HA.out.cells 2
    have a1 : (w.alloc (.cells (rc r z) 37)).cell? ⟨w.heap.size, 3, none⟩ = some (.slice z.O.A z.O.n z.O.c) := by rw [hW.out]; exact HA.out.cells 3
    have a2 : (w.alloc (.cells (rc r z) 37)).cell? ⟨w.heap.size, 4, none⟩ = some (.slice z.I.A z.I.n z.I.c) := by rw [hW.out]; exact HA.out.cells 4
    go_enter Tryz.func17, Tryz.ntmps17
    go_wp2
    go_ret
    exact ⟨by rw [hres.out]; rfl, by rw [hW.out]; exact BW.out⟩
  have t2 : decide ((z.I.n : Int) ≤ 100) = true := by simp; omega
  have hres : Hid (b = true) := hb.out.2 ⟨by omega, by omega, by omega⟩
  clear hb x0 x1 x2 l1 l2 l3
  have a0 : (w.alloc (.cells (rc r z) 37)).cell? ⟨w.heap.size, 2, none⟩ = some (.slice z.P.A z.P.n z.P.c) := by rw [hW.out]; exact HA.out.cells 2
  have a1 : (w.alloc (.cells (rc r z) 37)).cell? ⟨w.heap.size, 3, none⟩ = some (.slice z.O.A z.O.n z.O.c) := by rw [hW.out]; exact HA.out.cells 3
  have a2 : (w.alloc (.cells (rc r z) 37)).cell? ⟨w.heap.size, 4, none⟩ = some (.slice z.I.A z.I.n z.I.c) := by rw [hW.out]; exact HA.out.cells 4
  go_enter Tryz.func17, Tryz.ntmps17
  go_wp2
  go_ret
  exact ⟨by rw [hres.out]; rfl, by rw [hW.out]; exact BW.out⟩

theorem fits_w (c0 c1 c2 c3 c4 : Int) (v : Gv) (G R : GL) (o : O5) (r : RL) (z : S3) (q f b : Bool) (w : World) (S : Sees w w.heap.size v G) (F : Few 140 G) (hwf : (Lit.int .i64 o.k).wf = true) (SR : RSee w w.heap.size z r) (MR : Most r) (hq : Hid (q = true ↔ r = (doR c3 c4 G o).2)) (hf : Hid (f = true ↔ r = full)) (hb : Hid ((q || (f && (takesR c3 c4 G o != 0))) = b)) (hR : Hid (pickG q (doR c3 c4 G o).1 G = R)) :
    Calls Tryz.prog 18 #[.agg (fc c0 c1 c2 c3 c4), .agg (gc v), .agg (oc o), .agg (rc r z)] w fun e w' => ∃ v', e = .returned (.tuple #[.agg (gc v'), .bool b]) ∧ Hid (Has w' w.heap.size v' R) ∧ Hid (Below w.heap.size w w') := by
  refine (fits_any11 c0 c1 c2 c3 c4 v G o r z q f w S F hwf SR MR hq hf).mono ?_
  rintro e u ⟨v', rfl, hm, hb'⟩
  rw [hR.out] at hm
  have h := hb.out
  subst h
  exact ⟨v', rfl, hm, hb'⟩

theorem rfits_w (c0 c1 c2 c3 c4 : Int) (v : Gv) (G R : GL) (o : O5) (r : RL) (z : S3) (q f b : Bool) (w : World) (S : Sees w w.heap.size v G) (F : Few 140 G) (hwf : (Lit.int .i64 o.k).wf = true) (SR : RSee w w.heap.size z r) (MR : Most r) (hq : Hid (q = true ↔ r = (doR c3 c4 G o).2)) (hf : Hid (f = true ↔ r = full)) (hb : Hid ((q || (f && (takesR c3 c4 G o != 0))) = b)) (hR : Hid (pickG q (doR c3 c4 G o).1 G = R)) :
    Calls Tryz.prog 19 #[.agg (fc c0 c1 c2 c3 c4), .agg (gc v), .agg (oc o), .agg (rc r z)] w fun e w' => ∃ v', e = .returned (.tuple #[.agg (gc v'), .bool b]) ∧ Hid (Has w' w.heap.size v' R) ∧ Hid (Below w.heap.size w w') := by
  refine (rfits_any11 c0 c1 c2 c3 c4 v G o r z q f w S F hwf SR MR hq hf).mono ?_
  rintro e u ⟨v', rfl, hm, hb'⟩
  rw [hR.out] at hm
  have h := hb.out
  subst h
  exact ⟨v', rfl, hm, hb'⟩

end Go.Proofs.YtiiadkjiofkonaaGreat
