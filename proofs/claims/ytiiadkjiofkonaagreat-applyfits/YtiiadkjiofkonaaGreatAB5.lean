/- An operation done: the document's answer. Conditions: a small graph. Operations done one after the other: the document's answer. Conditions: not many. Which record an operation takes (the document), and which results fit it (both). Conditions: a small graph, lists that are not great. Which results fit an operation: the code. Conditions: a small graph, lists that are not great. -/
import Derived.Test.YtiiadkjiofkonaaGreatAB2
import Derived.Test.YtiiadkjiofkonaaGreatGAdd
import Derived.Test.YtiiadkjiofkonaaGreatRCut
import Derived.Test.YtiiadkjiofkonaaGreatRSet
import Derived.Test.YtiiadkjiofkonaaGreatRDel
import Derived.Test.YtiiadkjiofkonaaGreatGNear
import Derived.Test.YtiiadkjiofkonaaGreatRNear
import Derived.Test.YtiiadkjiofkonaaGreatRDrop
import Derived.Test.YtiiadkjiofkonaaGreatRFuse
import Derived.Test.YtiiadkjiofkonaaGreatGCopy
import Derived.WalkKit
import Derived.Below
import Derived.Deep.QuietTactic
import Derived.BigQuiet
import Derived.Deep.AppendLies
import Derived.Deep.RegionHeld3
import Derived.Deep.DeepCutAuto
import Derived.Shelf.Abstract
import Derived.Test.YtiiadkjiofkonaaGreatAB3
import Derived.Test.YtiiadkjiofkonaaGreatAB4
import Derived.Laws.Rows
namespace Go.Proofs.YtiiadkjiofkonaaGreat
open Go.RowKit
set_option linter.unusedVariables false
set_option maxRecDepth 100000

theorem has_cell {u : World} {B g : Nat} {v : Gv} {G : GL} {cs : Array Value} (h : Has u B v G) (hg : Bx u g cs 37) (i : Nat) (x : Value) : Has (u.setCell ⟨g, i, none⟩ x) B v G := by
  obtain ⟨L, o⟩ := h
  exact ⟨L, own_cell o.rows hg (by decide) i x, o.len, o.ids, fun j hj => own_cell (o.prs j hj) hg (by decide) i x, own_cell o.edg hg (by decide) i x, o.x, o.y⟩
theorem rown_cell {u : World} {B g : Nat} {s : S3} {r : RL} {cs : Array Value} (h : ROwn u B s r) (hg : Bx u g cs 37) (i : Nat) (x : Value) : ROwn (u.setCell ⟨g, i, none⟩ x) B s r :=
  ⟨own_cell h.P hg (by decide) i x, own_cell h.O hg (by decide) i x, own_cell h.I hg (by decide) i x⟩
theorem inBlock_then (id : Nat) (K : Act → World → Prop) (Q' : Exit → Act → World → Prop) : Exit.inBlock id (Exit.then K Q') = Exit.then K (Exit.inBlock id (Exit.then K Q')) := by
  funext e a w
  cases e <;> rfl
set_option maxHeartbeats 16000000 in
theorem rdo_any (c0 c1 c2 c3 c4 : Int) (v : Gv) (G : GL) (o : O5) (w : World) (S : Sees w w.heap.size v G) (F : Few 140 G) : Calls Tryz.prog 12 #[.agg (fc c0 c1 c2 c3 c4), .agg (gc v), .agg (oc o)] w (Tells w (doR c3 c4 G o).1 (doR c3 c4 G o).2) := by
  have SB := hide S
  have HF := hide F
  clear S F
  obtain ⟨D1, D2, hD⟩ : ∃ D1 D2, Hid (doR c3 c4 G o = (D1, D2)) := ⟨_, _, rfl⟩
  rw [hD.out]
  obtain ⟨W, hW⟩ : ∃ W, Hid (((((w.alloc (.cells ((fc c0 c1 c2 c3 c4)) 23)).alloc (.cells (gc v) 27)).alloc (.cells (oc o) 29)).alloc (.cells (#[.slice none 0 0, .slice none 0 0, .int .i64 0, .int .i64 0]) 27)).alloc (.cells (#[.int .i64 0, .int .i64 0, .slice none 0 0, .slice none 0 0, .slice none 0 0]) 37) = W) := ⟨_, rfl⟩
  have BW : Hid (Below w.heap.size w W) := by show Below _ _ _; rw [← hW.out]; exact ((((((Below.refl _ _).alloc (Nat.le_refl _) _).alloc (by simp) _).alloc (by simp; omega) _).alloc (by simp; omega) _).alloc (by simp; omega) _)
  have HC : Hid (Bx W (w.heap.size) ((fc c0 c1 c2 c3 c4)) 23) := by
    have h := (((((Bx.new w ((fc c0 c1 c2 c3 c4)) 23).alloc (.cells (gc v) 27)).alloc (.cells (oc o) 29)).alloc (.cells (#[.slice none 0 0, .slice none 0 0, .int .i64 0, .int .i64 0]) 27)).alloc (.cells (#[.int .i64 0, .int .i64 0, .slice none 0 0, .slice none 0 0, .slice none 0 0]) 37))
    show Bx _ _ _ _
    rw [← hW.out]
    simpa using h
  have HG : Hid (Bx W (w.heap.size + 1) (gc v) 27) := by
    have h := ((((Bx.new (w.alloc (.cells ((fc c0 c1 c2 c3 c4)) 23)) (gc v) 27).alloc (.cells (oc o) 29)).alloc (.cells (#[.slice none 0 0, .slice none 0 0, .int .i64 0, .int .i64 0]) 27)).alloc (.cells (#[.int .i64 0, .int .i64 0, .slice none 0 0, .slice none 0 0, .slice none 0 0]) 37))
    show Bx _ _ _ _
    rw [← hW.out]
    simpa using h
  have HO : Hid (Bx W (w.heap.size + 2) (oc o) 29) := by
    have h := (((Bx.new ((w.alloc (.cells ((fc c0 c1 c2 c3 c4)) 23)).alloc (.cells (gc v) 27)) (oc o) 29).alloc (.cells (#[.slice none 0 0, .slice none 0 0, .int .i64 0, .int .i64 0]) 27)).alloc (.cells (#[.int .i64 0, .int .i64 0, .slice none 0 0, .slice none 0 0, .slice none 0 0]) 37))
    show Bx _ _ _ _
    rw [← hW.out]
    simpa using h
  have Hg : Hid (Bx W (w.heap.size + 3) (#[.slice none 0 0, .slice none 0 0, .int .i64 0, .int .i64 0]) 27) := by
    have h := ((Bx.new (((w.alloc (.cells ((fc c0 c1 c2 c3 c4)) 23)).alloc (.cells (gc v) 27)).alloc (.cells (oc o) 29)) (#[.slice none 0 0, .slice none 0 0, .int .i64 0, .int .i64 0]) 27).alloc (.cells (#[.int .i64 0, .int .i64 0, .slice none 0 0, .slice none 0 0, .slice none 0 0]) 37))
    show Bx _ _ _ _
    rw [← hW.out]
    simpa using h
  have Hr : Hid (Bx W (w.heap.size + 4) (#[.int .i64 0, .int .i64 0, .slice none 0 0, .slice none 0 0, .slice none 0 0]) 37) := by
    have h := (Bx.new ((((w.alloc (.cells ((fc c0 c1 c2 c3 c4)) 23)).alloc (.cells (gc v) 27)).alloc (.cells (oc o) 29)).alloc (.cells (#[.slice none 0 0, .slice none 0 0, .int .i64 0, .int .i64 0]) 27)) (#[.int .i64 0, .int .i64 0, .slice none 0 0, .slice none 0 0, .slice none 0 0]) 37)
    show Bx _ _ _ _
    rw [← hW.out]
    simpa using h
  go_enter Tryz.func12, Tryz.ntmps12
  go_upto_region 1 with fail
  have hW' := hW.out
  rw [hW']
  clear hW hW'
  have A1 : Hid (Bx (W.alloc (.cells (#[.slice none 0 0, .slice none 0 0, .int .i64 0, .int .i64 0]) 27)) (w.heap.size + 1) (gc v) 27) := HG.out.alloc _
  have A2 : Hid (Bx (W.alloc (.cells (#[.slice none 0 0, .slice none 0 0, .int .i64 0, .int .i64 0]) 27)) W.heap.size (#[.slice none 0 0, .slice none 0 0, .int .i64 0, .int .i64 0]) 27) := Bx.new W (#[.slice none 0 0, .slice none 0 0, .int .i64 0, .int .i64 0]) 27
  have A3 : Hid (Bx (((W.alloc (.cells (#[.slice none 0 0, .slice none 0 0, .int .i64 0, .int .i64 0]) 27)).setRow W.heap.size (gc v)).alloc (.cells (#[.int .i64 0, .int .i64 0, .slice none 0 0, .slice none 0 0, .slice none 0 0]) 37)) (W.heap.size + 1) (#[.int .i64 0, .int .i64 0, .slice none 0 0, .slice none 0 0, .slice none 0 0]) 37) := by have h := Bx.new ((W.alloc (.cells (#[.slice none 0 0, .slice none 0 0, .int .i64 0, .int .i64 0]) 27)).setRow W.heap.size (gc v)) (#[.int .i64 0, .int .i64 0, .slice none 0 0, .slice none 0 0, .slice none 0 0]) 37; show Bx _ _ _ _; simpa using h
  go_upto_region 3 with (first | ((with_reducible refine ldG (.tmp 4) (w.heap.size + 1) (0) ?_ ?_ v ?_ ?_); (exact rfl); (exact rfl); (exact HG.out.lies)) | ((with_reducible refine ldG (.tmp 4) (w.heap.size + 1) (0) ?_ ?_ v ?_ ?_); (exact rfl); (exact rfl); (exact A1.out.lies)) | ((with_reducible refine stG (.tmp 8) (.tmp 10) (W.heap.size) ?_ v ?_ (#[.slice none 0 0, .slice none 0 0, .int .i64 0, .int .i64 0]) ?_ ?_ ?_); (exact rfl); (exact rfl); (exact A2.out); (exact rfl)) | ((with_reducible refine stR (.tmp 9) (.tmp 11) (W.heap.size + 1) ?_ ⟨1, 0, [], [], []⟩ noS3 ?_ (#[.int .i64 0, .int .i64 0, .slice none 0 0, .slice none 0 0, .slice none 0 0]) ?_ ?_ ?_); (exact rfl); (exact rfl); (exact A3.out); (exact rfl)))
  obtain ⟨V, hV⟩ : ∃ V, Hid (((((W.alloc (.cells (#[.slice none 0 0, .slice none 0 0, .int .i64 0, .int .i64 0]) 27)).setRow W.heap.size (gc v)).alloc (.cells (#[.int .i64 0, .int .i64 0, .slice none 0 0, .slice none 0 0, .slice none 0 0]) 37)).setRow (W.heap.size + 1) (rc ⟨1, 0, [], [], []⟩ noS3)) = V) := ⟨_, rfl⟩
  obtain ⟨g1, hg1⟩ : ∃ g, Hid (W.heap.size = g) := ⟨_, rfl⟩
  have BV : Hid (Below W.heap.size W V) := by show Below _ _ _; rw [← hV.out]; exact row_below ((row_below ((Below.refl _ _).alloc (Nat.le_refl _) _) (Nat.le_refl _) _).alloc (by simp) _) (by omega) _
  have Hh : Hid (Bx V g1 (gc v) 27) := by show Bx _ _ _ _; rw [← hV.out, ← hg1.out]; exact (((A2.out.put _).alloc _)).far (by omega) _
  have Hq : Hid (Bx V (g1 + 1) (rc ⟨1, 0, [], [], []⟩ noS3) 37) := by show Bx _ _ _ _; rw [← hV.out, ← hg1.out]; exact A3.out.put _
  have hgl : Hid (w.heap.size + 4 < g1) := by show _ < _; rw [← hg1.out]; exact Hr.out.lt
  have HC := hide (HC.out.step BV.out)
  have HG := hide (HG.out.step BV.out)
  have HO := hide (HO.out.step BV.out)
  have Hg := hide (Hg.out.step BV.out)
  have Hr := hide (Hr.out.step BV.out)
  have BW := hide (BW.out.trans (BV.out.mono BW.out.size))
  clear BV A1 A2 A3
  have hV' := hV.out
  have hg' := hg1.out
  rw [hV', hg']
  clear hV hg1 hV' hg'
  obtain ⟨kd, hkd⟩ : ∃ k, Hid (o.k = k) := ⟨_, rfl⟩
  have k0 : V.cell? ⟨w.heap.size + 2, 0, none⟩ = some (.int .i64 kd) := by rw [← hkd.out]; exact HO.out.o0
  have l0 := HO.out.lt
  go_upto_if 14 with (fail)
  clear k0 l0
  rw [inBlock_then]
  go_cut [] (fun wx => ∃ (v' : Gv) (s' : S3) (R : GL) (r : RL), Hid (inR c3 c4 G o = (R, r)) ∧ Hid (Bx wx (w.heap.size + 1) (gc v) 27) ∧ Hid (Bx wx (w.heap.size + 3) (#[.slice none 0 0, .slice none 0 0, .int .i64 0, .int .i64 0]) 27) ∧ Hid (Bx wx (w.heap.size + 4) (#[.int .i64 0, .int .i64 0, .slice none 0 0, .slice none 0 0, .slice none 0 0]) 37) ∧ Hid (Bx wx g1 (gc v') 27) ∧ Hid (Bx wx (g1 + 1) (rc r s') 37) ∧ Hid (Sees wx wx.heap.size v' R) ∧ Hid (ROwn wx w.heap.size s' r) ∧ Hid (Below w.heap.size w wx))
  case first =>
    have SV := hide (sees_at SB.out BW.out)
    have HS := hide (HF.out.small (by decide))
    by_cases hin : 1 ≤ kd ∧ kd ≤ 9
    case neg =>
      have y1 : (kd == 1) = false := by simp; omega
      have y2 : (kd == 2) = false := by simp; omega
      have y3 : (kd == 3) = false := by simp; omega
      have y4 : (kd == 4) = false := by simp; omega
      have y5 : (kd == 5) = false := by simp; omega
      have y6 : (kd == 6) = false := by simp; omega
      have y7 : (kd == 7) = false := by simp; omega
      have y8 : (kd == 8) = false := by simp; omega
      have y9 : (kd == 9) = false := by simp; omega
      have HI : Hid (inR c3 c4 G o = (G, ⟨1, 0, [], [], []⟩)) := by show _ = _; have h := hkd.out; unfold inR; rw [if_neg (by omega), if_neg (by omega), if_neg (by omega), if_neg (by omega), if_neg (by omega), if_neg (by omega), if_neg (by omega), if_neg (by omega), if_neg (by omega)]
      clear hin
      go_wp2
      go_meet
      case rel => exact ⟨v, noS3, G, _, HI, HG, Hg, Hr, Hh, Hq, SV, ROwn.nil, BW⟩
    have hc : kd = 1 ∨ kd = 2 ∨ kd = 3 ∨ kd = 4 ∨ kd = 5 ∨ kd = 6 ∨ kd = 7 ∨ kd = 8 ∨ kd = 9 := by omega
    clear hin
    rcases hc with rfl | rfl | rfl | rfl | rfl | rfl | rfl | rfl | rfl
    · obtain ⟨id, er, R, hr⟩ : ∃ id er R, Hid (addR c3 G = (id, er, R)) := ⟨_, _, _, rfl⟩
      have HI : Hid (inR c3 c4 G o = (R, ⟨er, id, [], [], []⟩)) := by show _ = _; unfold inR; simp [hkd.out, hr.out]
      go_wp2_with (first | ((with_reducible refine ldG (.tmp 4) (w.heap.size + 1) (0) ?_ ?_ v ?_ ?_); (exact rfl); (exact rfl); (exact HG.out.lies)) | ((with_reducible refine ldC (.tmp 3) (w.heap.size) (0) ?_ ?_ c0 c1 c2 c3 c4 ?_ ?_); (exact rfl); (exact rfl); (exact HC.out.lies)))
      refine (radd_any c0 c1 c2 c3 c4 v G R id er V SV.out HS.out hr).mono ?_
      rintro e u1 ⟨v', rfl, hm, hb⟩
      have OG : Hid (Has u1 w.heap.size v' R) := Has.less hm.out BW.out.size
      clear hm 
      have HC := hide (HC.out.step hb.out)
      have HG := hide (HG.out.step hb.out)
      have HO := hide (HO.out.step hb.out)
      have Hg := hide (Hg.out.step hb.out)
      have Hr := hide (Hr.out.step hb.out)
      have Hh := hide (Hh.out.step hb.out)
      have Hq := hide (Hq.out.step hb.out)
      have BW := hide (BW.out.trans (hb.out.mono BW.out.size))
      clear hb
      have Q0 : Hid (Bx (u1.setRow g1 (gc v')) (g1 + 1) (rc ⟨1, 0, [], [], []⟩ noS3) 37) := Hq.out.far (by omega) _
      have k0 := Q0.out.cells 1
      have f0 := Q0.out.frozen 1
      have l0 := Q0.out.lt
      have k0 : ((u1.setRow g1 (gc v'))).cell? ⟨g1 + 1, 1, none⟩ = some (.int .i64 0) := k0
      have Q1 : Hid (Bx (((u1.setRow g1 (gc v'))).setCell ⟨g1 + 1, 1, none⟩ (.int .i64 id)) (g1 + 1) _ 37) := bx_set Q0.out
      have k1 := Q1.out.cells 0
      have f1 := Q1.out.frozen 0
      have l1 := Q1.out.lt
      have k1 : ((((u1.setRow g1 (gc v'))).setCell ⟨g1 + 1, 1, none⟩ (.int .i64 id))).cell? ⟨g1 + 1, 0, none⟩ = some (.int .i64 1) := k1
      have Q2 : Hid (Bx (((((u1.setRow g1 (gc v'))).setCell ⟨g1 + 1, 1, none⟩ (.int .i64 id))).setCell ⟨g1 + 1, 0, none⟩ (.int .i64 er)) (g1 + 1) _ 37) := bx_set Q1.out
      go_wp2_with (((with_reducible refine stG (.tmp 8) (.tmp 20) (g1) ?_ v' ?_ (gc v) ?_ ?_ ?_); (exact rfl); (exact rfl); (exact Hh.out); (exact rfl)))
      have BF : Hid (Below w.heap.size w (((((u1.setRow g1 (gc v'))).setCell ⟨g1 + 1, 1, none⟩ (.int .i64 id))).setCell ⟨g1 + 1, 0, none⟩ (.int .i64 er))) := set_below (set_below (row_below BW.out (by have := hgl.out; omega) _) (by have := hgl.out; omega)) (by have := hgl.out; omega)
      have PG : Hid (Bx (((((u1.setRow g1 (gc v'))).setCell ⟨g1 + 1, 1, none⟩ (.int .i64 id))).setCell ⟨g1 + 1, 0, none⟩ (.int .i64 er)) (w.heap.size + 1) (gc v) 27) := (((HG.out.far (k := g1) (by have := hgl.out; omega) _).other (k := g1 + 1) (by have := hgl.out; omega) _ _).other (k := g1 + 1) (by have := hgl.out; omega) _ _)
      have Pg : Hid (Bx (((((u1.setRow g1 (gc v'))).setCell ⟨g1 + 1, 1, none⟩ (.int .i64 id))).setCell ⟨g1 + 1, 0, none⟩ (.int .i64 er)) (w.heap.size + 3) (#[.slice none 0 0, .slice none 0 0, .int .i64 0, .int .i64 0]) 27) := (((Hg.out.far (k := g1) (by have := hgl.out; omega) _).other (k := g1 + 1) (by have := hgl.out; omega) _ _).other (k := g1 + 1) (by have := hgl.out; omega) _ _)
      have Pr : Hid (Bx (((((u1.setRow g1 (gc v'))).setCell ⟨g1 + 1, 1, none⟩ (.int .i64 id))).setCell ⟨g1 + 1, 0, none⟩ (.int .i64 er)) (w.heap.size + 4) (#[.int .i64 0, .int .i64 0, .slice none 0 0, .slice none 0 0, .slice none 0 0]) 37) := (((Hr.out.far (k := g1) (by have := hgl.out; omega) _).other (k := g1 + 1) (by have := hgl.out; omega) _ _).other (k := g1 + 1) (by have := hgl.out; omega) _ _)
      have Ph : Hid (Bx (((((u1.setRow g1 (gc v'))).setCell ⟨g1 + 1, 1, none⟩ (.int .i64 id))).setCell ⟨g1 + 1, 0, none⟩ (.int .i64 er)) g1 (gc v') 27) := (((Hh.out.put (gc v')).other (k := g1 + 1) (by omega) _ _).other (k := g1 + 1) (by omega) _ _)
      have OS : Hid (Sees (((((u1.setRow g1 (gc v'))).setCell ⟨g1 + 1, 1, none⟩ (.int .i64 id))).setCell ⟨g1 + 1, 0, none⟩ (.int .i64 er)) ((((((u1.setRow g1 (gc v'))).setCell ⟨g1 + 1, 1, none⟩ (.int .i64 id))).setCell ⟨g1 + 1, 0, none⟩ (.int .i64 er))).heap.size v' R) := by
        have h := OG.out.row Hh.out apG (gc v')
        have h := has_cell h Q0.out 1 (.int .i64 id)
        have h := has_cell h Q1.out 0 (.int .i64 er)
        exact h.sees
      go_meet
      case rel => exact ⟨v', noS3, R, ⟨er, id, [], [], []⟩, HI, PG, Pg, Pr, Ph, Q2, OS, ROwn.nil, BF⟩
    · obtain ⟨id, er, R, hr⟩ : ∃ id er R, Hid (linkR c4 G o.a o.b = (id, er, R)) := ⟨_, _, _, rfl⟩
      have HI : Hid (inR c3 c4 G o = (R, ⟨er, id, [], [], []⟩)) := by show _ = _; unfold inR; simp [hkd.out, hr.out]
      have k1 := HO.out.o1
      have k2 := HO.out.o2
      have l0 := HO.out.lt
      go_wp2_with (first | ((with_reducible refine ldG (.tmp 4) (w.heap.size + 1) (0) ?_ ?_ v ?_ ?_); (exact rfl); (exact rfl); (exact HG.out.lies)) | ((with_reducible refine ldC (.tmp 3) (w.heap.size) (0) ?_ ?_ c0 c1 c2 c3 c4 ?_ ?_); (exact rfl); (exact rfl); (exact HC.out.lies)))
      refine (rlink_any c0 c1 c2 c3 c4 v G R o.a o.b id er V SV.out HS.out hr).mono ?_
      rintro e u1 ⟨v', rfl, hm, hb⟩
      have OG : Hid (Has u1 w.heap.size v' R) := Has.less hm.out BW.out.size
      clear hm k1 k2 l0
      have HC := hide (HC.out.step hb.out)
      have HG := hide (HG.out.step hb.out)
      have HO := hide (HO.out.step hb.out)
      have Hg := hide (Hg.out.step hb.out)
      have Hr := hide (Hr.out.step hb.out)
      have Hh := hide (Hh.out.step hb.out)
      have Hq := hide (Hq.out.step hb.out)
      have BW := hide (BW.out.trans (hb.out.mono BW.out.size))
      clear hb
      have Q0 : Hid (Bx (u1.setRow g1 (gc v')) (g1 + 1) (rc ⟨1, 0, [], [], []⟩ noS3) 37) := Hq.out.far (by omega) _
      have k0 := Q0.out.cells 1
      have f0 := Q0.out.frozen 1
      have l0 := Q0.out.lt
      have k0 : ((u1.setRow g1 (gc v'))).cell? ⟨g1 + 1, 1, none⟩ = some (.int .i64 0) := k0
      have Q1 : Hid (Bx (((u1.setRow g1 (gc v'))).setCell ⟨g1 + 1, 1, none⟩ (.int .i64 id)) (g1 + 1) _ 37) := bx_set Q0.out
      have k1 := Q1.out.cells 0
      have f1 := Q1.out.frozen 0
      have l1 := Q1.out.lt
      have k1 : ((((u1.setRow g1 (gc v'))).setCell ⟨g1 + 1, 1, none⟩ (.int .i64 id))).cell? ⟨g1 + 1, 0, none⟩ = some (.int .i64 1) := k1
      have Q2 : Hid (Bx (((((u1.setRow g1 (gc v'))).setCell ⟨g1 + 1, 1, none⟩ (.int .i64 id))).setCell ⟨g1 + 1, 0, none⟩ (.int .i64 er)) (g1 + 1) _ 37) := bx_set Q1.out
      go_wp2_with (((with_reducible refine stG (.tmp 8) (.tmp 35) (g1) ?_ v' ?_ (gc v) ?_ ?_ ?_); (exact rfl); (exact rfl); (exact Hh.out); (exact rfl)))
      have BF : Hid (Below w.heap.size w (((((u1.setRow g1 (gc v'))).setCell ⟨g1 + 1, 1, none⟩ (.int .i64 id))).setCell ⟨g1 + 1, 0, none⟩ (.int .i64 er))) := set_below (set_below (row_below BW.out (by have := hgl.out; omega) _) (by have := hgl.out; omega)) (by have := hgl.out; omega)
      have PG : Hid (Bx (((((u1.setRow g1 (gc v'))).setCell ⟨g1 + 1, 1, none⟩ (.int .i64 id))).setCell ⟨g1 + 1, 0, none⟩ (.int .i64 er)) (w.heap.size + 1) (gc v) 27) := (((HG.out.far (k := g1) (by have := hgl.out; omega) _).other (k := g1 + 1) (by have := hgl.out; omega) _ _).other (k := g1 + 1) (by have := hgl.out; omega) _ _)
      have Pg : Hid (Bx (((((u1.setRow g1 (gc v'))).setCell ⟨g1 + 1, 1, none⟩ (.int .i64 id))).setCell ⟨g1 + 1, 0, none⟩ (.int .i64 er)) (w.heap.size + 3) (#[.slice none 0 0, .slice none 0 0, .int .i64 0, .int .i64 0]) 27) := (((Hg.out.far (k := g1) (by have := hgl.out; omega) _).other (k := g1 + 1) (by have := hgl.out; omega) _ _).other (k := g1 + 1) (by have := hgl.out; omega) _ _)
      have Pr : Hid (Bx (((((u1.setRow g1 (gc v'))).setCell ⟨g1 + 1, 1, none⟩ (.int .i64 id))).setCell ⟨g1 + 1, 0, none⟩ (.int .i64 er)) (w.heap.size + 4) (#[.int .i64 0, .int .i64 0, .slice none 0 0, .slice none 0 0, .slice none 0 0]) 37) := (((Hr.out.far (k := g1) (by have := hgl.out; omega) _).other (k := g1 + 1) (by have := hgl.out; omega) _ _).other (k := g1 + 1) (by have := hgl.out; omega) _ _)
      have Ph : Hid (Bx (((((u1.setRow g1 (gc v'))).setCell ⟨g1 + 1, 1, none⟩ (.int .i64 id))).setCell ⟨g1 + 1, 0, none⟩ (.int .i64 er)) g1 (gc v') 27) := (((Hh.out.put (gc v')).other (k := g1 + 1) (by omega) _ _).other (k := g1 + 1) (by omega) _ _)
      have OS : Hid (Sees (((((u1.setRow g1 (gc v'))).setCell ⟨g1 + 1, 1, none⟩ (.int .i64 id))).setCell ⟨g1 + 1, 0, none⟩ (.int .i64 er)) ((((((u1.setRow g1 (gc v'))).setCell ⟨g1 + 1, 1, none⟩ (.int .i64 id))).setCell ⟨g1 + 1, 0, none⟩ (.int .i64 er))).heap.size v' R) := by
        have h := OG.out.row Hh.out apG (gc v')
        have h := has_cell h Q0.out 1 (.int .i64 id)
        have h := has_cell h Q1.out 0 (.int .i64 er)
        exact h.sees
      go_meet
      case rel => exact ⟨v', noS3, R, ⟨er, id, [], [], []⟩, HI, PG, Pg, Pr, Ph, Q2, OS, ROwn.nil, BF⟩
    · obtain ⟨er, R, hr⟩ : ∃ er R, Hid (cutR G o.a = (er, R)) := ⟨_, _, rfl⟩
      have HI : Hid (inR c3 c4 G o = (R, ⟨er, 0, [], [], []⟩)) := by show _ = _; unfold inR; simp [hkd.out, hr.out]
      have k1 := HO.out.o1
      have l0 := HO.out.lt
      go_wp2_with (first | ((with_reducible refine ldG (.tmp 4) (w.heap.size + 1) (0) ?_ ?_ v ?_ ?_); (exact rfl); (exact rfl); (exact HG.out.lies)))
      refine (rcut_any v G R o.a er V SV.out HS.out hr).mono ?_
      rintro e u1 ⟨v', rfl, hm, hb⟩
      have OG : Hid (Has u1 w.heap.size v' R) := Has.less hm.out BW.out.size
      clear hm k1 l0
      have HC := hide (HC.out.step hb.out)
      have HG := hide (HG.out.step hb.out)
      have HO := hide (HO.out.step hb.out)
      have Hg := hide (Hg.out.step hb.out)
      have Hr := hide (Hr.out.step hb.out)
      have Hh := hide (Hh.out.step hb.out)
      have Hq := hide (Hq.out.step hb.out)
      have BW := hide (BW.out.trans (hb.out.mono BW.out.size))
      clear hb
      have Q0 : Hid (Bx (u1.setRow g1 (gc v')) (g1 + 1) (rc ⟨1, 0, [], [], []⟩ noS3) 37) := Hq.out.far (by omega) _
      have k0 := Q0.out.cells 0
      have f0 := Q0.out.frozen 0
      have l0 := Q0.out.lt
      have k0 : ((u1.setRow g1 (gc v'))).cell? ⟨g1 + 1, 0, none⟩ = some (.int .i64 1) := k0
      have Q1 : Hid (Bx (((u1.setRow g1 (gc v'))).setCell ⟨g1 + 1, 0, none⟩ (.int .i64 er)) (g1 + 1) _ 37) := bx_set Q0.out
      go_wp2_with (((with_reducible refine stG (.tmp 8) (.tmp 47) (g1) ?_ v' ?_ (gc v) ?_ ?_ ?_); (exact rfl); (exact rfl); (exact Hh.out); (exact rfl)))
      have BF : Hid (Below w.heap.size w (((u1.setRow g1 (gc v'))).setCell ⟨g1 + 1, 0, none⟩ (.int .i64 er))) := set_below (row_below BW.out (by have := hgl.out; omega) _) (by have := hgl.out; omega)
      have PG : Hid (Bx (((u1.setRow g1 (gc v'))).setCell ⟨g1 + 1, 0, none⟩ (.int .i64 er)) (w.heap.size + 1) (gc v) 27) := ((HG.out.far (k := g1) (by have := hgl.out; omega) _).other (k := g1 + 1) (by have := hgl.out; omega) _ _)
      have Pg : Hid (Bx (((u1.setRow g1 (gc v'))).setCell ⟨g1 + 1, 0, none⟩ (.int .i64 er)) (w.heap.size + 3) (#[.slice none 0 0, .slice none 0 0, .int .i64 0, .int .i64 0]) 27) := ((Hg.out.far (k := g1) (by have := hgl.out; omega) _).other (k := g1 + 1) (by have := hgl.out; omega) _ _)
      have Pr : Hid (Bx (((u1.setRow g1 (gc v'))).setCell ⟨g1 + 1, 0, none⟩ (.int .i64 er)) (w.heap.size + 4) (#[.int .i64 0, .int .i64 0, .slice none 0 0, .slice none 0 0, .slice none 0 0]) 37) := ((Hr.out.far (k := g1) (by have := hgl.out; omega) _).other (k := g1 + 1) (by have := hgl.out; omega) _ _)
      have Ph : Hid (Bx (((u1.setRow g1 (gc v'))).setCell ⟨g1 + 1, 0, none⟩ (.int .i64 er)) g1 (gc v') 27) := ((Hh.out.put (gc v')).other (k := g1 + 1) (by omega) _ _)
      have OS : Hid (Sees (((u1.setRow g1 (gc v'))).setCell ⟨g1 + 1, 0, none⟩ (.int .i64 er)) ((((u1.setRow g1 (gc v'))).setCell ⟨g1 + 1, 0, none⟩ (.int .i64 er))).heap.size v' R) := by
        have h := OG.out.row Hh.out apG (gc v')
        have h := has_cell h Q0.out 0 (.int .i64 er)
        exact h.sees
      go_meet
      case rel => exact ⟨v', noS3, R, ⟨er, 0, [], [], []⟩, HI, PG, Pg, Pr, Ph, Q1, OS, ROwn.nil, BF⟩
    · obtain ⟨er, R, hr⟩ : ∃ er R, Hid (setR G o.a o.q o.v = (er, R)) := ⟨_, _, rfl⟩
      have HI : Hid (inR c3 c4 G o = (R, ⟨er, 0, [], [], []⟩)) := by show _ = _; unfold inR; simp [hkd.out, hr.out]
      have k1 := HO.out.o1
      have k3 := HO.out.o3
      have k4 := HO.out.o4
      have l0 := HO.out.lt
      go_wp2_with (first | ((with_reducible refine ldG (.tmp 4) (w.heap.size + 1) (0) ?_ ?_ v ?_ ?_); (exact rfl); (exact rfl); (exact HG.out.lies)))
      refine (rset_any v G R o.a o.q o.v er V SV.out HS.out hr).mono ?_
      rintro e u1 ⟨v', rfl, hm, hb⟩
      have OG : Hid (Has u1 w.heap.size v' R) := Has.less hm.out BW.out.size
      clear hm k1 k3 k4 l0
      have HC := hide (HC.out.step hb.out)
      have HG := hide (HG.out.step hb.out)
      have HO := hide (HO.out.step hb.out)
      have Hg := hide (Hg.out.step hb.out)
      have Hr := hide (Hr.out.step hb.out)
      have Hh := hide (Hh.out.step hb.out)
      have Hq := hide (Hq.out.step hb.out)
      have BW := hide (BW.out.trans (hb.out.mono BW.out.size))
      clear hb
      have Q0 : Hid (Bx (u1.setRow g1 (gc v')) (g1 + 1) (rc ⟨1, 0, [], [], []⟩ noS3) 37) := Hq.out.far (by omega) _
      have k0 := Q0.out.cells 0
      have f0 := Q0.out.frozen 0
      have l0 := Q0.out.lt
      have k0 : ((u1.setRow g1 (gc v'))).cell? ⟨g1 + 1, 0, none⟩ = some (.int .i64 1) := k0
      have Q1 : Hid (Bx (((u1.setRow g1 (gc v'))).setCell ⟨g1 + 1, 0, none⟩ (.int .i64 er)) (g1 + 1) _ 37) := bx_set Q0.out
      go_wp2_with (((with_reducible refine stG (.tmp 8) (.tmp 61) (g1) ?_ v' ?_ (gc v) ?_ ?_ ?_); (exact rfl); (exact rfl); (exact Hh.out); (exact rfl)))
      have BF : Hid (Below w.heap.size w (((u1.setRow g1 (gc v'))).setCell ⟨g1 + 1, 0, none⟩ (.int .i64 er))) := set_below (row_below BW.out (by have := hgl.out; omega) _) (by have := hgl.out; omega)
      have PG : Hid (Bx (((u1.setRow g1 (gc v'))).setCell ⟨g1 + 1, 0, none⟩ (.int .i64 er)) (w.heap.size + 1) (gc v) 27) := ((HG.out.far (k := g1) (by have := hgl.out; omega) _).other (k := g1 + 1) (by have := hgl.out; omega) _ _)
      have Pg : Hid (Bx (((u1.setRow g1 (gc v'))).setCell ⟨g1 + 1, 0, none⟩ (.int .i64 er)) (w.heap.size + 3) (#[.slice none 0 0, .slice none 0 0, .int .i64 0, .int .i64 0]) 27) := ((Hg.out.far (k := g1) (by have := hgl.out; omega) _).other (k := g1 + 1) (by have := hgl.out; omega) _ _)
      have Pr : Hid (Bx (((u1.setRow g1 (gc v'))).setCell ⟨g1 + 1, 0, none⟩ (.int .i64 er)) (w.heap.size + 4) (#[.int .i64 0, .int .i64 0, .slice none 0 0, .slice none 0 0, .slice none 0 0]) 37) := ((Hr.out.far (k := g1) (by have := hgl.out; omega) _).other (k := g1 + 1) (by have := hgl.out; omega) _ _)
      have Ph : Hid (Bx (((u1.setRow g1 (gc v'))).setCell ⟨g1 + 1, 0, none⟩ (.int .i64 er)) g1 (gc v') 27) := ((Hh.out.put (gc v')).other (k := g1 + 1) (by omega) _ _)
      have OS : Hid (Sees (((u1.setRow g1 (gc v'))).setCell ⟨g1 + 1, 0, none⟩ (.int .i64 er)) ((((u1.setRow g1 (gc v'))).setCell ⟨g1 + 1, 0, none⟩ (.int .i64 er))).heap.size v' R) := by
        have h := OG.out.row Hh.out apG (gc v')
        have h := has_cell h Q0.out 0 (.int .i64 er)
        exact h.sees
      go_meet
      case rel => exact ⟨v', noS3, R, ⟨er, 0, [], [], []⟩, HI, PG, Pg, Pr, Ph, Q1, OS, ROwn.nil, BF⟩
    · obtain ⟨er, R, hr⟩ : ∃ er R, Hid (delR G o.a o.q = (er, R)) := ⟨_, _, rfl⟩
      have HI : Hid (inR c3 c4 G o = (R, ⟨er, 0, [], [], []⟩)) := by show _ = _; unfold inR; simp [hkd.out, hr.out]
      have k1 := HO.out.o1
      have k3 := HO.out.o3
      have l0 := HO.out.lt
      go_wp2_with (first | ((with_reducible refine ldG (.tmp 4) (w.heap.size + 1) (0) ?_ ?_ v ?_ ?_); (exact rfl); (exact rfl); (exact HG.out.lies)))
      refine (rdel_any v G R o.a o.q er V SV.out HS.out hr).mono ?_
      rintro e u1 ⟨v', rfl, hm, hb⟩
      have OG : Hid (Has u1 w.heap.size v' R) := Has.less hm.out BW.out.size
      clear hm k1 k3 l0
      have HC := hide (HC.out.step hb.out)
      have HG := hide (HG.out.step hb.out)
      have HO := hide (HO.out.step hb.out)
      have Hg := hide (Hg.out.step hb.out)
      have Hr := hide (Hr.out.step hb.out)
      have Hh := hide (Hh.out.step hb.out)
      have Hq := hide (Hq.out.step hb.out)
      have BW := hide (BW.out.trans (hb.out.mono BW.out.size))
      clear hb
      have Q0 : Hid (Bx (u1.setRow g1 (gc v')) (g1 + 1) (rc ⟨1, 0, [], [], []⟩ noS3) 37) := Hq.out.far (by omega) _
      have k0 := Q0.out.cells 0
      have f0 := Q0.out.frozen 0
      have l0 := Q0.out.lt
      have k0 : ((u1.setRow g1 (gc v'))).cell? ⟨g1 + 1, 0, none⟩ = some (.int .i64 1) := k0
      have Q1 : Hid (Bx (((u1.setRow g1 (gc v'))).setCell ⟨g1 + 1, 0, none⟩ (.int .i64 er)) (g1 + 1) _ 37) := bx_set Q0.out
      go_wp2_with (((with_reducible refine stG (.tmp 8) (.tmp 73) (g1) ?_ v' ?_ (gc v) ?_ ?_ ?_); (exact rfl); (exact rfl); (exact Hh.out); (exact rfl)))
      have BF : Hid (Below w.heap.size w (((u1.setRow g1 (gc v'))).setCell ⟨g1 + 1, 0, none⟩ (.int .i64 er))) := set_below (row_below BW.out (by have := hgl.out; omega) _) (by have := hgl.out; omega)
      have PG : Hid (Bx (((u1.setRow g1 (gc v'))).setCell ⟨g1 + 1, 0, none⟩ (.int .i64 er)) (w.heap.size + 1) (gc v) 27) := ((HG.out.far (k := g1) (by have := hgl.out; omega) _).other (k := g1 + 1) (by have := hgl.out; omega) _ _)
      have Pg : Hid (Bx (((u1.setRow g1 (gc v'))).setCell ⟨g1 + 1, 0, none⟩ (.int .i64 er)) (w.heap.size + 3) (#[.slice none 0 0, .slice none 0 0, .int .i64 0, .int .i64 0]) 27) := ((Hg.out.far (k := g1) (by have := hgl.out; omega) _).other (k := g1 + 1) (by have := hgl.out; omega) _ _)
      have Pr : Hid (Bx (((u1.setRow g1 (gc v'))).setCell ⟨g1 + 1, 0, none⟩ (.int .i64 er)) (w.heap.size + 4) (#[.int .i64 0, .int .i64 0, .slice none 0 0, .slice none 0 0, .slice none 0 0]) 37) := ((Hr.out.far (k := g1) (by have := hgl.out; omega) _).other (k := g1 + 1) (by have := hgl.out; omega) _ _)
      have Ph : Hid (Bx (((u1.setRow g1 (gc v'))).setCell ⟨g1 + 1, 0, none⟩ (.int .i64 er)) g1 (gc v') 27) := ((Hh.out.put (gc v')).other (k := g1 + 1) (by omega) _ _)
      have OS : Hid (Sees (((u1.setRow g1 (gc v'))).setCell ⟨g1 + 1, 0, none⟩ (.int .i64 er)) ((((u1.setRow g1 (gc v'))).setCell ⟨g1 + 1, 0, none⟩ (.int .i64 er))).heap.size v' R) := by
        have h := OG.out.row Hh.out apG (gc v')
        have h := has_cell h Q0.out 0 (.int .i64 er)
        exact h.sees
      go_meet
      case rel => exact ⟨v', noS3, R, ⟨er, 0, [], [], []⟩, HI, PG, Pg, Pr, Ph, Q1, OS, ROwn.nil, BF⟩
    · obtain ⟨er, l, hr⟩ : ∃ er l, Hid (getR G o.a = (er, l)) := ⟨_, _, rfl⟩
      have HI : Hid (inR c3 c4 G o = (G, ⟨er, 0, l, [], []⟩)) := by show _ = _; unfold inR; simp [hkd.out, hr.out]
      have k1 := HO.out.o1
      have l0 := HO.out.lt
      go_wp2_with (first | ((with_reducible refine ldG (.tmp 4) (w.heap.size + 1) (0) ?_ ?_ v ?_ ?_); (exact rfl); (exact rfl); (exact HG.out.lies)))
      refine (rget_any v G l o.a er V SV.out HS.out hr).mono ?_
      rintro e u1 ⟨h, rfl, hm, hb⟩
      have OR : Hid (ROwn u1 w.heap.size ⟨h, noSl, noSl⟩ ⟨er, 0, l, [], []⟩) := ⟨own_less hm.out BW.out.size, World.ownsRow_nil _ _ _ _, World.ownsRow_nil _ _ _ _⟩
      clear hm k1 l0
      have HC := hide (HC.out.step hb.out)
      have HG := hide (HG.out.step hb.out)
      have HO := hide (HO.out.step hb.out)
      have Hg := hide (Hg.out.step hb.out)
      have Hr := hide (Hr.out.step hb.out)
      have Hh := hide (Hh.out.step hb.out)
      have Hq := hide (Hq.out.step hb.out)
      have BW := hide (BW.out.trans (hb.out.mono BW.out.size))
      clear hb
      have Q0 := Hq
      have k0 := Q0.out.cells 2
      have f0 := Q0.out.frozen 2
      have l0 := Q0.out.lt
      have k0 : (u1).cell? ⟨g1 + 1, 2, none⟩ = some (.slice none 0 0) := k0
      have Q1 : Hid (Bx ((u1).setCell ⟨g1 + 1, 2, none⟩ (.slice h.A h.n h.c)) (g1 + 1) _ 37) := bx_set Q0.out
      have k1 := Q1.out.cells 0
      have f1 := Q1.out.frozen 0
      have l1 := Q1.out.lt
      have k1 : (((u1).setCell ⟨g1 + 1, 2, none⟩ (.slice h.A h.n h.c))).cell? ⟨g1 + 1, 0, none⟩ = some (.int .i64 1) := k1
      have Q2 : Hid (Bx ((((u1).setCell ⟨g1 + 1, 2, none⟩ (.slice h.A h.n h.c))).setCell ⟨g1 + 1, 0, none⟩ (.int .i64 er)) (g1 + 1) _ 37) := bx_set Q1.out
      go_wp2_with fail
      have BF : Hid (Below w.heap.size w ((((u1).setCell ⟨g1 + 1, 2, none⟩ (.slice h.A h.n h.c))).setCell ⟨g1 + 1, 0, none⟩ (.int .i64 er))) := set_below (set_below (BW.out) (by have := hgl.out; omega)) (by have := hgl.out; omega)
      have PG : Hid (Bx ((((u1).setCell ⟨g1 + 1, 2, none⟩ (.slice h.A h.n h.c))).setCell ⟨g1 + 1, 0, none⟩ (.int .i64 er)) (w.heap.size + 1) (gc v) 27) := ((HG.out.other (k := g1 + 1) (by have := hgl.out; omega) _ _).other (k := g1 + 1) (by have := hgl.out; omega) _ _)
      have Pg : Hid (Bx ((((u1).setCell ⟨g1 + 1, 2, none⟩ (.slice h.A h.n h.c))).setCell ⟨g1 + 1, 0, none⟩ (.int .i64 er)) (w.heap.size + 3) (#[.slice none 0 0, .slice none 0 0, .int .i64 0, .int .i64 0]) 27) := ((Hg.out.other (k := g1 + 1) (by have := hgl.out; omega) _ _).other (k := g1 + 1) (by have := hgl.out; omega) _ _)
      have Pr : Hid (Bx ((((u1).setCell ⟨g1 + 1, 2, none⟩ (.slice h.A h.n h.c))).setCell ⟨g1 + 1, 0, none⟩ (.int .i64 er)) (w.heap.size + 4) (#[.int .i64 0, .int .i64 0, .slice none 0 0, .slice none 0 0, .slice none 0 0]) 37) := ((Hr.out.other (k := g1 + 1) (by have := hgl.out; omega) _ _).other (k := g1 + 1) (by have := hgl.out; omega) _ _)
      have Ph : Hid (Bx ((((u1).setCell ⟨g1 + 1, 2, none⟩ (.slice h.A h.n h.c))).setCell ⟨g1 + 1, 0, none⟩ (.int .i64 er)) g1 (gc v) 27) := ((Hh.out.other (k := g1 + 1) (by omega) _ _).other (k := g1 + 1) (by omega) _ _)
      have OS : Hid (Sees ((((u1).setCell ⟨g1 + 1, 2, none⟩ (.slice h.A h.n h.c))).setCell ⟨g1 + 1, 0, none⟩ (.int .i64 er)) (((((u1).setCell ⟨g1 + 1, 2, none⟩ (.slice h.A h.n h.c))).setCell ⟨g1 + 1, 0, none⟩ (.int .i64 er))).heap.size v G) := sees_at SB.out BF.out
      have OF : Hid (ROwn ((((u1).setCell ⟨g1 + 1, 2, none⟩ (.slice h.A h.n h.c))).setCell ⟨g1 + 1, 0, none⟩ (.int .i64 er)) w.heap.size ⟨h, noSl, noSl⟩ ⟨er, 0, l, [], []⟩) := by
        have hr0 := OR.out
        have hr0 := rown_cell hr0 Q0.out 2 (.slice h.A h.n h.c)
        have hr0 := rown_cell hr0 Q1.out 0 (.int .i64 er)
        exact hr0
      go_meet
      case rel => exact ⟨v, ⟨h, noSl, noSl⟩, G, ⟨er, 0, l, [], []⟩, HI, PG, Pg, Pr, Ph, Q2, OS, OF, BF⟩
    · obtain ⟨er, p, q, hr⟩ : ∃ er p q, Hid (nearR G o.a = (er, p, q)) := ⟨_, _, _, rfl⟩
      have HI : Hid (inR c3 c4 G o = (G, ⟨er, 0, [], p, q⟩)) := by show _ = _; unfold inR; simp [hkd.out, hr.out]
      have k1 := HO.out.o1
      have l0 := HO.out.lt
      go_wp2_with (first | ((with_reducible refine ldG (.tmp 4) (w.heap.size + 1) (0) ?_ ?_ v ?_ ?_); (exact rfl); (exact rfl); (exact HG.out.lies)))
      refine (rnear_any v G p q o.a er V SV.out HS.out hr).mono ?_
      rintro e u1 ⟨h, h2, rfl, hm, hm2, hb⟩
      have OR : Hid (ROwn u1 w.heap.size ⟨noSl, h, h2⟩ ⟨er, 0, [], p, q⟩) := ⟨World.ownsRow_nil _ _ _ _, own_less hm.out BW.out.size, own_less hm2.out BW.out.size⟩
      clear hm2
      clear hm k1 l0
      have HC := hide (HC.out.step hb.out)
      have HG := hide (HG.out.step hb.out)
      have HO := hide (HO.out.step hb.out)
      have Hg := hide (Hg.out.step hb.out)
      have Hr := hide (Hr.out.step hb.out)
      have Hh := hide (Hh.out.step hb.out)
      have Hq := hide (Hq.out.step hb.out)
      have BW := hide (BW.out.trans (hb.out.mono BW.out.size))
      clear hb
      have Q0 := Hq
      have k0 := Q0.out.cells 3
      have f0 := Q0.out.frozen 3
      have l0 := Q0.out.lt
      have k0 : (u1).cell? ⟨g1 + 1, 3, none⟩ = some (.slice none 0 0) := k0
      have Q1 : Hid (Bx ((u1).setCell ⟨g1 + 1, 3, none⟩ (.slice h.A h.n h.c)) (g1 + 1) _ 37) := bx_set Q0.out
      have k1 := Q1.out.cells 4
      have f1 := Q1.out.frozen 4
      have l1 := Q1.out.lt
      have k1 : (((u1).setCell ⟨g1 + 1, 3, none⟩ (.slice h.A h.n h.c))).cell? ⟨g1 + 1, 4, none⟩ = some (.slice none 0 0) := k1
      have Q2 : Hid (Bx ((((u1).setCell ⟨g1 + 1, 3, none⟩ (.slice h.A h.n h.c))).setCell ⟨g1 + 1, 4, none⟩ (.slice h2.A h2.n h2.c)) (g1 + 1) _ 37) := bx_set Q1.out
      have k2 := Q2.out.cells 0
      have f2 := Q2.out.frozen 0
      have l2 := Q2.out.lt
      have k2 : (((((u1).setCell ⟨g1 + 1, 3, none⟩ (.slice h.A h.n h.c))).setCell ⟨g1 + 1, 4, none⟩ (.slice h2.A h2.n h2.c))).cell? ⟨g1 + 1, 0, none⟩ = some (.int .i64 1) := k2
      have Q3 : Hid (Bx ((((((u1).setCell ⟨g1 + 1, 3, none⟩ (.slice h.A h.n h.c))).setCell ⟨g1 + 1, 4, none⟩ (.slice h2.A h2.n h2.c))).setCell ⟨g1 + 1, 0, none⟩ (.int .i64 er)) (g1 + 1) _ 37) := bx_set Q2.out
      go_wp2_with fail
      have BF : Hid (Below w.heap.size w ((((((u1).setCell ⟨g1 + 1, 3, none⟩ (.slice h.A h.n h.c))).setCell ⟨g1 + 1, 4, none⟩ (.slice h2.A h2.n h2.c))).setCell ⟨g1 + 1, 0, none⟩ (.int .i64 er))) := set_below (set_below (set_below (BW.out) (by have := hgl.out; omega)) (by have := hgl.out; omega)) (by have := hgl.out; omega)
      have PG : Hid (Bx ((((((u1).setCell ⟨g1 + 1, 3, none⟩ (.slice h.A h.n h.c))).setCell ⟨g1 + 1, 4, none⟩ (.slice h2.A h2.n h2.c))).setCell ⟨g1 + 1, 0, none⟩ (.int .i64 er)) (w.heap.size + 1) (gc v) 27) := (((HG.out.other (k := g1 + 1) (by have := hgl.out; omega) _ _).other (k := g1 + 1) (by have := hgl.out; omega) _ _).other (k := g1 + 1) (by have := hgl.out; omega) _ _)
      have Pg : Hid (Bx ((((((u1).setCell ⟨g1 + 1, 3, none⟩ (.slice h.A h.n h.c))).setCell ⟨g1 + 1, 4, none⟩ (.slice h2.A h2.n h2.c))).setCell ⟨g1 + 1, 0, none⟩ (.int .i64 er)) (w.heap.size + 3) (#[.slice none 0 0, .slice none 0 0, .int .i64 0, .int .i64 0]) 27) := (((Hg.out.other (k := g1 + 1) (by have := hgl.out; omega) _ _).other (k := g1 + 1) (by have := hgl.out; omega) _ _).other (k := g1 + 1) (by have := hgl.out; omega) _ _)
      have Pr : Hid (Bx ((((((u1).setCell ⟨g1 + 1, 3, none⟩ (.slice h.A h.n h.c))).setCell ⟨g1 + 1, 4, none⟩ (.slice h2.A h2.n h2.c))).setCell ⟨g1 + 1, 0, none⟩ (.int .i64 er)) (w.heap.size + 4) (#[.int .i64 0, .int .i64 0, .slice none 0 0, .slice none 0 0, .slice none 0 0]) 37) := (((Hr.out.other (k := g1 + 1) (by have := hgl.out; omega) _ _).other (k := g1 + 1) (by have := hgl.out; omega) _ _).other (k := g1 + 1) (by have := hgl.out; omega) _ _)
      have Ph : Hid (Bx ((((((u1).setCell ⟨g1 + 1, 3, none⟩ (.slice h.A h.n h.c))).setCell ⟨g1 + 1, 4, none⟩ (.slice h2.A h2.n h2.c))).setCell ⟨g1 + 1, 0, none⟩ (.int .i64 er)) g1 (gc v) 27) := (((Hh.out.other (k := g1 + 1) (by omega) _ _).other (k := g1 + 1) (by omega) _ _).other (k := g1 + 1) (by omega) _ _)
      have OS : Hid (Sees ((((((u1).setCell ⟨g1 + 1, 3, none⟩ (.slice h.A h.n h.c))).setCell ⟨g1 + 1, 4, none⟩ (.slice h2.A h2.n h2.c))).setCell ⟨g1 + 1, 0, none⟩ (.int .i64 er)) (((((((u1).setCell ⟨g1 + 1, 3, none⟩ (.slice h.A h.n h.c))).setCell ⟨g1 + 1, 4, none⟩ (.slice h2.A h2.n h2.c))).setCell ⟨g1 + 1, 0, none⟩ (.int .i64 er))).heap.size v G) := sees_at SB.out BF.out
      have OF : Hid (ROwn ((((((u1).setCell ⟨g1 + 1, 3, none⟩ (.slice h.A h.n h.c))).setCell ⟨g1 + 1, 4, none⟩ (.slice h2.A h2.n h2.c))).setCell ⟨g1 + 1, 0, none⟩ (.int .i64 er)) w.heap.size ⟨noSl, h, h2⟩ ⟨er, 0, [], p, q⟩) := by
        have hr0 := OR.out
        have hr0 := rown_cell hr0 Q0.out 3 (.slice h.A h.n h.c)
        have hr0 := rown_cell hr0 Q1.out 4 (.slice h2.A h2.n h2.c)
        have hr0 := rown_cell hr0 Q2.out 0 (.int .i64 er)
        exact hr0
      go_meet
      case rel => exact ⟨v, ⟨noSl, h, h2⟩, G, ⟨er, 0, [], p, q⟩, HI, PG, Pg, Pr, Ph, Q3, OS, OF, BF⟩
    · obtain ⟨er, R, hr⟩ : ∃ er R, Hid (dropR G o.a = (er, R)) := ⟨_, _, rfl⟩
      have HI : Hid (inR c3 c4 G o = (R, ⟨er, 0, [], [], []⟩)) := by show _ = _; unfold inR; simp [hkd.out, hr.out]
      have k1 := HO.out.o1
      have l0 := HO.out.lt
      go_wp2_with (first | ((with_reducible refine ldG (.tmp 4) (w.heap.size + 1) (0) ?_ ?_ v ?_ ?_); (exact rfl); (exact rfl); (exact HG.out.lies)))
      refine (rdrop_any v G R o.a er V SV.out HS.out hr).mono ?_
      rintro e u1 ⟨v', rfl, hm, hb⟩
      have OG : Hid (Has u1 w.heap.size v' R) := Has.less hm.out BW.out.size
      clear hm k1 l0
      have HC := hide (HC.out.step hb.out)
      have HG := hide (HG.out.step hb.out)
      have HO := hide (HO.out.step hb.out)
      have Hg := hide (Hg.out.step hb.out)
      have Hr := hide (Hr.out.step hb.out)
      have Hh := hide (Hh.out.step hb.out)
      have Hq := hide (Hq.out.step hb.out)
      have BW := hide (BW.out.trans (hb.out.mono BW.out.size))
      clear hb
      have Q0 : Hid (Bx (u1.setRow g1 (gc v')) (g1 + 1) (rc ⟨1, 0, [], [], []⟩ noS3) 37) := Hq.out.far (by omega) _
      have k0 := Q0.out.cells 0
      have f0 := Q0.out.frozen 0
      have l0 := Q0.out.lt
      have k0 : ((u1.setRow g1 (gc v'))).cell? ⟨g1 + 1, 0, none⟩ = some (.int .i64 1) := k0
      have Q1 : Hid (Bx (((u1.setRow g1 (gc v'))).setCell ⟨g1 + 1, 0, none⟩ (.int .i64 er)) (g1 + 1) _ 37) := bx_set Q0.out
      go_wp2_with (((with_reducible refine stG (.tmp 8) (.tmp 107) (g1) ?_ v' ?_ (gc v) ?_ ?_ ?_); (exact rfl); (exact rfl); (exact Hh.out); (exact rfl)))
      have BF : Hid (Below w.heap.size w (((u1.setRow g1 (gc v'))).setCell ⟨g1 + 1, 0, none⟩ (.int .i64 er))) := set_below (row_below BW.out (by have := hgl.out; omega) _) (by have := hgl.out; omega)
      have PG : Hid (Bx (((u1.setRow g1 (gc v'))).setCell ⟨g1 + 1, 0, none⟩ (.int .i64 er)) (w.heap.size + 1) (gc v) 27) := ((HG.out.far (k := g1) (by have := hgl.out; omega) _).other (k := g1 + 1) (by have := hgl.out; omega) _ _)
      have Pg : Hid (Bx (((u1.setRow g1 (gc v'))).setCell ⟨g1 + 1, 0, none⟩ (.int .i64 er)) (w.heap.size + 3) (#[.slice none 0 0, .slice none 0 0, .int .i64 0, .int .i64 0]) 27) := ((Hg.out.far (k := g1) (by have := hgl.out; omega) _).other (k := g1 + 1) (by have := hgl.out; omega) _ _)
      have Pr : Hid (Bx (((u1.setRow g1 (gc v'))).setCell ⟨g1 + 1, 0, none⟩ (.int .i64 er)) (w.heap.size + 4) (#[.int .i64 0, .int .i64 0, .slice none 0 0, .slice none 0 0, .slice none 0 0]) 37) := ((Hr.out.far (k := g1) (by have := hgl.out; omega) _).other (k := g1 + 1) (by have := hgl.out; omega) _ _)
      have Ph : Hid (Bx (((u1.setRow g1 (gc v'))).setCell ⟨g1 + 1, 0, none⟩ (.int .i64 er)) g1 (gc v') 27) := ((Hh.out.put (gc v')).other (k := g1 + 1) (by omega) _ _)
      have OS : Hid (Sees (((u1.setRow g1 (gc v'))).setCell ⟨g1 + 1, 0, none⟩ (.int .i64 er)) ((((u1.setRow g1 (gc v'))).setCell ⟨g1 + 1, 0, none⟩ (.int .i64 er))).heap.size v' R) := by
        have h := OG.out.row Hh.out apG (gc v')
        have h := has_cell h Q0.out 0 (.int .i64 er)
        exact h.sees
      go_meet
      case rel => exact ⟨v', noS3, R, ⟨er, 0, [], [], []⟩, HI, PG, Pg, Pr, Ph, Q1, OS, ROwn.nil, BF⟩
    · obtain ⟨er, R, hr⟩ : ∃ er R, Hid (fuseR G o.a o.b (fuseAt G o.a o.b) = (er, R)) := ⟨_, _, rfl⟩
      have HI : Hid (inR c3 c4 G o = (R, ⟨er, 0, [], [], []⟩)) := by show _ = _; unfold inR; simp [hkd.out, hr.out]
      have k1 := HO.out.o1
      have k2 := HO.out.o2
      have l0 := HO.out.lt
      go_wp2_with (first | ((with_reducible refine ldG (.tmp 4) (w.heap.size + 1) (0) ?_ ?_ v ?_ ?_); (exact rfl); (exact rfl); (exact HG.out.lies)))
      refine (rfuse_any v G R o.a o.b er (fuseAt G o.a o.b) V SV.out HS.out (by have h1 := HF.out.prs (posN G o.a); have h2 := HF.out.prs (posN G o.b); omega) (HF.out.rise _) (HF.out.rise _) (hide (fuse_one HF.out)) hr).mono ?_
      rintro e u1 ⟨v', rfl, hm, hb⟩
      have OG : Hid (Has u1 w.heap.size v' R) := Has.less hm.out BW.out.size
      clear hm k1 k2 l0
      have HC := hide (HC.out.step hb.out)
      have HG := hide (HG.out.step hb.out)
      have HO := hide (HO.out.step hb.out)
      have Hg := hide (Hg.out.step hb.out)
      have Hr := hide (Hr.out.step hb.out)
      have Hh := hide (Hh.out.step hb.out)
      have Hq := hide (Hq.out.step hb.out)
      have BW := hide (BW.out.trans (hb.out.mono BW.out.size))
      clear hb
      have Q0 : Hid (Bx (u1.setRow g1 (gc v')) (g1 + 1) (rc ⟨1, 0, [], [], []⟩ noS3) 37) := Hq.out.far (by omega) _
      have k0 := Q0.out.cells 0
      have f0 := Q0.out.frozen 0
      have l0 := Q0.out.lt
      have k0 : ((u1.setRow g1 (gc v'))).cell? ⟨g1 + 1, 0, none⟩ = some (.int .i64 1) := k0
      have Q1 : Hid (Bx (((u1.setRow g1 (gc v'))).setCell ⟨g1 + 1, 0, none⟩ (.int .i64 er)) (g1 + 1) _ 37) := bx_set Q0.out
      go_wp2_with (((with_reducible refine stG (.tmp 8) (.tmp 119) (g1) ?_ v' ?_ (gc v) ?_ ?_ ?_); (exact rfl); (exact rfl); (exact Hh.out); (exact rfl)))
      have BF : Hid (Below w.heap.size w (((u1.setRow g1 (gc v'))).setCell ⟨g1 + 1, 0, none⟩ (.int .i64 er))) := set_below (row_below BW.out (by have := hgl.out; omega) _) (by have := hgl.out; omega)
      have PG : Hid (Bx (((u1.setRow g1 (gc v'))).setCell ⟨g1 + 1, 0, none⟩ (.int .i64 er)) (w.heap.size + 1) (gc v) 27) := ((HG.out.far (k := g1) (by have := hgl.out; omega) _).other (k := g1 + 1) (by have := hgl.out; omega) _ _)
      have Pg : Hid (Bx (((u1.setRow g1 (gc v'))).setCell ⟨g1 + 1, 0, none⟩ (.int .i64 er)) (w.heap.size + 3) (#[.slice none 0 0, .slice none 0 0, .int .i64 0, .int .i64 0]) 27) := ((Hg.out.far (k := g1) (by have := hgl.out; omega) _).other (k := g1 + 1) (by have := hgl.out; omega) _ _)
      have Pr : Hid (Bx (((u1.setRow g1 (gc v'))).setCell ⟨g1 + 1, 0, none⟩ (.int .i64 er)) (w.heap.size + 4) (#[.int .i64 0, .int .i64 0, .slice none 0 0, .slice none 0 0, .slice none 0 0]) 37) := ((Hr.out.far (k := g1) (by have := hgl.out; omega) _).other (k := g1 + 1) (by have := hgl.out; omega) _ _)
      have Ph : Hid (Bx (((u1.setRow g1 (gc v'))).setCell ⟨g1 + 1, 0, none⟩ (.int .i64 er)) g1 (gc v') 27) := ((Hh.out.put (gc v')).other (k := g1 + 1) (by omega) _ _)
      have OS : Hid (Sees (((u1.setRow g1 (gc v'))).setCell ⟨g1 + 1, 0, none⟩ (.int .i64 er)) ((((u1.setRow g1 (gc v'))).setCell ⟨g1 + 1, 0, none⟩ (.int .i64 er))).heap.size v' R) := by
        have h := OG.out.row Hh.out apG (gc v')
        have h := has_cell h Q0.out 0 (.int .i64 er)
        exact h.sees
      go_meet
      case rel => exact ⟨v', noS3, R, ⟨er, 0, [], [], []⟩, HI, PG, Pg, Pr, Ph, Q1, OS, ROwn.nil, BF⟩
  obtain ⟨v', s', R, r, hr, HG, Hg, Hr, Hh, Hq, OS, OR, BW⟩ := hcut
  obtain ⟨er, her⟩ : ∃ er, Hid (r.er = er) := ⟨_, rfl⟩
  have k0 : wc.cell? ⟨g1 + 1, 0, none⟩ = some (.int .i64 er) := by rw [← her.out]; exact Hq.out.r0
  have l0 := Hq.out.lt
  by_cases h0 : er = 0
  · subst h0
    obtain ⟨rfl, rfl⟩ : R = D1 ∧ r = D2 := by have h := (doR_ok hr.out her.out).symm.trans hD.out; simpa using h
    have FR : Hid (Few 141 R) := by show Few _ _; have h := few_do (c3 := c3) (c4 := c4) (o := o) HF.out; rw [hD.out] at h; exact h
    go_upto_region 24 with fail
    clear k0 l0
    have D0 := hide ((Below.refl wc.heap.size wc).drew)
    refine wp_region_held_drew (S := fun u => Bx u g1 (gc v') 27 ∧ Bx u (g1 + 1) (rc r s') 37) (by kernel_rfl) ⟨Hh.out.step D0.out, Hq.out.step D0.out⟩ (fun hS => ?_)
    refine wpAnyH_take (i := 0) (v := (.agg (gc v'))) rfl (by kernel_rfl) (by kernel_rfl) (by kernel_rfl) (fun _ _ _ h => h) (Or.inl ⟨by kernel_rfl, fun u hu => xlG (.tmp 8) g1 0 rfl v' hu.1.lies⟩) hS ?_
    refine wpAnyH_take (i := 2) (v := (.agg (rc r s'))) rfl (by kernel_rfl) (by kernel_rfl) (by kernel_rfl) (fun _ _ _ h => h) (Or.inl ⟨by kernel_rfl, fun u hu => xlR (.tmp 9) (g1 + 1) 0 rfl r s' hu.2.lies⟩) hS ?_
    refine wpAnyH_ready (rs := [1]) (by kernel_rfl) (by simp) ?_
    refine AllReadyH.cons rfl (fun K hK => ?_) AllReadyH.nil
    go_simp
    refine (copy_any v' R wc.drew (OS.out.step D0.out) (by have h1 := OS.out.nodes.1; have h2 := FR.out.n; omega) (by have h1 := edges_len OS.out.edges; have h2 := FR.out.e; omega) (fun j hj => by have h1 := FR.out.prs j; have h2 : (prsAt R j).length = (R.N.getD j (0, [])).2.length := rfl; omega)).mono ?_
    rintro e u3 ⟨v3, L3, rfl, hm, hb⟩
    have OG3 : Hid (Has u3 w.heap.size v3 R) := Has.less ⟨L3, hm.out⟩ BW.out.size
    have B3 : Hid (Below w.heap.size w u3) := (Below.drew BW.out).trans (hb.out.mono BW.out.size)
    have hb3 : Below wc.heap.size wc u3 := D0.out.trans hb.out
    have OR3 := hide (OR.out.step hb3)
    have G3 := hide (Hg.out.step hb3)
    have R3 := hide (Hr.out.step hb3)
    refine hK.out _ _ ⟨Hh.out.step hb3, Hq.out.step hb3⟩ (fun hS1 => ?_)
    clear hK K hm
    refine wpAnyH_ready (rs := [3]) (by kernel_rfl) (by simp) ?_
    refine AllReadyH.cons rfl (fun K hK => ?_) AllReadyH.nil
    rw [if_pos (by kernel_rfl)]
    refine wp_store_row 27 (.tmp 6) (.tmp 127) rfl (w.heap.size + 3) (gc v3) rfl rfl 27 (#[.slice none 0 0, .slice none 0 0, .int .i64 0, .int .i64 0]) (G3.out) asize27 rfl (gc_one v3) ?_
    go_simp
    refine hK.out _ _ (⟨hS1.1.far (by have := hgl.out; omega) _, hS1.2.far (by have := hgl.out; omega) _⟩) (fun hS2 => ?_)
    clear hK K
    refine wpAnyH_ready (rs := [4]) (by kernel_rfl) (by simp) ?_
    refine AllReadyH.cons rfl (fun K hK => ?_) AllReadyH.nil
    rw [if_pos (by kernel_rfl)]
    refine wp_store_row 37 (.tmp 7) (.tmp 128) rfl (w.heap.size + 4) (rc r s') rfl rfl 37 (#[.int .i64 0, .int .i64 0, .slice none 0 0, .slice none 0 0, .slice none 0 0]) (R3.out.far (by omega) _) asize37 rfl (rc_one r s') ?_
    go_simp
    refine hK.out _ _ (⟨hS2.1.far (by have := hgl.out; omega) _, hS2.2.far (by have := hgl.out; omega) _⟩) (fun hS3 => ?_)
    clear hK K
    refine wpAnyH_done (by kernel_rfl) ?_ _
    go_wp2_with fail
    exact bodyPost_ret (results_gr rfl _ _ (w.heap.size + 3) (w.heap.size + 4) v3 r s' rfl rfl ((G3.out.put (gc v3)).far (by omega) _) ((R3.out.far (by omega) _).put (rc r s'))) rfl ⟨v3, s', rfl, (OG3.out.row G3.out apG _).row (R3.out.far (by omega) _) apR _, (OR3.out.row G3.out apG _).row (R3.out.far (by omega) _) apR _, row_below (row_below B3.out (by omega) _) (by omega) _⟩
  · obtain ⟨rfl, rfl⟩ : G = D1 ∧ r = D2 := by have h := (doR_er hr.out (by rw [her.out]; exact h0)).symm.trans hD.out; simpa using h
    have FR : Hid (Few 141 G) := HF.out.more (by decide)
    go_upto_region 24 with (first | ((with_reducible refine ldG (.tmp 4) (w.heap.size + 1) (0) ?_ ?_ v ?_ ?_); (exact rfl); (exact rfl); (exact HG.out.lies)) | ((with_reducible refine stG (.tmp 8) (.tmp 125) (g1) ?_ v ?_ (gc v') ?_ ?_ ?_); (exact rfl); (exact rfl); (exact Hh.out); (exact rfl)))
    clear k0 l0
    obtain ⟨U, hU⟩ : ∃ U, Hid (wc.setRow g1 (gc v) = U) := ⟨_, rfl⟩
    have BU : Hid (Below w.heap.size w U) := by show Below _ _ _; rw [← hU.out]; exact row_below BW.out (by have := hgl.out; omega) _
    have Pq : Hid (Bx U (g1 + 1) (rc r s') 37) := by show Bx _ _ _ _; rw [← hU.out]; exact Hq.out.far (by omega) _
    have Pg : Hid (Bx U (w.heap.size + 3) (#[.slice none 0 0, .slice none 0 0, .int .i64 0, .int .i64 0]) 27) := by show Bx _ _ _ _; rw [← hU.out]; exact Hg.out.far (by have := hgl.out; omega) _
    have Pr : Hid (Bx U (w.heap.size + 4) (#[.int .i64 0, .int .i64 0, .slice none 0 0, .slice none 0 0, .slice none 0 0]) 37) := by show Bx _ _ _ _; rw [← hU.out]; exact Hr.out.far (by have := hgl.out; omega) _
    have OU : Hid (ROwn U w.heap.size s' r) := by show ROwn _ _ _ _; rw [← hU.out]; exact OR.out.row Hh.out apG _
    have Ph : Hid (Bx U g1 (gc v) 27) := by show Bx _ _ _ _; rw [← hU.out]; exact Hh.out.put _
    have hU' := hU.out
    rw [hU']
    clear hU hU' Hh Hq Hg Hr OR BW OS HG
    have Hh := Ph
    have Hq := Pq
    have Hg := Pg
    have Hr := Pr
    have OR := OU
    have BW := BU
    have OS := hide (sees_at SB.out BW.out)
    clear Ph Pq Pg Pr OU BU
    have D0 := hide ((Below.refl U.heap.size U).drew)
    refine wp_region_held_drew (S := fun u => Bx u g1 (gc v) 27 ∧ Bx u (g1 + 1) (rc r s') 37) (by kernel_rfl) ⟨Hh.out.step D0.out, Hq.out.step D0.out⟩ (fun hS => ?_)
    refine wpAnyH_take (i := 0) (v := (.agg (gc v))) rfl (by kernel_rfl) (by kernel_rfl) (by kernel_rfl) (fun _ _ _ h => h) (Or.inl ⟨by kernel_rfl, fun u hu => xlG (.tmp 8) g1 0 rfl v hu.1.lies⟩) hS ?_
    refine wpAnyH_take (i := 2) (v := (.agg (rc r s'))) rfl (by kernel_rfl) (by kernel_rfl) (by kernel_rfl) (fun _ _ _ h => h) (Or.inl ⟨by kernel_rfl, fun u hu => xlR (.tmp 9) (g1 + 1) 0 rfl r s' hu.2.lies⟩) hS ?_
    refine wpAnyH_ready (rs := [1]) (by kernel_rfl) (by simp) ?_
    refine AllReadyH.cons rfl (fun K hK => ?_) AllReadyH.nil
    go_simp
    refine (copy_any v G U.drew (OS.out.step D0.out) (by have h1 := OS.out.nodes.1; have h2 := FR.out.n; omega) (by have h1 := edges_len OS.out.edges; have h2 := FR.out.e; omega) (fun j hj => by have h1 := FR.out.prs j; have h2 : (prsAt G j).length = (G.N.getD j (0, [])).2.length := rfl; omega)).mono ?_
    rintro e u3 ⟨v3, L3, rfl, hm, hb⟩
    have OG3 : Hid (Has u3 w.heap.size v3 G) := Has.less ⟨L3, hm.out⟩ BW.out.size
    have B3 : Hid (Below w.heap.size w u3) := (Below.drew BW.out).trans (hb.out.mono BW.out.size)
    have hb3 : Below U.heap.size U u3 := D0.out.trans hb.out
    have OR3 := hide (OR.out.step hb3)
    have G3 := hide (Hg.out.step hb3)
    have R3 := hide (Hr.out.step hb3)
    refine hK.out _ _ ⟨Hh.out.step hb3, Hq.out.step hb3⟩ (fun hS1 => ?_)
    clear hK K hm
    refine wpAnyH_ready (rs := [3]) (by kernel_rfl) (by simp) ?_
    refine AllReadyH.cons rfl (fun K hK => ?_) AllReadyH.nil
    rw [if_pos (by kernel_rfl)]
    refine wp_store_row 27 (.tmp 6) (.tmp 127) rfl (w.heap.size + 3) (gc v3) rfl rfl 27 (#[.slice none 0 0, .slice none 0 0, .int .i64 0, .int .i64 0]) (G3.out) asize27 rfl (gc_one v3) ?_
    go_simp
    refine hK.out _ _ (⟨hS1.1.far (by have := hgl.out; omega) _, hS1.2.far (by have := hgl.out; omega) _⟩) (fun hS2 => ?_)
    clear hK K
    refine wpAnyH_ready (rs := [4]) (by kernel_rfl) (by simp) ?_
    refine AllReadyH.cons rfl (fun K hK => ?_) AllReadyH.nil
    rw [if_pos (by kernel_rfl)]
    refine wp_store_row 37 (.tmp 7) (.tmp 128) rfl (w.heap.size + 4) (rc r s') rfl rfl 37 (#[.int .i64 0, .int .i64 0, .slice none 0 0, .slice none 0 0, .slice none 0 0]) (R3.out.far (by omega) _) asize37 rfl (rc_one r s') ?_
    go_simp
    refine hK.out _ _ (⟨hS2.1.far (by have := hgl.out; omega) _, hS2.2.far (by have := hgl.out; omega) _⟩) (fun hS3 => ?_)
    clear hK K
    refine wpAnyH_done (by kernel_rfl) ?_ _
    go_wp2_with fail
    exact bodyPost_ret (results_gr rfl _ _ (w.heap.size + 3) (w.heap.size + 4) v3 r s' rfl rfl ((G3.out.put (gc v3)).far (by omega) _) ((R3.out.far (by omega) _).put (rc r s'))) rfl ⟨v3, s', rfl, (OG3.out.row G3.out apG _).row (R3.out.far (by omega) _) apR _, (OR3.out.row G3.out apG _).row (R3.out.far (by omega) _) apR _, row_below (row_below B3.out (by omega) _) (by omega) _⟩

end Go.Proofs.YtiiadkjiofkonaaGreat

namespace Go.Proofs.YtiiadkjiofkonaaGreat
open Go.RowKit
set_option linter.unusedVariables false
set_option maxRecDepth 100000

theorem rnew11_any (w : World) : Calls Tryz.prog 48 #[] w (Drew (.agg (gc newV0)) w) := by
  go_enter Tryz.func48, Tryz.ntmps48
  go_wp2_with (((with_reducible refine stG (.tmp 0) (.tmp 1) (w.heap.size) ?_ newV0 ?_ (#[.slice none 0 0, .slice none 0 0, .int .i64 0, .int .i64 0]) ?_ ?_ ?_); (exact rfl); (exact rfl); (exact Bx.new w (#[.slice none 0 0, .slice none 0 0, .int .i64 0, .int .i64 0]) 27); (exact rfl)))
  exact bodyPost_ret (results_g rfl _ _ w.heap.size newV0 rfl ((Bx.new w (#[.slice none 0 0, .slice none 0 0, .int .i64 0, .int .i64 0]) 27).put _)) rfl ⟨rfl, row_below ((Below.refl _ _).alloc (Nat.le_refl _) _) (Nat.le_refl _) _⟩

set_option maxHeartbeats 8000000 in
theorem rall_any (c0 c1 c2 c3 c4 : Int) (s : Sl) (l : List O5) (w : World) (P : Ops w w.heap.size s l) (hn : s.n ≤ 100) : Calls Tryz.prog 23 #[.agg (fc c0 c1 c2 c3 c4), .slice s.A s.n s.c] w (TellsAll w c3 c4 l) := by
  obtain ⟨A0, N, cp0⟩ := s
  have PO := hide P
  have LN : Hid (l.length = N) := P.1
  dsimp only at hn ⊢
  clear P
  obtain ⟨i0, hi0, hz0, hz1, hz2⟩ := info_parts ainfoR
  have J1 := hide hi0
  have J2 := hide hz0
  have J3 := hide hz1
  have J4 := hide hz2
  clear hi0 hz0 hz1 hz2
  obtain ⟨W, hW⟩ : ∃ W, Hid ((w.alloc (.cells ((fc c0 c1 c2 c3 c4)) 23)).alloc (.cells (#[.slice none 0 0, .slice none 0 0, .int .i64 0, .int .i64 0]) 27) = W) := ⟨_, rfl⟩
  have BW : Hid (Below w.heap.size w W) := by show Below _ _ _; rw [← hW.out]; exact (((Below.refl _ _).alloc (Nat.le_refl _) _).alloc (by simp) _)
  have HC : Hid (Bx W (w.heap.size) ((fc c0 c1 c2 c3 c4)) 23) := by
    have h := ((Bx.new w ((fc c0 c1 c2 c3 c4)) 23).alloc (.cells (#[.slice none 0 0, .slice none 0 0, .int .i64 0, .int .i64 0]) 27))
    show Bx _ _ _ _
    rw [← hW.out]
    simpa using h
  have Hg : Hid (Bx W (w.heap.size + 1) (#[.slice none 0 0, .slice none 0 0, .int .i64 0, .int .i64 0]) 27) := by
    have h := (Bx.new (w.alloc (.cells ((fc c0 c1 c2 c3 c4)) 23)) (#[.slice none 0 0, .slice none 0 0, .int .i64 0, .int .i64 0]) 27)
    show Bx _ _ _ _
    rw [← hW.out]
    simpa using h
  go_enter Tryz.func23, Tryz.ntmps23
  go_upto_region 1 with fail
  have hW' := hW.out
  rw [hW']
  clear hW hW'
  go_wp2_with fail
  refine (rnew11_any W).mono ?_
  rintro e u1 ⟨rfl, hb⟩
  have HC := hide (HC.out.step hb)
  have Hg := hide (Hg.out.step hb)
  have BW := hide (BW.out.trans (hb.mono BW.out.size))
  clear hb
  have Hh : Hid (Bx (u1.alloc (.cells (#[.slice none 0 0, .slice none 0 0, .int .i64 0, .int .i64 0]) 27)) u1.heap.size (#[.slice none 0 0, .slice none 0 0, .int .i64 0, .int .i64 0]) 27) := Bx.new u1 (#[.slice none 0 0, .slice none 0 0, .int .i64 0, .int .i64 0]) 27
  go_upto_region 2 with (((with_reducible refine stG (.tmp 6) (.tmp 12) (u1.heap.size) ?_ newV0 ?_ (#[.slice none 0 0, .slice none 0 0, .int .i64 0, .int .i64 0]) ?_ ?_ ?_); (exact rfl); (exact rfl); (exact Hh.out); (exact rfl)))
  obtain ⟨V, hV⟩ : ∃ V, Hid ((u1.alloc (.cells (#[.slice none 0 0, .slice none 0 0, .int .i64 0, .int .i64 0]) 27)).setRow u1.heap.size (gc newV0) = V) := ⟨_, rfl⟩
  obtain ⟨g1, hg1⟩ : ∃ g, Hid (u1.heap.size = g) := ⟨_, rfl⟩
  have BV : Hid (Below u1.heap.size u1 V) := by show Below _ _ _; rw [← hV.out]; exact row_below ((Below.refl _ _).alloc (Nat.le_refl _) _) (Nat.le_refl _) _
  have Hh : Hid (Bx V g1 (gc newV0) 27) := by show Bx _ _ _ _; rw [← hV.out, ← hg1.out]; exact Hh.out.put _
  have hgl : Hid (w.heap.size + 1 < g1) := by show _ < _; rw [← hg1.out]; exact Hg.out.lt
  have HC := hide (HC.out.step BV.out)
  have Hg := hide (Hg.out.step BV.out)
  have BW := hide (BW.out.trans (BV.out.mono BW.out.size))
  clear BV
  have hV' := hV.out
  have hg' := hg1.out
  rw [hV', hg']
  clear hV hg1 hV' hg'
  go_wp2
  go_loopw [7, 15] (fun a i wr => ∃ (k : Nat) (v' : Gv) (A : Option Addr) (n c : Nat) (Z : List RZ), k ≤ N ∧ i = .int .i64 k ∧ a = .slice A n c ∧ Hid (n = k) ∧ Hid (Bx wr w.heap.size (fc c0 c1 c2 c3 c4) 23) ∧ Hid (Bx wr (w.heap.size + 1) (#[.slice none 0 0, .slice none 0 0, .int .i64 0, .int .i64 0]) 27) ∧ Hid (Bx wr g1 (gc v') 27) ∧ Hid (Has wr w.heap.size v' (allG c3 c4 newG0 (l.take k))) ∧ Hid (ROws wr w.heap.size A n c Z) ∧ Hid (Z.map (·.1) = allR c3 c4 newG0 (l.take k)) ∧ Hid (Below w.heap.size w wr)) (fun _ i _ => N - (intOf i).toNat)
  case atStart => exact ⟨0, newV0, none, 0, 0, [], by omega, rfl, rfl, rfl, HC, Hg, Hh, has_new, ROws.nil, rfl, BW⟩
  case round =>
    clear HC Hg Hh BW
    obtain ⟨k, v', A, n, cp, Z, hk, rfl, rfl, HNK, HC, Hg, Hh, OG, RO, HM1, BW⟩ := hrel
    have hnb : n ≤ 100 := by have := HNK.out; omega
    by_cases hlt : k < N
    · have HK : Hid (k < l.length) := by have := LN.out; show _ < _; omega
      obtain ⟨b, off, e, hb, LI0⟩ := (PO.out.below BW.out (Nat.le_refl _)).at_ hlt
      dsimp only at e
      subst e
      obtain ⟨o, ho⟩ : ∃ o, Hid (l.getD k noO = o) := ⟨_, rfl⟩
      rw [ho.out] at LI0
      have LIa : Hid (Lies (wr.alloc (.cells (#[.int .i64 0, .int .i64 0, .int .i64 0, .int .i64 0, .int .i64 0]) 29)) b (off + k * 5) (oc o)) := LI0.below ((Below.refl wr.heap.size wr).alloc (Nat.le_refl _) _) (Nat.lt_of_lt_of_le hb BW.out.size)
      have LI := hide LI0
      have ip : (0 : Int) ≤ (k : Int) := by omega
      have jp : (k : Int) < (N : Int) := by omega
      clear LI0 hb
      have H5 : Hid (Bx (wr.alloc (.cells (#[.int .i64 0, .int .i64 0, .int .i64 0, .int .i64 0, .int .i64 0]) 29)) wr.heap.size (#[.int .i64 0, .int .i64 0, .int .i64 0, .int .i64 0, .int .i64 0]) 29) := Bx.new wr (#[.int .i64 0, .int .i64 0, .int .i64 0, .int .i64 0, .int .i64 0]) 29
      go_upto_region 6 with (first | ((with_reducible refine ldO (.tmp 17) (b) (off + k * 5) ?_ ?_ o ?_ ?_); (exact rfl); (exact rfl); (exact LI.out)) | ((with_reducible refine ldO (.tmp 17) (b) (off + k * 5) ?_ ?_ o ?_ ?_); (exact rfl); (exact rfl); (exact LIa.out)) | ((with_reducible refine stO (.tmp 9) (.tmp 18) (wr.heap.size) ?_ o ?_ (#[.int .i64 0, .int .i64 0, .int .i64 0, .int .i64 0, .int .i64 0]) ?_ ?_ ?_); (exact rfl); (exact rfl); (exact H5.out); (exact rfl)))
      obtain ⟨U, hU⟩ : ∃ U, Hid ((wr.alloc (.cells (#[.int .i64 0, .int .i64 0, .int .i64 0, .int .i64 0, .int .i64 0]) 29)).setRow wr.heap.size (oc o) = U) := ⟨_, rfl⟩
      obtain ⟨gO, hgO⟩ : ∃ g, Hid (wr.heap.size = g) := ⟨_, rfl⟩
      have BU : Hid (Below wr.heap.size wr U) := by show Below _ _ _; rw [← hU.out]; exact row_below ((Below.refl _ _).alloc (Nat.le_refl _) _) (Nat.le_refl _) _
      have HO : Hid (Bx U gO (oc o) 29) := by show Bx _ _ _ _; rw [← hU.out, ← hgO.out]; exact H5.out.put _
      have hV' := hU.out
      have hg' := hgO.out
      rw [hV', hg']
      clear hU hgO hV' hg' LI LIa H5
      have HC := hide (HC.out.step BU.out)
      have Hg := hide (Hg.out.step BU.out)
      have Hh := hide (Hh.out.step BU.out)
      have OG := hide (OG.out.step BU.out)
      have RO := hide (RO.out.step BU.out)
      have BW := hide (BW.out.trans (BU.out.mono BW.out.size))
      clear BU
      go_wp2_with (first | ((with_reducible refine ldC (.tmp 2) (w.heap.size) (0) ?_ ?_ c0 c1 c2 c3 c4 ?_ ?_); (exact rfl); (exact rfl); (exact HC.out.lies)) | ((with_reducible refine ldG (.tmp 6) (g1) (0) ?_ ?_ v' ?_ ?_); (exact rfl); (exact rfl); (exact Hh.out.lies)) | ((with_reducible refine ldO (.tmp 9) (gO) (0) ?_ ?_ o ?_ ?_); (exact rfl); (exact rfl); (exact HO.out.lies)))
      have F140 : Hid (Few 140 (allG c3 c4 newG0 (l.take k))) := few_at (by have := LN.out; omega)
      refine (rdo_any c0 c1 c2 c3 c4 v' (allG c3 c4 newG0 (l.take k)) o U OG.out.sees F140.out).mono ?_
      rintro e u2 ⟨v3, s3, rfl, hm, hr2, hb⟩
      have OG2 : Hid (Has u2 w.heap.size v3 (allG c3 c4 newG0 (l.take (k + 1)))) := by have h := hm.out.less BW.out.size; show Has _ _ _ _; rw [allG_take HK.out, ho.out]; exact h
      obtain ⟨r, hr⟩ : ∃ r, Hid ((doR c3 c4 (allG c3 c4 newG0 (l.take k)) o).2 = r) := ⟨_, rfl⟩
      rw [hr.out] at hr2
      rw [hr.out]
      have OR2 : Hid (ROwn u2 w.heap.size s3 r) := hr2.out.less BW.out.size
      clear hm hr2 OG
      have HM3 : Hid ((Z ++ [(r, s3)]).map (·.1) = allR c3 c4 newG0 (l.take (k + 1))) := by show _ = _; rw [List.map_append, HM1.out, allR_take HK.out, ho.out, ← hr.out]; rfl
      have HC := hide (HC.out.step hb.out)
      have Hg := hide (Hg.out.step hb.out)
      have Hh := hide (Hh.out.step hb.out)
      have RO := hide (RO.out.step hb.out)
      have BW := hide (BW.out.trans (hb.out.mono BW.out.size))
      clear hb HO hr
      have Ha : Hid (Bx ((u2.alloc (.cells (#[.slice none 0 0, .slice none 0 0, .int .i64 0, .int .i64 0]) 27)).alloc (.cells (#[.int .i64 0, .int .i64 0, .slice none 0 0, .slice none 0 0, .slice none 0 0]) 37)) u2.heap.size (#[.slice none 0 0, .slice none 0 0, .int .i64 0, .int .i64 0]) 27) := (Bx.new u2 (#[.slice none 0 0, .slice none 0 0, .int .i64 0, .int .i64 0]) 27).alloc _
      have Hb : Hid (Bx (((u2.alloc (.cells (#[.slice none 0 0, .slice none 0 0, .int .i64 0, .int .i64 0]) 27)).alloc (.cells (#[.int .i64 0, .int .i64 0, .slice none 0 0, .slice none 0 0, .slice none 0 0]) 37)).setRow u2.heap.size (gc v3)) (u2.heap.size + 1) (#[.int .i64 0, .int .i64 0, .slice none 0 0, .slice none 0 0, .slice none 0 0]) 37) := by have h := Bx.new (u2.alloc (.cells (#[.slice none 0 0, .slice none 0 0, .int .i64 0, .int .i64 0]) 27)) (#[.int .i64 0, .int .i64 0, .slice none 0 0, .slice none 0 0, .slice none 0 0]) 37; exact Bx.far (by simpa using h) (by omega) _
      go_upto_region 7 with (first | ((with_reducible refine stG (.tmp 10) (.tmp 24) (u2.heap.size) ?_ v3 ?_ (#[.slice none 0 0, .slice none 0 0, .int .i64 0, .int .i64 0]) ?_ ?_ ?_); (exact rfl); (exact rfl); (exact Ha.out); (exact rfl)) | ((with_reducible refine stR (.tmp 11) (.tmp 25) (u2.heap.size + 1) ?_ r s3 ?_ (#[.int .i64 0, .int .i64 0, .slice none 0 0, .slice none 0 0, .slice none 0 0]) ?_ ?_ ?_); (exact rfl); (exact rfl); (exact Hb.out); (exact rfl)))
      obtain ⟨V9, hV⟩ : ∃ V, Hid (((((u2.alloc (.cells (#[.slice none 0 0, .slice none 0 0, .int .i64 0, .int .i64 0]) 27)).alloc (.cells (#[.int .i64 0, .int .i64 0, .slice none 0 0, .slice none 0 0, .slice none 0 0]) 37)).setRow u2.heap.size (gc v3)).setRow (u2.heap.size + 1) (rc r s3)) = V) := ⟨_, rfl⟩
      obtain ⟨g9, hg9⟩ : ∃ g, Hid (u2.heap.size = g) := ⟨_, rfl⟩
      have BV : Hid (Below u2.heap.size u2 V9) := by show Below _ _ _; rw [← hV.out]; exact row_below (row_below (((Below.refl _ _).alloc (Nat.le_refl _) _).alloc (by simp) _) (Nat.le_refl _) _) (by omega) _
      have Ha : Hid (Bx V9 g9 (gc v3) 27) := by show Bx _ _ _ _; rw [← hV.out, ← hg9.out]; exact (Ha.out.put _).far (by omega) _
      have Hb : Hid (Bx V9 (g9 + 1) (rc r s3) 37) := by show Bx _ _ _ _; rw [← hV.out, ← hg9.out]; exact Hb.out.put _
      have hg9x : Hid (g1 < g9) := by show _ < _; rw [← hg9.out]; exact Hh.out.lt
      have HC := hide (HC.out.step BV.out)
      have Hg := hide (Hg.out.step BV.out)
      have Hh := hide (Hh.out.step BV.out)
      have RO := hide (RO.out.step BV.out)
      have OG2 := hide (OG2.out.step BV.out)
      have OR2 := hide (OR2.out.step BV.out)
      have BW := hide (BW.out.trans (BV.out.mono BW.out.size))
      clear BV
      have hV' := hV.out
      have hg' := hg9.out
      rw [hV', hg']
      clear hV hg9 hV' hg'
      have RO3 := hide (RO.out.row Hh.out apG (by decide) (gc v3))
      have OG3 := hide (OG2.out.row Hh.out apG (gc v3))
      have OR3 := hide (OR2.out.row Hh.out apG (gc v3))
      have C3 := hide (HC.out.far (k := g1) (by have := hgl.out; omega) (gc v3))
      have G3 := hide (Hg.out.far (k := g1) (by have := hgl.out; omega) (gc v3))
      have H3 := hide (Hh.out.put (gc v3))
      have B3 := hide (row_below BW.out (by have := hgl.out; omega : w.heap.size ≤ g1) (gc v3))
      have Hb3 := hide (Hb.out.far (k := g1) (by have := hg9x.out; omega) (gc v3))
      clear RO OG2 OR2 HC Hg BW
      go_upto_region 8 with (first | ((with_reducible refine ldG (.tmp 10) (g9) (0) ?_ ?_ v3 ?_ ?_); (exact rfl); (exact rfl); (exact Ha.out.lies)) | ((with_reducible refine stG (.tmp 6) (.tmp 26) (g1) ?_ v3 ?_ (gc v') ?_ ?_ ?_); (exact rfl); (exact rfl); (exact Hh.out); (exact rfl)))
      obtain ⟨Y, hY⟩ : ∃ Y, Hid (V9.setRow g1 (gc v3) = Y) := ⟨_, rfl⟩
      have hY' := hY.out
      rw [hY'] at RO3 OG3 OR3 C3 G3 H3 B3 Hb3 ⊢
      clear hY hY' Ha Hb Hh
      go_wp2_with (first | ((with_reducible refine ldRl (.tmp 11) (g9 + 1) (0) ?_ ?_ r s3 ?_ ?_); (exact rfl); (exact rfl); (exact Hb3.out.lies)) | (at_builtin; refine wpList_append_lies _ rfl _ _ 50 rfl w.heap.size 37 i0 (.agg #[.int .i64 0, .int .i64 0, .slice none 0 0, .slice none 0 0, .slice none 0 0]) 5 88 Tryz.underlying50 J1.out J2.out J3.out J4.out rfl (by decide) (.slice A n cp) n _ rfl (RO3.out.rows.alloc _) ⟨Y.heap.size, 0, none⟩ 1 1 (rc r s3).toList rfl rfl (cells_new _ _ _ _ (by simp)) (rc_all r s3) (by decide) (by simp only [maxLen]; omega) (by omega) (by have := B3.out.size; simp; omega) _ rfl ?_; intro gn cn w2 hown hg hat hlt9; have RO4 := hide (RO3.out.app OR3.out hown hg); have OG4 := hide (OG3.out.grown RO3.out.rows hg); have C4 := hide (C3.out.wider (by decide) RO3.out.rows hg); have G4 := hide (G3.out.wider (by decide) RO3.out.rows hg); have H4 := hide (H3.out.wider (by decide) RO3.out.rows hg); have B4 := hide (grow_below RO3.out.rows hg B3.out B3.out.size); clear hown hg hat hlt9 RO3 OG3 C3 G3 H3 B3 OR3 Hb3))
      go_roundw
      case rel => exact ⟨k + 1, v3, some ⟨gn, 0, none⟩, n + 1, cn, _, by omega, by go_num, rfl, by have := HNK.out; show _ = _; omega, C4, G4, H4, OG4, RO4, HM3, B4⟩
      case measure => simp [intOf]; omega
    · obtain rfl : N = k := by omega
      go_wp2_with (first | ((with_reducible refine ldG (.tmp 6) (g1) (0) ?_ ?_ v' ?_ ?_); (exact rfl); (exact rfl); (exact Hh.out.lies)) | ((with_reducible refine stG (.tmp 4) (.tmp 32) (w.heap.size + 1) ?_ v' ?_ (#[.slice none 0 0, .slice none 0 0, .int .i64 0, .int .i64 0]) ?_ ?_ ?_); (exact rfl); (exact rfl); (exact Hg.out); (exact rfl)))
      have et : l.take N = l := List.take_of_length_le (by rw [LN.out]; exact Nat.le_refl _)
      have OGL : Hid (Has wr w.heap.size v' (allG c3 c4 newG0 l)) := by have h := OG.out; rw [et] at h; exact h
      have HM : Hid (Z.map (·.1) = allR c3 c4 newG0 l) := by have h := HM1.out; rw [et] at h; exact h
      exact bodyPost_ret (row_two rfl _ _ (w.heap.size + 1) 27 (gc v') (0, 0) _ rfl (Hg.out.put _) Tryz.underlying27 rfl asize27) rfl ⟨v', A, n, cp, Z, rfl, OGL.out.row Hg.out apG _, RO.out.row Hg.out apG (by decide) _, HM, row_below BW.out (by omega) _⟩

end Go.Proofs.YtiiadkjiofkonaaGreat

namespace Go.Proofs.YtiiadkjiofkonaaGreat
open Go.RowKit
set_option linter.unusedVariables false
set_option maxRecDepth 100000

theorem hasr_any (v : Gv) (G : GL) (a k : Int) (w : World) (S : Sees w w.heap.size v G) (F : Few 140 G) : Calls Tryz.prog 44 #[.agg (gc v), .int .i64 a, .int .i64 k] w (Drew (.bool (hasR G a k)) w) := has_any v G a k _ w S (F.small (by decide)) rfl
def pickG (q : Bool) (A B : GL) : GL := if q = true then A else B
def full : RL := ⟨3, 0, [], [], []⟩
theorem Most.full : Most full := Most.nil

set_option maxHeartbeats 4000000 in
theorem rtakes_any (c0 c1 c2 c3 c4 : Int) (v : Gv) (G : GL) (o : O5) (w : World) (S : Sees w w.heap.size v G) (F : Few 140 G) (hwf : (Lit.int .i64 o.k).wf = true) : Calls Tryz.prog 16 #[.agg (fc c0 c1 c2 c3 c4), .agg (gc v), .agg (oc o)] w (Drew (.int .i64 (takesR c3 c4 G o)) w) := by
  have SB := hide S
  have HF := hide F
  clear S F
  obtain ⟨t, ht⟩ : ∃ t, Hid (takesR c3 c4 G o = t) := ⟨_, rfl⟩
  rw [ht.out]
  obtain ⟨W, hW⟩ : ∃ W, Hid (((w.alloc (.cells ((fc c0 c1 c2 c3 c4)) 23)).alloc (.cells (gc v) 27)).alloc (.cells (oc o) 29) = W) := ⟨_, rfl⟩
  have BW : Hid (Below w.heap.size w W) := by show Below _ _ _; rw [← hW.out]; exact ((((Below.refl _ _).alloc (Nat.le_refl _) _).alloc (by simp) _).alloc (by simp; omega) _)
  have HC : Hid (Bx W (w.heap.size) ((fc c0 c1 c2 c3 c4)) 23) := by
    have h := (((Bx.new w ((fc c0 c1 c2 c3 c4)) 23).alloc (.cells (gc v) 27)).alloc (.cells (oc o) 29))
    show Bx _ _ _ _
    rw [← hW.out]
    simpa using h
  have HG : Hid (Bx W (w.heap.size + 1) (gc v) 27) := by
    have h := ((Bx.new (w.alloc (.cells ((fc c0 c1 c2 c3 c4)) 23)) (gc v) 27).alloc (.cells (oc o) 29))
    show Bx _ _ _ _
    rw [← hW.out]
    simpa using h
  have HO : Hid (Bx W (w.heap.size + 2) (oc o) 29) := by
    have h := (Bx.new ((w.alloc (.cells ((fc c0 c1 c2 c3 c4)) 23)).alloc (.cells (gc v) 27)) (oc o) 29)
    show Bx _ _ _ _
    rw [← hW.out]
    simpa using h
  go_enter Tryz.func16, Tryz.ntmps16
  go_upto_region 1 with fail
  have hW' := hW.out
  rw [hW']
  clear hW hW'
  go_wp2_with (first | ((with_reducible refine ldC (.tmp 3) (w.heap.size) (0) ?_ ?_ c0 c1 c2 c3 c4 ?_ ?_); (exact rfl); (exact rfl); (exact HC.out.lies)) | ((with_reducible refine ldG (.tmp 4) (w.heap.size + 1) (0) ?_ ?_ v ?_ ?_); (exact rfl); (exact rfl); (exact HG.out.lies)) | ((with_reducible refine ldO (.tmp 5) (w.heap.size + 2) (0) ?_ ?_ o ?_ ?_); (exact rfl); (exact rfl); (exact HO.out.lies)))
  refine (rdo_any c0 c1 c2 c3 c4 v G o W (sees_at SB.out BW.out) HF.out).mono ?_
  rintro e u1 ⟨v', s', rfl, -, -, hb⟩
  have HC := hide (HC.out.step hb.out)
  have HG := hide (HG.out.step hb.out)
  have HO := hide (HO.out.step hb.out)
  have BW := hide (BW.out.trans (hb.out.mono BW.out.size))
  clear hb
  obtain ⟨R, r, hr⟩ : ∃ R r, Hid (inR c3 c4 G o = (R, r)) := ⟨_, _, rfl⟩
  have HR2 : Hid ((doR c3 c4 G o).2 = r) := by show (inR c3 c4 G o).2 = r; rw [hr.out]
  rw [HR2.out]
  clear HR2
  have Hh : Hid (Bx ((u1.alloc (.cells (#[.slice none 0 0, .slice none 0 0, .int .i64 0, .int .i64 0]) 27)).alloc (.cells (#[.int .i64 0, .int .i64 0, .slice none 0 0, .slice none 0 0, .slice none 0 0]) 37)) u1.heap.size (#[.slice none 0 0, .slice none 0 0, .int .i64 0, .int .i64 0]) 27) := (Bx.new u1 (#[.slice none 0 0, .slice none 0 0, .int .i64 0, .int .i64 0]) 27).alloc _
  have Hq : Hid (Bx (((u1.alloc (.cells (#[.slice none 0 0, .slice none 0 0, .int .i64 0, .int .i64 0]) 27)).alloc (.cells (#[.int .i64 0, .int .i64 0, .slice none 0 0, .slice none 0 0, .slice none 0 0]) 37)).setRow u1.heap.size (gc v')) (u1.heap.size + 1) (#[.int .i64 0, .int .i64 0, .slice none 0 0, .slice none 0 0, .slice none 0 0]) 37) := by have h := Bx.new (u1.alloc (.cells (#[.slice none 0 0, .slice none 0 0, .int .i64 0, .int .i64 0]) 27)) (#[.int .i64 0, .int .i64 0, .slice none 0 0, .slice none 0 0, .slice none 0 0]) 37; exact Bx.far (by simpa using h) (by omega) _
  go_upto_region 2 with (first | ((with_reducible refine stG (.tmp 7) (.tmp 14) (u1.heap.size) ?_ v' ?_ (#[.slice none 0 0, .slice none 0 0, .int .i64 0, .int .i64 0]) ?_ ?_ ?_); (exact rfl); (exact rfl); (exact Hh.out); (exact rfl)) | ((with_reducible refine stR (.tmp 8) (.tmp 15) (u1.heap.size + 1) ?_ r s' ?_ (#[.int .i64 0, .int .i64 0, .slice none 0 0, .slice none 0 0, .slice none 0 0]) ?_ ?_ ?_); (exact rfl); (exact rfl); (exact Hq.out); (exact rfl)))
  obtain ⟨V, hV⟩ : ∃ V, Hid (((((u1.alloc (.cells (#[.slice none 0 0, .slice none 0 0, .int .i64 0, .int .i64 0]) 27)).alloc (.cells (#[.int .i64 0, .int .i64 0, .slice none 0 0, .slice none 0 0, .slice none 0 0]) 37)).setRow u1.heap.size (gc v')).setRow (u1.heap.size + 1) (rc r s')) = V) := ⟨_, rfl⟩
  obtain ⟨g1, hg1⟩ : ∃ g, Hid (u1.heap.size = g) := ⟨_, rfl⟩
  have BV : Hid (Below u1.heap.size u1 V) := by show Below _ _ _; rw [← hV.out]; exact row_below (row_below (((Below.refl _ _).alloc (Nat.le_refl _) _).alloc (by simp) _) (Nat.le_refl _) _) (by omega) _
  have Hq : Hid (Bx V (g1 + 1) (rc r s') 37) := by show Bx _ _ _ _; rw [← hV.out, ← hg1.out]; exact Hq.out.put _
  have HC := hide (HC.out.step BV.out)
  have HG := hide (HG.out.step BV.out)
  have HO := hide (HO.out.step BV.out)
  have BW := hide (BW.out.trans (BV.out.mono BW.out.size))
  clear BV Hh
  have hV' := hV.out
  have hg' := hg1.out
  rw [hV', hg']
  clear hV hg1 hV' hg'
  obtain ⟨er, her⟩ : ∃ er, Hid (r.er = er) := ⟨_, rfl⟩
  obtain ⟨kd, hkd⟩ : ∃ k, Hid (o.k = k) := ⟨_, rfl⟩
  have q0 : V.cell? ⟨g1 + 1, 0, none⟩ = some (.int .i64 er) := by rw [← her.out]; exact Hq.out.r0
  have k0 : V.cell? ⟨w.heap.size + 2, 0, none⟩ = some (.int .i64 kd) := by rw [← hkd.out]; exact HO.out.o0
  have k1 := HO.out.o1
  have k3 := HO.out.o3
  have l0 := HO.out.lt
  have l1 := Hq.out.lt
  have HT : Hid (t = if er = 0 then (if kd = 1 then 1 else if kd = 2 then 2 else if kd = 4 then (if hasR G o.a o.q = true then 0 else 3) else 0) else 0) := by show _ = _; rw [← ht.out, ← her.out, ← hkd.out]; unfold takesR; rw [hr.out]
  by_cases h0 : er = 0
  case neg =>
    have HV : Hid (t = 0) := by show _ = _; rw [HT.out]; simp [h0]
    go_wp2
    go_ret
    rw [HV.out]
    exact ⟨rfl, BW.out⟩
  subst h0
  by_cases h1 : kd = 1
  case pos =>
    subst h1
    have HV : Hid (t = 1) := by show _ = _; rw [HT.out]; simp
    go_wp2
    go_ret
    rw [HV.out]
    exact ⟨rfl, BW.out⟩
  by_cases h2 : kd = 2
  case pos =>
    subst h2
    have HV : Hid (t = 2) := by show _ = _; rw [HT.out]; simp
    go_wp2
    go_ret
    rw [HV.out]
    exact ⟨rfl, BW.out⟩
  by_cases h4 : kd = 4
  case neg =>
    have y1 : (kd == 1) = false := by simpa using h1
    have y2 : (kd == 2) = false := by simpa using h2
    have y4 : (kd == 4) = false := by simpa using h4
    have HV : Hid (t = 0) := by show _ = _; rw [HT.out]; simp [h1, h2, h4]
    go_wp2
    go_ret
    rw [HV.out]
    exact ⟨rfl, BW.out⟩
  subst h4
  clear h1 h2
  go_wp2_with (((with_reducible refine ldG (.tmp 4) (w.heap.size + 1) (0) ?_ ?_ v ?_ ?_); (exact rfl); (exact rfl); (exact HG.out.lies)))
  refine (hasr_any v G o.a o.q V (sees_at SB.out BW.out) HF.out).mono ?_
  rintro e u2 ⟨rfl, hb⟩
  have BW := hide (BW.out.trans (hb.mono BW.out.size))
  clear hb
  obtain ⟨b, hb⟩ : ∃ b, Hid (hasR G o.a o.q = b) := ⟨_, rfl⟩
  rw [hb.out] at HT ⊢
  cases b
  · have HV : Hid (t = 3) := by show _ = _; rw [HT.out]; simp
    go_wp2
    go_ret
    rw [HV.out]
    exact ⟨rfl, BW.out⟩
  · have HV : Hid (t = 0) := by show _ = _; rw [HT.out]; simp
    go_wp2
    go_ret
    rw [HV.out]
    exact ⟨rfl, BW.out⟩

end Go.Proofs.YtiiadkjiofkonaaGreat

namespace Go.Proofs.YtiiadkjiofkonaaGreat
open Go.RowKit
set_option linter.unusedVariables false
set_option maxRecDepth 100000

set_option maxHeartbeats 8000000 in
theorem fits_any11 (c0 c1 c2 c3 c4 : Int) (v : Gv) (G : GL) (o : O5) (r : RL) (z : S3) (q f : Bool) (w : World) (S : Sees w w.heap.size v G) (F : Few 140 G) (hwf : (Lit.int .i64 o.k).wf = true) (SR0 : RSee w w.heap.size z r) (MR0 : Most r) (hq : Hid (q = true ↔ r = (doR c3 c4 G o).2)) (hf : Hid (f = true ↔ r = full)) :
    Calls Tryz.prog 18 #[.agg (fc c0 c1 c2 c3 c4), .agg (gc v), .agg (oc o), .agg (rc r z)] w fun e w' => ∃ v', e = .returned (.tuple #[.agg (gc v'), .bool (q || (f && (takesR c3 c4 G o != 0)))]) ∧ Hid (Has w' w.heap.size v' (pickG q (doR c3 c4 G o).1 G)) ∧ Hid (Below w.heap.size w w') := by
  have SB := hide S
  have HF := hide F
  have SR := hide SR0
  have MR := hide MR0
  clear S F SR0 MR0
  obtain ⟨D1, D2, hD⟩ : ∃ D1 D2, Hid (doR c3 c4 G o = (D1, D2)) := ⟨_, _, rfl⟩
  rw [hD.out] at hq ⊢
  obtain ⟨tk, htk⟩ : ∃ t, Hid (takesR c3 c4 G o = t) := ⟨_, rfl⟩
  rw [htk.out]
  obtain ⟨W, hW⟩ : ∃ W, Hid (((((w.alloc (.cells ((fc c0 c1 c2 c3 c4)) 23)).alloc (.cells (gc v) 27)).alloc (.cells (oc o) 29)).alloc (.cells (rc r z) 37)).alloc (.cells (#[.slice none 0 0, .slice none 0 0, .int .i64 0, .int .i64 0]) 27) = W) := ⟨_, rfl⟩
  have BW : Hid (Below w.heap.size w W) := by show Below _ _ _; rw [← hW.out]; exact ((((((Below.refl _ _).alloc (Nat.le_refl _) _).alloc (by simp) _).alloc (by simp; omega) _).alloc (by simp; omega) _).alloc (by simp; omega) _)
  have HC : Hid (Bx W (w.heap.size) ((fc c0 c1 c2 c3 c4)) 23) := by
    have h := (((((Bx.new w ((fc c0 c1 c2 c3 c4)) 23).alloc (.cells (gc v) 27)).alloc (.cells (oc o) 29)).alloc (.cells (rc r z) 37)).alloc (.cells (#[.slice none 0 0, .slice none 0 0, .int .i64 0, .int .i64 0]) 27))
    show Bx _ _ _ _
    rw [← hW.out]
    simpa using h
  have HG : Hid (Bx W (w.heap.size + 1) (gc v) 27) := by
    have h := ((((Bx.new (w.alloc (.cells ((fc c0 c1 c2 c3 c4)) 23)) (gc v) 27).alloc (.cells (oc o) 29)).alloc (.cells (rc r z) 37)).alloc (.cells (#[.slice none 0 0, .slice none 0 0, .int .i64 0, .int .i64 0]) 27))
    show Bx _ _ _ _
    rw [← hW.out]
    simpa using h
  have HO : Hid (Bx W (w.heap.size + 2) (oc o) 29) := by
    have h := (((Bx.new ((w.alloc (.cells ((fc c0 c1 c2 c3 c4)) 23)).alloc (.cells (gc v) 27)) (oc o) 29).alloc (.cells (rc r z) 37)).alloc (.cells (#[.slice none 0 0, .slice none 0 0, .int .i64 0, .int .i64 0]) 27))
    show Bx _ _ _ _
    rw [← hW.out]
    simpa using h
  have HR : Hid (Bx W (w.heap.size + 3) (rc r z) 37) := by
    have h := ((Bx.new (((w.alloc (.cells ((fc c0 c1 c2 c3 c4)) 23)).alloc (.cells (gc v) 27)).alloc (.cells (oc o) 29)) (rc r z) 37).alloc (.cells (#[.slice none 0 0, .slice none 0 0, .int .i64 0, .int .i64 0]) 27))
    show Bx _ _ _ _
    rw [← hW.out]
    simpa using h
  have Hg : Hid (Bx W (w.heap.size + 4) (#[.slice none 0 0, .slice none 0 0, .int .i64 0, .int .i64 0]) 27) := by
    have h := (Bx.new ((((w.alloc (.cells ((fc c0 c1 c2 c3 c4)) 23)).alloc (.cells (gc v) 27)).alloc (.cells (oc o) 29)).alloc (.cells (rc r z) 37)) (#[.slice none 0 0, .slice none 0 0, .int .i64 0, .int .i64 0]) 27)
    show Bx _ _ _ _
    rw [← hW.out]
    simpa using h
  go_enter Tryz.func18, Tryz.ntmps18
  go_upto_region 1 with fail
  have hW' := hW.out
  rw [hW']
  clear hW hW'
  go_wp2_with (first | ((with_reducible refine ldC (.tmp 4) (w.heap.size) (0) ?_ ?_ c0 c1 c2 c3 c4 ?_ ?_); (exact rfl); (exact rfl); (exact HC.out.lies)) | ((with_reducible refine ldG (.tmp 5) (w.heap.size + 1) (0) ?_ ?_ v ?_ ?_); (exact rfl); (exact rfl); (exact HG.out.lies)) | ((with_reducible refine ldO (.tmp 6) (w.heap.size + 2) (0) ?_ ?_ o ?_ ?_); (exact rfl); (exact rfl); (exact HO.out.lies)))
  refine (do_any c0 c1 c2 c3 c4 v G o W (sees_at SB.out BW.out) HF.out hwf).mono ?_
  rintro e u1 ⟨v', s', rfl, hm, hn, hb⟩
  have MD : Hid (Most D2) := by show Most _; have h := HF.out.most (c3 := c3) (c4 := c4) (o := o) (by decide); rw [hD.out] at h; exact h
  have OG : Hid (Has u1 w.heap.size v' D1) := by have h := hm.out; rw [hD.out] at h; exact h.less BW.out.size
  have OR : Hid (ROwn u1 w.heap.size s' D2) := by have h := hn.out; rw [hD.out] at h; exact h.less BW.out.size
  rw [hD.out]
  clear hm hn
  have HC := hide (HC.out.step hb.out)
  have HG := hide (HG.out.step hb.out)
  have HO := hide (HO.out.step hb.out)
  have HR := hide (HR.out.step hb.out)
  have Hg := hide (Hg.out.step hb.out)
  have BW := hide (BW.out.trans (hb.out.mono BW.out.size))
  clear hb
  have Hh : Hid (Bx ((u1.alloc (.cells (#[.slice none 0 0, .slice none 0 0, .int .i64 0, .int .i64 0]) 27)).alloc (.cells (#[.int .i64 0, .int .i64 0, .slice none 0 0, .slice none 0 0, .slice none 0 0]) 37)) u1.heap.size (#[.slice none 0 0, .slice none 0 0, .int .i64 0, .int .i64 0]) 27) := (Bx.new u1 (#[.slice none 0 0, .slice none 0 0, .int .i64 0, .int .i64 0]) 27).alloc _
  have Hq : Hid (Bx (((u1.alloc (.cells (#[.slice none 0 0, .slice none 0 0, .int .i64 0, .int .i64 0]) 27)).alloc (.cells (#[.int .i64 0, .int .i64 0, .slice none 0 0, .slice none 0 0, .slice none 0 0]) 37)).setRow u1.heap.size (gc v')) (u1.heap.size + 1) (#[.int .i64 0, .int .i64 0, .slice none 0 0, .slice none 0 0, .slice none 0 0]) 37) := by have h := Bx.new (u1.alloc (.cells (#[.slice none 0 0, .slice none 0 0, .int .i64 0, .int .i64 0]) 27)) (#[.int .i64 0, .int .i64 0, .slice none 0 0, .slice none 0 0, .slice none 0 0]) 37; exact Bx.far (by simpa using h) (by omega) _
  go_upto_region 2 with (first | ((with_reducible refine stG (.tmp 10) (.tmp 18) (u1.heap.size) ?_ v' ?_ (#[.slice none 0 0, .slice none 0 0, .int .i64 0, .int .i64 0]) ?_ ?_ ?_); (exact rfl); (exact rfl); (exact Hh.out); (exact rfl)) | ((with_reducible refine stR (.tmp 11) (.tmp 19) (u1.heap.size + 1) ?_ D2 s' ?_ (#[.int .i64 0, .int .i64 0, .slice none 0 0, .slice none 0 0, .slice none 0 0]) ?_ ?_ ?_); (exact rfl); (exact rfl); (exact Hq.out); (exact rfl)))
  obtain ⟨V, hV⟩ : ∃ V, Hid (((((u1.alloc (.cells (#[.slice none 0 0, .slice none 0 0, .int .i64 0, .int .i64 0]) 27)).alloc (.cells (#[.int .i64 0, .int .i64 0, .slice none 0 0, .slice none 0 0, .slice none 0 0]) 37)).setRow u1.heap.size (gc v')).setRow (u1.heap.size + 1) (rc D2 s')) = V) := ⟨_, rfl⟩
  obtain ⟨g1, hg1⟩ : ∃ g, Hid (u1.heap.size = g) := ⟨_, rfl⟩
  have BV : Hid (Below u1.heap.size u1 V) := by show Below _ _ _; rw [← hV.out]; exact row_below (row_below (((Below.refl _ _).alloc (Nat.le_refl _) _).alloc (by simp) _) (Nat.le_refl _) _) (by omega) _
  have Hh : Hid (Bx V g1 (gc v') 27) := by show Bx _ _ _ _; rw [← hV.out, ← hg1.out]; exact (Hh.out.put _).far (by omega) _
  have Hq : Hid (Bx V (g1 + 1) (rc D2 s') 37) := by show Bx _ _ _ _; rw [← hV.out, ← hg1.out]; exact Hq.out.put _
  have hgl : Hid (w.heap.size + 4 < g1) := by show _ < _; rw [← hg1.out]; exact Hg.out.lt
  have HC := hide (HC.out.step BV.out)
  have HG := hide (HG.out.step BV.out)
  have HO := hide (HO.out.step BV.out)
  have HR := hide (HR.out.step BV.out)
  have Hg := hide (Hg.out.step BV.out)
  have OG := hide (OG.out.step BV.out)
  have OR := hide (OR.out.step BV.out)
  have BW := hide (BW.out.trans (BV.out.mono BW.out.size))
  clear BV
  have hV' := hV.out
  have hg' := hg1.out
  rw [hV', hg']
  clear hV hg1 hV' hg'
  go_wp2_with (first | ((with_reducible refine ldR (.tmp 7) (w.heap.size + 3) (0) ?_ ?_ r z ?_ ?_); (exact rfl); (exact rfl); (exact HR.out.lies)) | ((with_reducible refine ldR (.tmp 11) (g1 + 1) (0) ?_ ?_ D2 s' ?_ ?_); (exact rfl); (exact rfl); (exact Hq.out.lies)))
  refine (asame_any r D2 z s' q V ((SR.out.below BW.out (Nat.le_refl _)).more BW.out.size) OR.out.sees MR.out MD.out hq).mono ?_
  rintro e u2 ⟨rfl, hb⟩
  have HC := hide (HC.out.step hb)
  have HG := hide (HG.out.step hb)
  have HO := hide (HO.out.step hb)
  have HR := hide (HR.out.step hb)
  have Hg := hide (Hg.out.step hb)
  have Hh := hide (Hh.out.step hb)
  have Hq := hide (Hq.out.step hb)
  have OG := hide (OG.out.step hb)
  have OR := hide (OR.out.step hb)
  have BW := hide (BW.out.trans (hb.mono BW.out.size))
  clear hb
  cases q
  case true =>
    go_wp2_with (first | ((with_reducible refine ldG (.tmp 10) (g1) (0) ?_ ?_ v' ?_ ?_); (exact rfl); (exact rfl); (exact Hh.out.lies)) | ((with_reducible refine stG (.tmp 8) (.tmp 23) (w.heap.size + 4) ?_ v' ?_ (#[.slice none 0 0, .slice none 0 0, .int .i64 0, .int .i64 0]) ?_ ?_ ?_); (exact rfl); (exact rfl); (exact Hg.out); (exact rfl)))
    exact bodyPost_ret (row_two rfl _ _ (w.heap.size + 4) 27 (gc v') (0, 0) _ rfl (Hg.out.put _) Tryz.underlying27 rfl asize27) rfl ⟨v', rfl, OG.out.row Hg.out apG _, row_below BW.out (by omega) _⟩
  clear OG OR Hh Hq MD hq
  go_wp2_with (((with_reducible refine ldR (.tmp 7) (w.heap.size + 3) (0) ?_ ?_ r z ?_ ?_); (exact rfl); (exact rfl); (exact HR.out.lies)))
  refine (asame_any r full z noS3 f u2 ((SR.out.below BW.out (Nat.le_refl _)).more BW.out.size) (RSee.nil _ _) MR.out Most.full hf).mono ?_
  rintro e u3 ⟨rfl, hb⟩
  have HC := hide (HC.out.step hb)
  have HG := hide (HG.out.step hb)
  have HO := hide (HO.out.step hb)
  have HR := hide (HR.out.step hb)
  have Hg := hide (Hg.out.step hb)
  have BW := hide (BW.out.trans (hb.mono BW.out.size))
  clear hb
  cases f
  case false =>
    go_wp2_with (((with_reducible refine ldG (.tmp 5) (w.heap.size + 1) (0) ?_ ?_ v ?_ ?_); (exact rfl); (exact rfl); (exact HG.out.lies)))
    refine (afresh_any v G u3 (sees_at SB.out BW.out) HF.out).mono ?_
    rintro e u9 ⟨v3, rfl, hm, hb⟩
    have OG3 : Hid (Has u9 w.heap.size v3 G) := hm.out.less BW.out.size
    clear hm
    have HC := hide (HC.out.step hb.out)
    have HG := hide (HG.out.step hb.out)
    have HO := hide (HO.out.step hb.out)
    have HR := hide (HR.out.step hb.out)
    have Hg := hide (Hg.out.step hb.out)
    have BW := hide (BW.out.trans (hb.out.mono BW.out.size))
    clear hb
    go_wp2_with (((with_reducible refine stG (.tmp 8) (.tmp 35) (w.heap.size + 4) ?_ v3 ?_ (#[.slice none 0 0, .slice none 0 0, .int .i64 0, .int .i64 0]) ?_ ?_ ?_); (exact rfl); (exact rfl); (exact Hg.out); (exact rfl)))
    exact bodyPost_ret (row_two rfl _ _ (w.heap.size + 4) 27 (gc v3) (0, 0) _ rfl (Hg.out.put _) Tryz.underlying27 rfl asize27) rfl ⟨v3, by first | rfl | (rw [t1]; rfl), OG3.out.row Hg.out apG _, row_below BW.out (by omega) _⟩
  go_wp2_with (first | ((with_reducible refine ldC (.tmp 4) (w.heap.size) (0) ?_ ?_ c0 c1 c2 c3 c4 ?_ ?_); (exact rfl); (exact rfl); (exact HC.out.lies)) | ((with_reducible refine ldG (.tmp 5) (w.heap.size + 1) (0) ?_ ?_ v ?_ ?_); (exact rfl); (exact rfl); (exact HG.out.lies)) | ((with_reducible refine ldO (.tmp 6) (w.heap.size + 2) (0) ?_ ?_ o ?_ ?_); (exact rfl); (exact rfl); (exact HO.out.lies)))
  refine (takes_any c0 c1 c2 c3 c4 v G o u3 (sees_at SB.out BW.out) HF.out hwf).mono ?_
  rintro e u4 ⟨rfl, hb⟩
  have HC := hide (HC.out.step hb)
  have HG := hide (HG.out.step hb)
  have HO := hide (HO.out.step hb)
  have HR := hide (HR.out.step hb)
  have Hg := hide (Hg.out.step hb)
  have BW := hide (BW.out.trans (hb.mono BW.out.size))
  clear hb
  rw [htk.out]
  by_cases h0 : tk = 0
  case pos =>
    subst h0
    go_wp2_with (((with_reducible refine ldG (.tmp 5) (w.heap.size + 1) (0) ?_ ?_ v ?_ ?_); (exact rfl); (exact rfl); (exact HG.out.lies)))
    refine (afresh_any v G u4 (sees_at SB.out BW.out) HF.out).mono ?_
    rintro e u9 ⟨v3, rfl, hm, hb⟩
    have OG3 : Hid (Has u9 w.heap.size v3 G) := hm.out.less BW.out.size
    clear hm
    have HC := hide (HC.out.step hb.out)
    have HG := hide (HG.out.step hb.out)
    have HO := hide (HO.out.step hb.out)
    have HR := hide (HR.out.step hb.out)
    have Hg := hide (Hg.out.step hb.out)
    have BW := hide (BW.out.trans (hb.out.mono BW.out.size))
    clear hb
    go_wp2_with (((with_reducible refine stG (.tmp 8) (.tmp 35) (w.heap.size + 4) ?_ v3 ?_ (#[.slice none 0 0, .slice none 0 0, .int .i64 0, .int .i64 0]) ?_ ?_ ?_); (exact rfl); (exact rfl); (exact Hg.out); (exact rfl)))
    exact bodyPost_ret (row_two rfl _ _ (w.heap.size + 4) 27 (gc v3) (0, 0) _ rfl (Hg.out.put _) Tryz.underlying27 rfl asize27) rfl ⟨v3, by first | rfl | (rw [t1]; rfl), OG3.out.row Hg.out apG _, row_below BW.out (by omega) _⟩
  have t1 : (tk != 0) = true := by simpa using h0
  go_wp2_with (((with_reducible refine ldG (.tmp 5) (w.heap.size + 1) (0) ?_ ?_ v ?_ ?_); (exact rfl); (exact rfl); (exact HG.out.lies)))
  refine (afresh_any v G u4 (sees_at SB.out BW.out) HF.out).mono ?_
  rintro e u9 ⟨v3, rfl, hm, hb⟩
  have OG3 : Hid (Has u9 w.heap.size v3 G) := hm.out.less BW.out.size
  clear hm
  have HC := hide (HC.out.step hb.out)
  have HG := hide (HG.out.step hb.out)
  have HO := hide (HO.out.step hb.out)
  have HR := hide (HR.out.step hb.out)
  have Hg := hide (Hg.out.step hb.out)
  have BW := hide (BW.out.trans (hb.out.mono BW.out.size))
  clear hb
  go_wp2_with (((with_reducible refine stG (.tmp 8) (.tmp 35) (w.heap.size + 4) ?_ v3 ?_ (#[.slice none 0 0, .slice none 0 0, .int .i64 0, .int .i64 0]) ?_ ?_ ?_); (exact rfl); (exact rfl); (exact Hg.out); (exact rfl)))
  exact bodyPost_ret (row_two rfl _ _ (w.heap.size + 4) 27 (gc v3) (0, 0) _ rfl (Hg.out.put _) Tryz.underlying27 rfl asize27) rfl ⟨v3, by first | rfl | (rw [t1]; rfl), OG3.out.row Hg.out apG _, row_below BW.out (by omega) _⟩

end Go.Proofs.YtiiadkjiofkonaaGreat
