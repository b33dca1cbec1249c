/- Fused, a node has the edges of both, no edge is lost, and its own properties stay. (The statement tendrillaw10.GraphFuses.) -/
import Derived.Test.YtiiadkjiofkonaaRows
import Derived.Test.YtiiadkjiofkonaaLFuse
import Derived.Test.YtiiadkjiofkonaaGLive
import Derived.Test.YtiiadkjiofkonaaCRows
import Derived.Test.YtiiadkjiofkonaaGHas
import Derived.Test.YtiiadkjiofkonaaFrame
import Derived.WalkKit
import Derived.Below
import Derived.Deep.QuietTactic
import Derived.BigQuiet
import Derived.Deep.DeepCutAuto
import Derived.Deep.RegionHeld3
import Derived.Shelf.Abstract
namespace Go.Proofs.Ytiiadkjiofkonaa.graphFuses
open Go.Joins Go.ChangeShapes Go.WideShapes Go.ChangeAt Go.RowKit Go.Deep
set_option linter.unusedVariables false

open Go.Proofs.Ytiiadkjiofkonaa
theorem prs_any {G : GL} {c0 c1 c2 c3 c4 a : Int} (o : Okg c0 c1 c2 c3 c4 G) : Rise (fun z : Pr => z.1) (0, 0) (prsAt G (posN G a)) := by
  by_cases h : posN G a < G.N.length
  · exact o.pr _ h
  · intro i hi
    have e : prsAt G (posN G a) = [] := by unfold prsAt; rw [List.getD_eq_getElem?_getD, List.getElem?_eq_none (by omega)]; rfl
    rw [e] at hi
    simp at hi
def Both (G : GL) (a b : Int) (M : List Pr) : Prop := M.Perm (prsAt G (posN G a) ++ missing (prsAt G (posN G a)) (prsAt G (posN G b)))
theorem isN_nn {G : GL} {x : Int} (h : isN G x = true) : ¬ atf (fun z : Nd => z.1) G.N x < 0 := by
  unfold isN at h
  have := of_decide_eq_true h
  omega
theorem isN_one {G : GL} {x y : Int} (h : ¬ (isN G x = true ∧ isN G y = true)) : atf (fun z : Nd => z.1) G.N x < 0 ∨ atf (fun z : Nd => z.1) G.N y < 0 := by
  unfold isN at h
  simp only [decide_eq_true_iff] at h
  omega

def metP (M : List Pr) (j : Nat) (p : Pr) : Bool := (M.take j).any fun q => p == q
theorem metP_succ {M : List Pr} {j : Nat} {p : Pr} (h : j < M.length) : metP M (j + 1) p = (metP M j p || (p.1 == (M.getD j (0, 0)).1 && p.2 == (M.getD j (0, 0)).2)) := by
  unfold metP
  rw [getD_take (d := (0, 0)) h, List.any_append]
  simp only [List.any_cons, List.any_nil, Bool.or_false]
  rfl
theorem metP_all {M : List Pr} {p : Pr} (h : p ∈ M) : metP M M.length p = true := by
  unfold metP
  rw [List.take_length]
  exact List.any_eq_true.2 ⟨p, h, by simp⟩

set_option maxRecDepth 100000 in
set_option maxHeartbeats 8000000 in
theorem walk (n0 e0 p0 i0 j0 : Int) (v1 : Gv) (G1 : GL) (a2 : Int) (a3 : Int) (a4 : Int) (w : World) (w1 : Sees w w.heap.size v1 G1) (s1 : v1.N.n ≤ 9223372036854775807) (t1 : v1.E.n ≤ 9223372036854775807) (u1 : ∀ j, j < G1.N.length → (G1.N.getD j (0, [])).2.length ≤ 9223372036854775807) (w2 : (Lit.int .i64 a2).wf = true) (w3 : (Lit.int .i64 a3).wf = true) (w4 : (Lit.int .i64 a4).wf = true) :
    Calls Try.prog 7 #[.agg #[.int .i64 n0, .int .i64 e0, .int .i64 p0, .int .i64 i0, .int .i64 j0], v1.val, .int .i64 a2, .int .i64 a3, .int .i64 a4] w (Drew (.bool true) w) := by
  obtain ⟨⟨nA, nn, nc⟩, ⟨eA, en, ec⟩, x, y⟩ := v1
  have SW := hide w1
  have HN := hide s1
  have HE := hide t1
  have HP := hide u1
  clear w1 s1 t1 u1
  show Calls Try.prog 7 #[.agg #[.int .i64 n0, .int .i64 e0, .int .i64 p0, .int .i64 i0, .int .i64 j0], .agg #[.slice nA nn nc, .slice eA en ec, .int .i64 x, .int .i64 y], .int .i64 a2, .int .i64 a3, .int .i64 a4] w _
  obtain ⟨W, hW⟩ : ∃ W, Hid ((w.alloc (.cells #[.int .i64 n0, .int .i64 e0, .int .i64 p0, .int .i64 i0, .int .i64 j0] 23)).alloc (.cells #[.slice nA nn nc, .slice eA en ec, .int .i64 x, .int .i64 y] 27) = W) := ⟨_, rfl⟩
  have BB : Hid (Bx2 w W #[.int .i64 n0, .int .i64 e0, .int .i64 p0, .int .i64 i0, .int .i64 j0] #[.slice nA nn nc, .slice eA en ec, .int .i64 x, .int .i64 y]) := by show Bx2 _ _ _ _; rw [← hW.out]; exact ⟨boxed2 w _ _, heap_alloc2_old w _ _, heap_alloc2_new w _ _⟩
  obtain ⟨q, hq⟩ := bool_of (FewG G1 ∧ Okg n0 e0 p0 i0 j0 G1)
  have HQ := hide hq
  clear hq w2 w3 w4
  go_enter Try.func7, Try.ntmps7
  go_upto_region 1 with fail
  have hW' := hW.out
  rw [hW']
  clear hW hW'
  go_wp2_with fail
  refine (live_any W).mono ?_
  rintro e u1 ⟨rfl, hu⟩
  have BB1 := hide (BB.out.step hu)
  clear hu BB
  obtain ⟨hc, hg, lc, lg⟩ := BB1.out.cells
  go_wp2_with fail
  refine (may_any n0 e0 p0 i0 j0 ⟨⟨nA, nn, nc⟩, ⟨eA, en, ec⟩, x, y⟩ G1 q u1 ((SW.out.below BB1.out.bel (Nat.le_refl _)).more BB1.out.bel.size) HN.out HE.out HP.out HQ).mono ?_
  rintro e u2 ⟨rfl, hu⟩
  have BB2 := hide (BB1.out.step hu)
  clear hu BB1 hc hg lc lg
  cases q
  · go_wp2
    go_ret
    exact ⟨rfl, BB2.out.bel⟩
  · have HF : Hid (FewG G1) := (HQ.out.1 rfl).1
    have HO : Hid (Okg n0 e0 p0 i0 j0 G1) := (HQ.out.1 rfl).2
    have HS : Hid (Small G1) := HO.out.small HF.out
    have LN : Hid (G1.N.length = nn) := SW.out.nodes.1
    have LE : Hid (en = G1.E.length) := edges_len SW.out.edges
    have hnn : nn ≤ 100 := by have := HF.out.2.1; have := LN.out; omega
    have hen : en ≤ 100 := by have := HF.out.2.2; have := LE.out; omega
    have SW2 := hide ((SW.out.below BB2.out.bel (Nat.le_refl _)).more BB2.out.bel.size)
    clear HN HE HP HQ SW
    obtain ⟨hc, hg0, lc, lg⟩ := BB2.out.cells
    go_wp2_with fail
    obtain ⟨M, hMp, hMu⟩ := one_list (both_apart (prs_any HO.out (a := a2)) (prs_any HO.out (a := a3)))
    have HMP : Hid (Both G1 a2 a3 M) := hMp
    have HMU := hide hMu
    clear hMp hMu
    by_cases hab : a2 = a3
    · subst hab
      refine (fuse_any ⟨⟨nA, nn, nc⟩, ⟨eA, en, ec⟩, x, y⟩ G1 noG a2 a2 5 M u2 SW2.out HS.out HMU (hide (fuseR_self rfl))).mono ?_
      rintro e u3 ⟨⟨⟨rA, rn, rc⟩, ⟨sA, sn, sc⟩, rx, ry⟩, rfl, hm, hb⟩
      obtain ⟨L, OW⟩ := hm.out
      obtain ⟨X, hX⟩ : ∃ X, Hid (u3.alloc (.cells #[.slice rA rn rc, .slice sA sn sc, .int .i64 rx, .int .i64 ry] 27) = X) := ⟨_, rfl⟩
      obtain ⟨gb, hg⟩ : ∃ g, Hid (u3.heap.size = g) := ⟨_, rfl⟩
      have BXX : Hid (Below u3.heap.size u3 X) := by show Below _ _ _; rw [← hX.out]; exact (Below.refl _ _).alloc (Nat.le_refl _) _
      have Hg : Hid (X.heap[gb]? = some (.cells #[.slice rA rn rc, .slice sA sn sc, .int .i64 rx, .int .i64 ry] 27 (0, 0))) := by show _ = _; rw [← hX.out, ← hg.out]; exact heap_alloc_new _ _
      have SR := hide (OW.sees.step BXX.out)
      have BBX : Hid (Below u2.heap.size u2 X) := hb.out.trans (BXX.out.mono hb.out.size)
      have BB := hide ((BB2.out.step hb.out).step BXX.out)
      have hrn : Hid (rn = noG.N.length) := OW.many
      have hsn : Hid (sn = noG.E.length) := edges_len OW.sees.edges
      clear OW hm hb hc hg0 lc lg HMU
      go_upto_region 6 with fail
      have hX' := hX.out
      have hg' := hg.out
      rw [hX', hg']
      clear hX hg hX' hg' BXX BB2

      have hrn0 : rn = 0 := hrn.out
      subst hrn0
      obtain ⟨t0, -, t1⟩ := bx_all Hg.out
      go_wp2
      go_ret
      exact ⟨by simp, BB.out.bel⟩
    · by_cases hN : isN G1 a2 = true ∧ isN G1 a3 = true
      · have HA := hide hN.1
        have HB := hide hN.2
        have HAB := hide hab
        have HSR : Hid (Small (fuseG a2 a3 M G1)) := fuse_small HO.out HF.out HA.out HB.out HMP.out
        clear hN hab
        refine (fuse_any ⟨⟨nA, nn, nc⟩, ⟨eA, en, ec⟩, x, y⟩ G1 (fuseG a2 a3 M G1) a2 a3 0 M u2 SW2.out HS.out HMU (hide (fuseR_ok HAB.out (isN_nn HA.out) (isN_nn HB.out)))).mono ?_
        rintro e u3 ⟨⟨⟨rA, rn, rc⟩, ⟨sA, sn, sc⟩, rx, ry⟩, rfl, hm, hb⟩
        obtain ⟨L, OW⟩ := hm.out
        obtain ⟨X, hX⟩ : ∃ X, Hid (u3.alloc (.cells #[.slice rA rn rc, .slice sA sn sc, .int .i64 rx, .int .i64 ry] 27) = X) := ⟨_, rfl⟩
        obtain ⟨gb, hg⟩ : ∃ g, Hid (u3.heap.size = g) := ⟨_, rfl⟩
        have BXX : Hid (Below u3.heap.size u3 X) := by show Below _ _ _; rw [← hX.out]; exact (Below.refl _ _).alloc (Nat.le_refl _) _
        have Hg : Hid (X.heap[gb]? = some (.cells #[.slice rA rn rc, .slice sA sn sc, .int .i64 rx, .int .i64 ry] 27 (0, 0))) := by show _ = _; rw [← hX.out, ← hg.out]; exact heap_alloc_new _ _
        have SR := hide (OW.sees.step BXX.out)
        have BBX : Hid (Below u2.heap.size u2 X) := hb.out.trans (BXX.out.mono hb.out.size)
        have BB := hide ((BB2.out.step hb.out).step BXX.out)
        have hrn : Hid (rn = (fuseG a2 a3 M G1).N.length) := OW.many
        have hsn : Hid (sn = (fuseG a2 a3 M G1).E.length) := edges_len OW.sees.edges
        clear OW hm hb hc hg0 lc lg HMU
        go_upto_region 6 with fail
        have hX' := hX.out
        have hg' := hg.out
        rw [hX', hg']
        clear hX hg hX' hg' BXX BB2

        have SW2 := hide (SW2.out.step BBX.out)
        obtain ⟨hc, hg0, lc, lg⟩ := BB.out.cells
        obtain ⟨t0, -, t1⟩ := bx_all Hg.out
        go_wp2_with fail
        refine (near_any ⟨⟨nA, nn, nc⟩, ⟨eA, en, ec⟩, x, y⟩ G1 (outs G1 a2) (ins G1 a2) a2 0 X SW2.out HS.out (hide (nearR_ok HA.out))).mono ?_
        rintro e u4 ⟨⟨oA1, on1, oc1⟩, ⟨iA1, im1, ic1⟩, rfl, ho, hi, hb⟩
        have LO1 : Hid (on1 = ((outs G1 a2)).length) := Props.len (h := ⟨oA1, on1, oc1⟩) ⟨own_nums ho.out, own_nil_cap ho.out⟩
        have LI1 : Hid (im1 = ((ins G1 a2)).length) := Props.len (h := ⟨iA1, im1, ic1⟩) ⟨own_nums hi.out, own_nil_cap hi.out⟩
        clear ho hi hc hg0 lc lg t0 t1
        have BB := hide (BB.out.step hb.out)
        have Hg := hide (bx_step Hg.out hb.out)
        have SR := hide (SR.out.step hb.out)
        have SW2 := hide (SW2.out.step hb.out)
        clear hb

        obtain ⟨hc, hg0, lc, lg⟩ := BB.out.cells
        obtain ⟨t0, -, t1⟩ := bx_all Hg.out
        go_wp2_with fail
        refine (near_any ⟨⟨nA, nn, nc⟩, ⟨eA, en, ec⟩, x, y⟩ G1 (outs G1 a3) (ins G1 a3) a3 0 u4 SW2.out HS.out (hide (nearR_ok HB.out))).mono ?_
        rintro e u5 ⟨⟨oA2, on2, oc2⟩, ⟨iA2, im2, ic2⟩, rfl, ho, hi, hb⟩
        have LO2 : Hid (on2 = ((outs G1 a3)).length) := Props.len (h := ⟨oA2, on2, oc2⟩) ⟨own_nums ho.out, own_nil_cap ho.out⟩
        have LI2 : Hid (im2 = ((ins G1 a3)).length) := Props.len (h := ⟨iA2, im2, ic2⟩) ⟨own_nums hi.out, own_nil_cap hi.out⟩
        clear ho hi hc hg0 lc lg t0 t1
        have BB := hide (BB.out.step hb.out)
        have Hg := hide (bx_step Hg.out hb.out)
        have SR := hide (SR.out.step hb.out)
        have SW2 := hide (SW2.out.step hb.out)
        clear hb

        obtain ⟨hc, hg0, lc, lg⟩ := BB.out.cells
        obtain ⟨t0, -, t1⟩ := bx_all Hg.out
        go_wp2_with fail
        refine (near_any ⟨⟨rA, rn, rc⟩, ⟨sA, sn, sc⟩, rx, ry⟩ (fuseG a2 a3 M G1) (outs (fuseG a2 a3 M G1) a2) (ins (fuseG a2 a3 M G1) a2) a2 0 u5 SR.out HSR.out (hide (nearR_ok (fuse_in HA.out HAB.out)))).mono ?_
        rintro e u6 ⟨⟨oA3, on3, oc3⟩, ⟨iA3, im3, ic3⟩, rfl, ho, hi, hb⟩
        have LO3 : Hid (on3 = ((outs (fuseG a2 a3 M G1) a2)).length) := Props.len (h := ⟨oA3, on3, oc3⟩) ⟨own_nums ho.out, own_nil_cap ho.out⟩
        have LI3 : Hid (im3 = ((ins (fuseG a2 a3 M G1) a2)).length) := Props.len (h := ⟨iA3, im3, ic3⟩) ⟨own_nums hi.out, own_nil_cap hi.out⟩
        clear ho hi hc hg0 lc lg t0 t1
        have BB := hide (BB.out.step hb.out)
        have Hg := hide (bx_step Hg.out hb.out)
        have SR := hide (SR.out.step hb.out)
        have SW2 := hide (SW2.out.step hb.out)
        clear hb

        obtain ⟨hc, hg0, lc, lg⟩ := BB.out.cells
        obtain ⟨t0, -, t1⟩ := bx_all Hg.out
        go_wp2_with fail
        refine (near_any ⟨⟨rA, rn, rc⟩, ⟨sA, sn, sc⟩, rx, ry⟩ (fuseG a2 a3 M G1) [] [] a3 2 u6 SR.out HSR.out (hide (nearR_none (fuse_out HA.out)))).mono ?_
        rintro e u7 ⟨⟨oA4, on4, oc4⟩, ⟨iA4, im4, ic4⟩, rfl, ho, hi, hb⟩
        have LO4 : Hid (on4 = ([]).length) := Props.len (h := ⟨oA4, on4, oc4⟩) ⟨own_nums ho.out, own_nil_cap ho.out⟩
        have LI4 : Hid (im4 = ([]).length) := Props.len (h := ⟨iA4, im4, ic4⟩) ⟨own_nums hi.out, own_nil_cap hi.out⟩
        clear ho hi hc hg0 lc lg t0 t1
        have BB := hide (BB.out.step hb.out)
        have Hg := hide (bx_step Hg.out hb.out)
        have SR := hide (SR.out.step hb.out)
        have SW2 := hide (SW2.out.step hb.out)
        clear hb

        have QO3 : on3 = on1 + on2 := by rw [LO3.out, fuse_outs HAB.out, ← LO1.out, ← LO2.out]
        have QI3 : im3 = im1 + im2 := by rw [LI3.out, fuse_ins HAB.out, ← LI1.out, ← LI2.out]
        have ho1 : on1 ≤ 300 := by have := outs_le (G := G1) a2; have := LE.out; have := LO1.out; omega
        have ho2 : on2 ≤ 300 := by have := outs_le (G := G1) a3; have := LE.out; have := LO2.out; omega
        have hi1 : im1 ≤ 300 := by have := ins_le (G := G1) a2; have := LE.out; have := LI1.out; omega
        have hi2 : im2 ≤ 300 := by have := ins_le (G := G1) a3; have := LE.out; have := LI2.out; omega
        have hen2 : sn = en := by have := LE.out; rw [hsn.out, fuse_edges, this]
        have hnn2 : nn = rn + 1 := by have := hrn.out; have := LN.out; have := fuse_nodes (M := M) HO.out HA.out HB.out; omega
        clear LO1 LO2 LO3 LI1 LI2 LI3 LO4 LI4 hrn hsn LN LE
        subst QO3 QI3 hen2 hnn2
        obtain ⟨hc, hg0, lc, lg⟩ := BB.out.cells
        obtain ⟨t0, -, t1⟩ := bx_all Hg.out
        have z1 : (((on1 + on2 : Nat) : Int) != (on1 : Int) + (on2 : Int)) = false := by simp
        have z2 : (((im1 + im2 : Nat) : Int) != (im1 : Int) + (im2 : Int)) = false := by simp
        go_upto_region 14 with fail
        clear hc hg0 lc lg t0 t1 z1 z2
        obtain ⟨b1, hb1⟩ : ∃ b, Hid (hasR G1 a2 a4 = b) := ⟨_, rfl⟩
        obtain ⟨b2, hb2⟩ : ∃ b, Hid (hasR G1 a3 a4 = b) := ⟨_, rfl⟩
        have HH := hide (fuse_has HO.out HA.out HB.out HAB.out HMP.out a4)
        have RD : Hid (∀ u, Hid (Below u7.heap.size u7 u) → (fun u => (∀ i, u.cell? ⟨w.heap.size + 1, i, none⟩ = (#[.slice nA (rn + 1) nc, .slice eA sn ec, .int .i64 x, .int .i64 y] : Array Value)[i]?) ∧ (∀ i, u.cell? ⟨gb, i, none⟩ = (#[.slice rA rn rc, .slice sA sn sc, .int .i64 rx, .int .i64 ry] : Array Value)[i]?) ∧ Hid (Below u7.heap.size u7 u)) u) := fun u hu => ⟨(BB.out.step hu.out).cells.2.1, (bx_all (bx_step Hg.out hu.out)).1, hu⟩
        have LST : Hid (∀ u u1, (fun u => (∀ i, u.cell? ⟨w.heap.size + 1, i, none⟩ = (#[.slice nA (rn + 1) nc, .slice eA sn ec, .int .i64 x, .int .i64 y] : Array Value)[i]?) ∧ (∀ i, u.cell? ⟨gb, i, none⟩ = (#[.slice rA rn rc, .slice sA sn sc, .int .i64 rx, .int .i64 ry] : Array Value)[i]?) ∧ Hid (Below u7.heap.size u7 u)) u → Below u.heap.size u u1 → Hid (Below u7.heap.size u7 u1)) := fun u u1 h h1 => h.2.2.out.trans (h1.mono h.2.2.out.size)
        have D0 := hide ((Below.refl u7.heap.size u7).drew)
        go_cut [156] (fun p wx => p = .bool false ∧ Hid (Below u7.heap.size u7 wx))
        case first =>
          cases b1
          · have hb3 : Hid (hasR (fuseG a2 a3 M G1) a2 a4 = b2) := by show _ = _; rw [HH.out, hb1.out, hb2.out]; rfl
            have z1 : (b2 != b2) = false := by simp
            clear HH
            have C : Hid (∀ u, (fun u => (∀ i, u.cell? ⟨w.heap.size + 1, i, none⟩ = (#[.slice nA (rn + 1) nc, .slice eA sn ec, .int .i64 x, .int .i64 y] : Array Value)[i]?) ∧ (∀ i, u.cell? ⟨gb, i, none⟩ = (#[.slice rA rn rc, .slice sA sn sc, .int .i64 rx, .int .i64 ry] : Array Value)[i]?) ∧ Hid (Below u7.heap.size u7 u)) u → ∀ g n r, (g = .agg #[.slice nA (rn + 1) nc, .slice eA sn ec, .int .i64 x, .int .i64 y] ∧ n = a2 ∧ r = false) ∨ (g = .agg #[.slice nA (rn + 1) nc, .slice eA sn ec, .int .i64 x, .int .i64 y] ∧ n = a3 ∧ r = b2) ∨ (g = .agg #[.slice rA rn rc, .slice sA sn sc, .int .i64 rx, .int .i64 ry] ∧ n = a2 ∧ r = b2) → Calls Try.prog 40 #[g, .int .i64 n, .int .i64 a4] u (Drew (.bool r) u)) := fun u h g n r hr => by
              rcases hr with ⟨e1, e2, e3⟩ | ⟨e1, e2, e3⟩ | ⟨e1, e2, e3⟩ <;> rw [e1, e2, e3]
              · exact has_any ⟨⟨nA, rn + 1, nc⟩, ⟨eA, sn, ec⟩, x, y⟩ G1 _ a4 _ u (SW2.out.step h.2.2.out) HS.out hb1
              · exact has_any ⟨⟨nA, rn + 1, nc⟩, ⟨eA, sn, ec⟩, x, y⟩ G1 _ a4 _ u (SW2.out.step h.2.2.out) HS.out hb2
              · exact has_any ⟨⟨rA, rn, rc⟩, ⟨sA, sn, sc⟩, rx, ry⟩ (fuseG a2 a3 M G1) _ a4 _ u (SR.out.step h.2.2.out) HSR.out hb3
            clear hb1 hb2 hb3
            obtain ⟨hc, hg0, lc, lg⟩ := BB.out.cells
            obtain ⟨t0, -, t1⟩ := bx_all Hg.out
            go_region_held3 (fun u => (∀ i, u.cell? ⟨w.heap.size + 1, i, none⟩ = (#[.slice nA (rn + 1) nc, .slice eA sn ec, .int .i64 x, .int .i64 y] : Array Value)[i]?) ∧ (∀ i, u.cell? ⟨gb, i, none⟩ = (#[.slice rA rn rc, .slice sA sn sc, .int .i64 rx, .int .i64 ry] : Array Value)[i]?) ∧ Hid (Below u7.heap.size u7 u)) (first | exact RD.out _ D0 | exact RD.out _ (by assumption))
              ((go_at_call 40; refine (C.out _ (by assumption) _ _ _ (by first | exact Or.inl ⟨rfl, rfl, rfl⟩ | exact Or.inr (Or.inl ⟨rfl, rfl, rfl⟩) | exact Or.inr (Or.inr ⟨rfl, rfl, rfl⟩))).mono ?_; rintro r' v1 ⟨rfl, hu1⟩; have BU := LST.out _ _ (by assumption) hu1))
            go_wp2_with fail
            go_meet
            exact ⟨rfl, BU⟩
          · have hb3 : Hid (hasR (fuseG a2 a3 M G1) a2 a4 = true) := by show _ = _; rw [HH.out, hb1.out, hb2.out]; rfl
            clear HH
            have C : Hid (∀ u, (fun u => (∀ i, u.cell? ⟨w.heap.size + 1, i, none⟩ = (#[.slice nA (rn + 1) nc, .slice eA sn ec, .int .i64 x, .int .i64 y] : Array Value)[i]?) ∧ (∀ i, u.cell? ⟨gb, i, none⟩ = (#[.slice rA rn rc, .slice sA sn sc, .int .i64 rx, .int .i64 ry] : Array Value)[i]?) ∧ Hid (Below u7.heap.size u7 u)) u → ∀ g n r, (g = .agg #[.slice nA (rn + 1) nc, .slice eA sn ec, .int .i64 x, .int .i64 y] ∧ n = a2 ∧ r = true) ∨ (g = .agg #[.slice nA (rn + 1) nc, .slice eA sn ec, .int .i64 x, .int .i64 y] ∧ n = a3 ∧ r = b2) ∨ (g = .agg #[.slice rA rn rc, .slice sA sn sc, .int .i64 rx, .int .i64 ry] ∧ n = a2 ∧ r = true) → Calls Try.prog 40 #[g, .int .i64 n, .int .i64 a4] u (Drew (.bool r) u)) := fun u h g n r hr => by
              rcases hr with ⟨e1, e2, e3⟩ | ⟨e1, e2, e3⟩ | ⟨e1, e2, e3⟩ <;> rw [e1, e2, e3]
              · exact has_any ⟨⟨nA, rn + 1, nc⟩, ⟨eA, sn, ec⟩, x, y⟩ G1 _ a4 _ u (SW2.out.step h.2.2.out) HS.out hb1
              · exact has_any ⟨⟨nA, rn + 1, nc⟩, ⟨eA, sn, ec⟩, x, y⟩ G1 _ a4 _ u (SW2.out.step h.2.2.out) HS.out hb2
              · exact has_any ⟨⟨rA, rn, rc⟩, ⟨sA, sn, sc⟩, rx, ry⟩ (fuseG a2 a3 M G1) _ a4 _ u (SR.out.step h.2.2.out) HSR.out hb3
            clear hb1 hb2 hb3
            have LS2 : Hid (∀ u u1, Hid (Below u7.heap.size u7 u) → Below u.heap.size u u1 → Hid (Below u7.heap.size u7 u1)) := fun u u1 h h1 => h.out.trans (h1.mono h.out.size)
            obtain ⟨hc, hg0, lc, lg⟩ := (BB.out.step D0.out).cells
            obtain ⟨t0, -, t1⟩ := bx_all (bx_step Hg.out D0.out)
            first | (go_region_with ((go_at_call 40; refine (C.out _ (RD.out _ (by assumption)) _ _ _ (by first | exact Or.inl ⟨rfl, rfl, rfl⟩ | exact Or.inr (Or.inl ⟨rfl, rfl, rfl⟩) | exact Or.inr (Or.inr ⟨rfl, rfl, rfl⟩))).mono ?_; rintro r' v1 ⟨rfl, hu1⟩; have BU := LS2.out _ _ (by assumption) hu1; obtain ⟨hc', hg0', lc', lg'⟩ := (BB.out.step BU.out).cells; obtain ⟨t0', -, t1'⟩ := bx_all (bx_step Hg.out BU.out); clear hu1))) | fail
            all_goals
              go_wp2_with fail
              go_meet
              exact ⟨rfl, BU⟩
        case rest =>
          obtain ⟨rfl, BC⟩ := hcut
          clear HH RD LST D0 hb1 hb2
          have BB := hide (BB.out.step BC.out)
          have Hg := hide (bx_step Hg.out BC.out)
          have SR := hide (SR.out.step BC.out)
          have SW2 := hide (SW2.out.step BC.out)
          clear BC
          obtain ⟨hc, hg0, lc, lg⟩ := BB.out.cells
          obtain ⟨t0, -, t1⟩ := bx_all Hg.out
          go_wp2_with fail
          refine (get_any ⟨⟨nA, rn + 1, nc⟩, ⟨eA, sn, ec⟩, x, y⟩ G1 (prsAt G1 (posN G1 a2)) a2 0 _ SW2.out HS.out (hide (getR_ok (isN_nn HA.out)))).mono ?_
          rintro e u8 ⟨⟨pA, pn, pc⟩, rfl, hwp, hb⟩
          have Pp : Hid (Props u8 u8.heap.size ⟨pA, pn, pc⟩ (prsAt G1 (posN G1 a2))) := ⟨own_nums hwp.out, own_nil_cap hwp.out⟩
          have Lp : Hid (pn = ((prsAt G1 (posN G1 a2))).length) := Pp.out.len
          clear hwp hc hg0 lc lg t0 t1
          have BB := hide (BB.out.step hb.out)
          have Hg := hide (bx_step Hg.out hb.out)
          have SR := hide (SR.out.step hb.out)
          have SW2 := hide (SW2.out.step hb.out)
          clear hb
          have HMM : Hid (prsAt (fuseG a2 a3 M G1) (posN (fuseG a2 a3 M G1) a2) = M) := fuse_prs HO.out HA.out HAB.out
          have hpn : pn ≤ 300 := by have := Lp.out; have := HS.out.p (posN G1 a2) (posN_lt HA.out).1; unfold prsAt at *; omega
          have hMl : M.length ≤ 300 := by have := HSR.out.p (posN (fuseG a2 a3 M G1) a2) (posN_lt (fuse_in HA.out HAB.out)).1; have e := HMM.out; unfold prsAt at e; rw [e] at this; exact this
          obtain ⟨hc, hg0, lc, lg⟩ := BB.out.cells
          obtain ⟨t0, -, t1⟩ := bx_all Hg.out
          go_wp2_with fail
          refine (get_any ⟨⟨rA, rn, rc⟩, ⟨sA, sn, sc⟩, rx, ry⟩ (fuseG a2 a3 M G1) M a2 0 _ SR.out HSR.out (hide (by rw [getR_ok (isN_nn (fuse_in HA.out HAB.out)), HMM.out]))).mono ?_
          rintro e u9 ⟨⟨qA, qn, qc⟩, rfl, hwq, hb⟩
          have Pq : Hid (Props u9 u9.heap.size ⟨qA, qn, qc⟩ M) := ⟨own_nums hwq.out, own_nil_cap hwq.out⟩
          have Lq : Hid (qn = (M).length) := Pq.out.len
          clear hwq hc hg0 lc lg t0 t1
          have BB := hide (BB.out.step hb.out)
          have Hg := hide (bx_step Hg.out hb.out)
          have SR := hide (SR.out.step hb.out)
          have SW2 := hide (SW2.out.step hb.out)
          have Pp : Hid (Props u9 u9.heap.size ⟨pA, pn, pc⟩ (prsAt G1 (posN G1 a2))) := (Pp.out.below hb.out (Nat.le_refl _)).more hb.out.size
          have HSUB : Hid (∀ p ∈ prsAt G1 (posN G1 a2), p ∈ M) := fun p hp => HMP.out.mem_iff.2 (List.mem_append_left _ hp)
          have BF : Hid (Below w.heap.size w u9) := BB.out.bel
          have hqn : qn ≤ 300 := by have := Lq.out; omega
          clear hb SR SW2 BB Hg HSR HMM HO HS HF HA HB HAB HMP
          go_wp2
          go_loopw [177] (fun i wx => ∃ k : Nat, k ≤ pn ∧ i = .int .i64 k ∧ Hid (Below u9.heap.size u9 wx)) (fun i _ => pn - (intOf i).toNat)
          case atStart => exact ⟨0, by omega, rfl, Below.refl _ _⟩
          case round =>
            obtain ⟨k, hk, rfl, HBk⟩ := hrel
            by_cases hlt : k < pn
            · obtain ⟨c1b, c1o, e, hcb, d0, d1⟩ := Pp.out.at_ hlt
              dsimp only at e d0 d1
              subst e
              obtain ⟨y1, hy1⟩ : ∃ z, Hid (((prsAt G1 (posN G1 a2)).getD k (0, 0)).1 = z) := ⟨_, rfl⟩
              obtain ⟨y2, hy2⟩ : ∃ z, Hid (((prsAt G1 (posN G1 a2)).getD k (0, 0)).2 = z) := ⟨_, rfl⟩
              rw [hy1.out] at d0
              rw [hy2.out] at d1
              have HIN : Hid ((y1, y2) ∈ M) := by
                have hm : k < (prsAt G1 (posN G1 a2)).length := by have := Lp.out; omega
                have h1 := HSUB.out _ (List.getElem_mem hm)
                have e1 : (prsAt G1 (posN G1 a2))[k] = (y1, y2) := by
                  rw [← getD_get (d := (0, 0)) hm]
                  exact Prod.ext hy1.out hy2.out
                rw [e1] at h1
                exact h1
              clear hy1 hy2
              have k0 := (HBk.out.cell (p := ⟨c1b, _, none⟩) hcb).trans d0
              have k1 := (HBk.out.cell (p := ⟨c1b, _, none⟩) hcb).trans d1
              clear d0 d1
              obtain ⟨U, hU⟩ : ∃ U, Hid (wr.alloc (.cells #[.int .i64 y1, .int .i64 y2] 54) = U) := ⟨_, rfl⟩
              obtain ⟨gn, hgn⟩ : ∃ g, Hid (wr.heap.size = g) := ⟨_, rfl⟩
              have BU : Hid (Below wr.heap.size wr U) := by show Below _ _ _; rw [← hU.out]; exact (Below.refl _ _).alloc (Nat.le_refl _) _
              have HX : Hid (U.heap[gn]? = some (.cells #[.int .i64 y1, .int .i64 y2] 54 (0, 0))) := by show _ = _; rw [← hU.out, ← hgn.out]; exact heap_alloc_new _ _
              have BBU := hide (HBk.out.trans (BU.out.mono HBk.out.size))
              go_upto_region 23 with fail
              have hU' := hU.out
              have hg' := hgn.out
              rw [hU', hg']
              clear hU hgn hU' hg' k0 k1 HBk BU
              go_wp2
              go_loopw [31, 183] (fun mt j wx => ∃ j' : Nat, j' ≤ qn ∧ j = .int .i64 j' ∧ mt = .bool (metP M j' (y1, y2)) ∧ Hid (Below U.heap.size U wx)) (fun _ j _ => qn - (intOf j).toNat)
              case atStart => exact ⟨0, by omega, rfl, rfl, Below.refl _ _⟩
              case round =>
                obtain ⟨j, hj, rfl, rfl, HBj⟩ := hrel
                by_cases hjl : j < qn
                · obtain ⟨c2b, c2o, e, hcb2, f0, f1⟩ := Pq.out.at_ hjl
                  dsimp only at e f0 f1
                  subst e
                  have HJ := hide (metP_succ (p := (y1, y2)) (show j < M.length by have := Lq.out; omega))
                  generalize (M.getD j (0, 0)).1 = w1 at f0 HJ
                  generalize (M.getD j (0, 0)).2 = w2 at f1 HJ
                  have g0 := (HBj.out.cell (p := ⟨c2b, _, none⟩) (Nat.lt_of_lt_of_le hcb2 BBU.out.size)).trans ((BBU.out.cell (p := ⟨c2b, _, none⟩) hcb2).trans f0)
                  have g1 := (HBj.out.cell (p := ⟨c2b, _, none⟩) (Nat.lt_of_lt_of_le hcb2 BBU.out.size)).trans ((BBU.out.cell (p := ⟨c2b, _, none⟩) hcb2).trans f1)
                  clear f0 f1
                  obtain ⟨V, hV⟩ : ∃ U, Hid (wr.alloc (.cells #[.int .i64 w1, .int .i64 w2] 54) = U) := ⟨_, rfl⟩
                  obtain ⟨gv, hgv⟩ : ∃ g, Hid (wr.heap.size = g) := ⟨_, rfl⟩
                  have BV : Hid (Below U.heap.size U V) := by show Below _ _ _; rw [← hV.out]; exact HBj.out.alloc HBj.out.size _
                  have HY : Hid (V.heap[gv]? = some (.cells #[.int .i64 w1, .int .i64 w2] 54 (0, 0))) := by show _ = _; rw [← hV.out, ← hgv.out]; exact heap_alloc_new _ _
                  go_upto_region 27 with fail
                  have hV' := hV.out
                  have hg' := hgv.out
                  rw [hV', hg']
                  clear hV hgv hV' hg' g0 g1 HBj
                  obtain ⟨m0, -, n0⟩ := bx_all (bx_step HX.out BV.out)
                  obtain ⟨m1, -, n1⟩ := bx_all HY.out
                  obtain ⟨mb, hmb⟩ : ∃ b, Hid (metP M j (y1, y2) = b) := ⟨_, rfl⟩
                  have hmb' := hmb.out
                  rw [hmb'] at HJ ⊢
                  clear hmb hmb'
                  cases mb
                  · have HJ2 : Hid (metP M (j + 1) (y1, y2) = (y1 == w1 && y2 == w2)) := by show _ = _; rw [HJ.out]; simp
                    obtain ⟨eb, heb⟩ : ∃ b, Hid ((y1 == w1 && y2 == w2) = b) := ⟨_, rfl⟩
                    have he : ∀ u : World, (Op.equalIn 10000 54 (.agg #[.int .i64 y1, .int .i64 y2]) (.agg #[.int .i64 w1, .int .i64 w2])).run Try.prog u = .ok eb u := fun u => by rw [eq54, heb.out]
                    have HJ3 : Hid (metP M (j + 1) (y1, y2) = eb) := HJ2.out.trans heb.out
                    clear HJ HJ2 heb
                    go_wp2
                    go_roundw
                    case rel => exact ⟨j + 1, by omega, by go_num, by rw [HJ3.out], BV⟩
                    case measure => simp [intOf]; omega
                  · have HJ3 : Hid (metP M (j + 1) (y1, y2) = true) := by show _ = _; rw [HJ.out]; simp
                    clear HJ
                    go_wp2
                    go_roundw
                    case rel => exact ⟨j + 1, by omega, by go_num, by rw [HJ3.out], BV⟩
                    case measure => simp [intOf]; omega
                · obtain rfl : qn = j := by omega
                  have HT : Hid (metP M qn (y1, y2) = true) := by show _ = _; rw [Lq.out]; exact metP_all HIN.out
                  have HT' := HT.out
                  rw [HT']
                  clear HT HT'
                  go_wp2
                  go_roundw
                  case rel => exact ⟨k + 1, by omega, by go_num, hide (BBU.out.trans (HBj.out.mono BBU.out.size))⟩
                  case measure => simp [intOf]; omega
            · go_wp2
              go_ret
              exact ⟨rfl, BF.out.trans (HBk.out.mono BF.out.size)⟩
      · have HR : Hid (fuseR G1 a2 a3 M = (2, noG)) := fuseR_none hab (isN_one hN)
        have hab' : (a2 == a3) = false := by simpa using hab
        clear hN hab
        refine (fuse_any ⟨⟨nA, nn, nc⟩, ⟨eA, en, ec⟩, x, y⟩ G1 noG a2 a3 2 M u2 SW2.out HS.out HMU HR).mono ?_
        rintro e u3 ⟨⟨⟨rA, rn, rc⟩, ⟨sA, sn, sc⟩, rx, ry⟩, rfl, hm, hb⟩
        obtain ⟨L, OW⟩ := hm.out
        obtain ⟨X, hX⟩ : ∃ X, Hid (u3.alloc (.cells #[.slice rA rn rc, .slice sA sn sc, .int .i64 rx, .int .i64 ry] 27) = X) := ⟨_, rfl⟩
        obtain ⟨gb, hg⟩ : ∃ g, Hid (u3.heap.size = g) := ⟨_, rfl⟩
        have BXX : Hid (Below u3.heap.size u3 X) := by show Below _ _ _; rw [← hX.out]; exact (Below.refl _ _).alloc (Nat.le_refl _) _
        have Hg : Hid (X.heap[gb]? = some (.cells #[.slice rA rn rc, .slice sA sn sc, .int .i64 rx, .int .i64 ry] 27 (0, 0))) := by show _ = _; rw [← hX.out, ← hg.out]; exact heap_alloc_new _ _
        have SR := hide (OW.sees.step BXX.out)
        have BBX : Hid (Below u2.heap.size u2 X) := hb.out.trans (BXX.out.mono hb.out.size)
        have BB := hide ((BB2.out.step hb.out).step BXX.out)
        have hrn : Hid (rn = noG.N.length) := OW.many
        have hsn : Hid (sn = noG.E.length) := edges_len OW.sees.edges
        clear OW hm hb hc hg0 lc lg HMU
        go_upto_region 6 with fail
        have hX' := hX.out
        have hg' := hg.out
        rw [hX', hg']
        clear hX hg hX' hg' BXX BB2

        have hrn0 : rn = 0 := hrn.out
        subst hrn0
        obtain ⟨t0, -, t1⟩ := bx_all Hg.out
        go_wp2
        go_ret
        exact ⟨by simp, BB.out.bel⟩

set_option maxRecDepth 100000 in
theorem lifted (os : Os) (started : os.Started) (H : Type) (enc : TypeId × Value → H) :
    ReturnsInHanded {} Try.checked os 7 .any (Rows.graphFusesSpec.pre6 enc Try.prog Try.f7 Rows.graphFusesRow.domain false) (Rows.graphFusesSpec.post enc Try.prog Try.f7 false true false false) := by
  refine returnsInHanded_of_change (C := Try.checked) own started (by kernel_rfl) Try.func7
    (ChangeSpec.witness6 (enc := enc) (C := Try.checked) false ⟨#[], #[.agg #[.int .i64 0, .int .i64 0, .int .i64 0, .int .i64 0, .int .i64 0], .agg #[.slice none 0 0, .slice none 0 0, .int .i64 0, .int .i64 0], .int .i64 0, .int .i64 0, .int .i64 0], []⟩ 8 (by kernel_rfl) (by kernel_rfl) (by kernel_rfl) (by kernel_rfl)) ?_
  intro W base args ds gs before hval0 hW hcnd _
  have hval : ∀ (j : Nat) t v, Try.f7.params[j]? = some t → args[j]? = some v → Value.okWide Try.prog W .any base t v := hval0
  have hW' := hW
  obtain ⟨p, q, hA0, hV, rfl, hfz, hnd⟩ := hW
  have hA : DataW.TrodAll enc Try.prog W 0 (fun _ => true) true Try.f7.params.toList args.toList ds p := hA0
  rw [Try.params7] at hA hval
  obtain ⟨x0, vs0, d0, ds0, p0_, q0, hargs, rfl, rfl, h0, r0⟩ := trodAll_cons hA
  obtain ⟨x1, vs1, d1, ds1, p1_, q1, rfl, rfl, rfl, h1, r1⟩ := trodAll_cons r0
  obtain ⟨x2, vs2, d2, ds2, p2_, q2, rfl, rfl, rfl, h2, r2⟩ := trodAll_cons r1
  obtain ⟨x3, vs3, d3, ds3, p3_, q3, rfl, rfl, rfl, h3, r3⟩ := trodAll_cons r2
  obtain ⟨x4, vs4, d4, ds4, p4_, q4, rfl, rfl, rfl, h4, r4⟩ := trodAll_cons r3
  obtain ⟨rfl, rfl, rfl⟩ := trodAll_nil r4
  obtain rfl : args = #[x0, x1, x2, x3, x4] := by cases args; simp_all
  obtain ⟨rfl, rfl⟩ := trodVars_none hV
  have lt0 : ∀ x ∈ p0_, x.block < W.heap.size := by obtain ⟨m, hm⟩ := h0; exact DataW.trod_lt m _ _ _ hm
  have lt1 : ∀ x ∈ p1_, x.block < W.heap.size := by obtain ⟨m, hm⟩ := h1; exact DataW.trod_lt m _ _ _ hm
  obtain ⟨n0, e0, p0, i0, j0, rfl⟩ := open_cfg (hval 0 23 x0 rfl rfl) h0
  obtain ⟨v1, G1, rfl, w1, s1, t1, u1, -, -⟩ := open_graph (hval 1 27 x1 rfl rfl) h1
  obtain ⟨a2, rfl, rfl, rfl, w2⟩ := open_int Try.underlying3 (hval 2 3 x2 rfl rfl) h2
  obtain ⟨a3, rfl, rfl, rfl, w3⟩ := open_int Try.underlying3 (hval 3 3 x3 rfl rfl) h3
  obtain ⟨a4, rfl, rfl, rfl, w4⟩ := open_int Try.underlying3 (hval 4 3 x4 rfl rfl) h4
  clear hA0 hval0
  refine (walk n0 e0 p0 i0 j0 v1 G1 a2 a3 a4 W w1 s1 t1 u1 w2 w3 w4).mono fun e W' ⟨he, bel⟩ => ?_
  subst he
  exact ⟨_, rfl, _, _, _, [], _, [], hW', trodAll_mk1 (shut_bool Try.underlying4 _), (trodAll_cons_mk (Below.trod laidOut (by kernel_rfl) (of_decide_eq_true (by kernel_rfl)) h0 bel lt0) (trodAll_cons_mk (Below.trod laidOut (by kernel_rfl) (of_decide_eq_true (by kernel_rfl)) h1 bel lt1) (trodAll_cons_mk (shut_int Try.underlying3 w2) (trodAll_cons_mk (shut_int Try.underlying3 w3) (trodAll_cons_mk (shut_int Try.underlying3 w4) trodAll_mk0))))), rfl, bel.frame _, fun h => by cases h⟩

theorem over : Rows.graphFusesRow.holds Try.pinned (OpenSpec.ofChange Rows.graphFusesSpec) :=
  OpenClaim.holds_of_wide 7 Try.f7 rfl rfl rfl rfl rfl rfl rfl ⟨rfl, rfl, rfl, rfl, rfl⟩ rfl rfl rfl rfl rfl (by kernel_rfl) Try.func7 (by kernel_rfl)
    (of_decide_eq_true (by kernel_rfl)) (by unfold Func.isWrapper; first | (rw [if_pos (by decide +kernel)]; kernel_rfl) | (rw [if_neg (by decide +kernel)]; exact ⟨rfl, rfl⟩))
    (fun os started H enc _ => lifted os started H enc)

end Go.Proofs.Ytiiadkjiofkonaa.graphFuses

namespace Go.Proofs.Ytiiadkjiofkonaa
/-- The statement. -/
theorem graphFuses_holds : Rows.GraphFusesSaid := graphFuses.over
#print axioms graphFuses_holds
end Go.Proofs.Ytiiadkjiofkonaa
