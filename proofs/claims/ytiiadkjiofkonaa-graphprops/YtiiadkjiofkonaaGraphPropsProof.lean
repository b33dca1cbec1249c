/- What is done with the properties of any graph that may be is what the document says; it stays as it was. (The statement tendrillaw10.GraphProps.) -/
import Derived.Test.YtiiadkjiofkonaaRows
import Derived.Test.YtiiadkjiofkonaaRDel
import Derived.Test.YtiiadkjiofkonaaRSet
import Derived.Test.YtiiadkjiofkonaaLMath
import Derived.Test.YtiiadkjiofkonaaGMay
import Derived.Test.YtiiadkjiofkonaaGLive
import Derived.Test.YtiiadkjiofkonaaFrame
import Derived.WalkKit
import Derived.Below
import Derived.Deep.QuietTactic
import Derived.BigQuiet
import Derived.Deep.DeepCutAuto
import Derived.Deep.AppendLies
import Derived.Shelf.Abstract
namespace Go.Proofs.Ytiiadkjiofkonaa.graphProps
open Go.Joins Go.ChangeShapes Go.WideShapes Go.ChangeAt Go.RowKit Go.Deep
set_option linter.unusedVariables false

open Go.Proofs.Ytiiadkjiofkonaa
/-- How much there is at the most. -/
structure Fit (G : GL) : Prop where
  n : G.N.length ≤ 17592186044416
  e : G.E.length ≤ 17592186044416
  p : Hid (∀ j, j < G.N.length → (G.N.getD j (0, [])).2.length ≤ 17592186044416)
theorem fit_small {G : GL} (h : Small G) : Fit G := ⟨by have := h.n; omega, by have := h.e; omega, fun j hj => by have := h.p j hj; omega⟩
theorem fit_no : Fit noG := ⟨by simp [noG], by simp [noG], fun j hj => absurd hj (by simp [noG])⟩
theorem fit_setN {G : GL} {i : Nat} {l : List Pr} (h : Small G) (hl : l.length ≤ 17592186044416) : Fit (setN G i l) := by
  refine ⟨by simp [setN]; have := h.n; omega, by have := h.e; show G.E.length ≤ _; omega, fun j hj => ?_⟩
  by_cases e : j = i
  · subst e
    have hj' : j < G.N.length := by simpa [setN] using hj
    simpa [setN, List.getD_eq_getElem?_getD, hj'] using hl
  · have hj' : j < G.N.length := by simpa [setN] using hj
    have := h.p j hj'
    have e2 : (setN G i l).N.getD j (0, []) = G.N.getD j (0, []) := by simp [setN, List.getD_eq_getElem?_getD, Ne.symm e]
    rw [e2]
    omega
theorem prs_small {G : GL} (h : Small G) (i : Nat) : (prsAt G i).length ≤ 300 := by
  by_cases hi : i < G.N.length
  · exact h.p i hi
  · have : G.N[i]? = none := List.getElem?_eq_none (by omega)
    simp [prsAt, List.getD_eq_getElem?_getD, this]
theorem fit_set {G R : GL} {n k v e : Int} (h : Small G) (hr : setR G n k v = (e, R)) : Fit R := by
  unfold setR at hr
  split at hr
  · obtain ⟨-, rfl⟩ := Prod.mk.inj hr
    exact fit_no
  · obtain ⟨-, rfl⟩ := Prod.mk.inj hr
    refine fit_setN h ?_
    have h1 := prs_small h (posN G n)
    unfold putP
    have h2 := List.length_filter_le (fun p : Pr => decide (p.1 < k)) (prsAt G (posN G n))
    have h3 := List.length_filter_le (fun p : Pr => decide (k < p.1)) (prsAt G (posN G n))
    simp only [List.length_append, List.length_cons, List.length_nil]
    omega
theorem fit_del {G R : GL} {n k e : Int} (h : Small G) (hr : delR G n k = (e, R)) : Fit R := by
  unfold delR at hr
  split at hr
  · obtain ⟨-, rfl⟩ := Prod.mk.inj hr
    exact fit_no
  · obtain ⟨-, rfl⟩ := Prod.mk.inj hr
    refine fit_setN h ?_
    have h1 := prs_small h (posN G n)
    have h2 := List.length_filter_le (fun q : Pr => q.1 != k) (prsAt G (posN G n))
    omega
theorem fit_get {G : GL} {n e : Int} {l : List Pr} (h : Small G) (hr : getR G n = (e, l)) : l.length ≤ 300 := by
  unfold getR at hr
  split at hr
  · obtain ⟨-, rfl⟩ := Prod.mk.inj hr
    simp
  · obtain ⟨-, rfl⟩ := Prod.mk.inj hr
    exact prs_small h _
theorem own_unfrozen {u : World} {B e s n c g : Nat} {xs : List Value} (h : u.ownsRow B e s (.slice (some ⟨g, 0, none⟩) n c) n xs) (i : Nat) : u.frozen? ⟨g, i, none⟩ = false := by
  rcases h.2 with ⟨h1, _⟩ | ⟨k, cap, cur, hv, hB, hk, _⟩
  · cases h1
  · injection hv with e1
    simp only [Option.some.injEq, Addr.mk.injEq, and_true] at e1
    subst e1
    exact frozen_of_row u g i cur e hk
section
variable {u : World} {B e n c : Nat} {A : Option Addr} {zs : List Int}
theorem own_some (h : u.ownsRow B e 2 (.slice A n c) n (ints zs)) (hn : 0 < n) : ∃ g, A = some ⟨g, 0, none⟩ := by
  obtain ⟨g, cap, hv, _, _⟩ := h.form hn
  injection hv with h1
  exact ⟨g, h1⟩
theorem own_store {g i : Nat} {z : Int} (h : u.ownsRow B e 2 (.slice (some ⟨g, 0, none⟩) n c) n (ints zs)) (hi : i < n * 2) : (u.setCell ⟨g, i, none⟩ (.int .i64 z)).ownsRow B e 2 (.slice (some ⟨g, 0, none⟩) n c) n (ints (zs.set i z)) := by
  have h0 := (h.stored i (.int .i64 z)).1
  have e1 : (ints zs).set i (.int .i64 z) = ints (zs.set i z) := by simp [ints, List.map_set]
  rw [e1] at h0
  exact h0
theorem own_cell_at {g i : Nat} (h : u.ownsRow B e 2 (.slice (some ⟨g, 0, none⟩) n c) n (ints zs)) (hi : i < n * 2) : u.cell? ⟨g, i, none⟩ = some (.int .i64 (zs.getD i 0)) ∧ u.frozen? ⟨g, i, none⟩ = false ∧ g < u.heap.size ∧ B ≤ g := by
  have hl : (ints zs).length = n * 2 := h.1
  have hz : i < zs.length := by simpa [ints] using (show i < (ints zs).length by omega)
  refine ⟨?_, own_unfrozen h i, ?_⟩
  · have := own_nums (A := some ⟨g, 0, none⟩) h
    obtain ⟨b, off, e1, _, hc⟩ := this.2 (by omega)
    simp only [Option.some.injEq, Addr.mk.injEq, and_true] at e1
    obtain ⟨rfl, rfl⟩ := e1
    have := hc i hi
    simpa using this
  · obtain ⟨g', cap, hv, hb, hlt⟩ := h.form (by omega)
    injection hv with h1
    simp only [Option.some.injEq, Addr.mk.injEq, and_true] at h1
    subst h1
    exact ⟨hlt, hb⟩
end

set_option maxRecDepth 100000 in
set_option maxHeartbeats 8000000 in
theorem walk (n0 e0 p0 i0 j0 : Int) (v1 : Gv) (G1 : GL) (a2 : Int) (a3 : Int) (a4 : Int) (w : World) (w1 : Sees w w.heap.size v1 G1) (s1 : v1.N.n ≤ 9223372036854775807) (t1 : v1.E.n ≤ 9223372036854775807) (u1 : ∀ j, j < G1.N.length → (G1.N.getD j (0, [])).2.length ≤ 9223372036854775807) (w2 : (Lit.int .i64 a2).wf = true) (w3 : (Lit.int .i64 a3).wf = true) (w4 : (Lit.int .i64 a4).wf = true) :
    Calls Try.prog 5 #[.agg #[.int .i64 n0, .int .i64 e0, .int .i64 p0, .int .i64 i0, .int .i64 j0], v1.val, .int .i64 a2, .int .i64 a3, .int .i64 a4] w (Drew (.bool true) w) := by
  obtain ⟨⟨nA, nn, nc⟩, ⟨eA, en, ec⟩, x, y⟩ := v1
  have SW := hide w1
  have HN := hide s1
  have HE := hide t1
  have HP := hide u1
  clear w1 s1 t1 u1
  show Calls Try.prog 5 #[.agg #[.int .i64 n0, .int .i64 e0, .int .i64 p0, .int .i64 i0, .int .i64 j0], .agg #[.slice nA nn nc, .slice eA en ec, .int .i64 x, .int .i64 y], .int .i64 a2, .int .i64 a3, .int .i64 a4] w _
  obtain ⟨W, hW⟩ : ∃ W, Hid ((w.alloc (.cells #[.int .i64 n0, .int .i64 e0, .int .i64 p0, .int .i64 i0, .int .i64 j0] 23)).alloc (.cells #[.slice nA nn nc, .slice eA en ec, .int .i64 x, .int .i64 y] 27) = W) := ⟨_, rfl⟩
  have BB : Hid (Bx2 w W #[.int .i64 n0, .int .i64 e0, .int .i64 p0, .int .i64 i0, .int .i64 j0] #[.slice nA nn nc, .slice eA en ec, .int .i64 x, .int .i64 y]) := by show Bx2 _ _ _ _; rw [← hW.out]; exact ⟨boxed2 w _ _, heap_alloc2_old w _ _, heap_alloc2_new w _ _⟩
  obtain ⟨q, hq⟩ := bool_of (FewG G1 ∧ Okg n0 e0 p0 i0 j0 G1)
  have HQ := hide hq
  clear hq w2 w3 w4
  go_enter Try.func5, Try.ntmps5
  go_upto_region 1 with fail
  have hW' := hW.out
  rw [hW']
  clear hW hW'
  go_wp2_with fail
  refine (live_any W).mono ?_
  rintro e u1 ⟨rfl, hu⟩
  have BB1 := hide (BB.out.step hu)
  clear hu BB
  obtain ⟨hc, hg, lc, lg⟩ := BB1.out.cells
  go_wp2_with fail
  refine (may_any n0 e0 p0 i0 j0 ⟨⟨nA, nn, nc⟩, ⟨eA, en, ec⟩, x, y⟩ G1 q u1 ((SW.out.below BB1.out.bel (Nat.le_refl _)).more BB1.out.bel.size) HN.out HE.out HP.out HQ).mono ?_
  rintro e u2 ⟨rfl, hu⟩
  have BB2 := hide (BB1.out.step hu)
  clear hu BB1 hc hg lc lg
  cases q
  · go_wp2
    go_ret
    exact ⟨rfl, BB2.out.bel⟩
  ·
    have HF : Hid (FewG G1) := (HQ.out.1 rfl).1
    have HO : Hid (Okg n0 e0 p0 i0 j0 G1) := (HQ.out.1 rfl).2
    have HS : Hid (Small G1) := HO.out.small HF.out
    have LN : Hid (G1.N.length = nn) := SW.out.nodes.1
    have LE : Hid (en = G1.E.length) := edges_len SW.out.edges
    have hnn : nn ≤ 100 := by have := HF.out.2.1; have := LN.out; omega
    have hen : en ≤ 100 := by have := HF.out.2.2; have := LE.out; omega
    have HPP := hide HF.out.1
    have SG := hide ((SW.out.below BB2.out.bel (Nat.le_refl _)).more BB2.out.bel.size)
    have BB := BB2
    clear HN HE HP HQ SW BB2 HF HO
    obtain ⟨e1, R1, h1⟩ : ∃ e R, Hid (setR G1 a2 a3 a4 = (e, R)) := ⟨_, _, rfl⟩
    obtain ⟨e2, R2, h2⟩ : ∃ e R, Hid (delR G1 a2 a3 = (e, R)) := ⟨_, _, rfl⟩
    obtain ⟨e3, R3, h3⟩ : ∃ e R, Hid (getR G1 a2 = (e, R)) := ⟨_, _, rfl⟩
    have F1 := hide (fit_set HS.out h1.out)
    have F2 := hide (fit_del HS.out h2.out)
    have F0 := hide (fit_small HS.out)
    have F3 := hide (fit_get HS.out h3.out)
    obtain ⟨hc, hg0, lc, lg⟩ := BB.out.cells
    go_wp2_with fail
    refine (copy_any ⟨⟨nA, nn, nc⟩, ⟨eA, en, ec⟩, x, y⟩ G1 _ SG.out (by dsimp only; omega) (by dsimp only; omega) (fun j hj => by have := HPP.out j hj; omega)).mono ?_
    rintro e t0 ⟨⟨⟨sA0, sm0, sc0⟩, ⟨tA0, tn0, tc0⟩, sx0, sy0⟩, LL0, rfl, hm, hb⟩
    have hm := hide (show Mine _ t0 ⟨⟨sA0, sm0, sc0⟩, ⟨tA0, tn0, tc0⟩, sx0, sy0⟩ G1 from ⟨_, hm.out⟩)
    clear hc hg0 lc lg
    obtain ⟨L0, OW0⟩ := hm.out
    have LN0 : Hid (sm0 = (G1).N.length) := OW0.many
    have LE0 : Hid (tn0 = (G1).E.length) := edges_len OW0.sees.edges
    have S0 := hide OW0.sees
    clear OW0 hm
    have BB := hide (BB.out.step hb.out)
    have SG := hide (SG.out.step hb.out)
    clear hb
    obtain ⟨X0, hX⟩ : ∃ X, Hid (t0.alloc (.cells #[.slice sA0 sm0 sc0, .slice tA0 tn0 tc0, .int .i64 sx0, .int .i64 sy0] 27) = X) := ⟨_, rfl⟩
    obtain ⟨g0, hg⟩ : ∃ g, Hid (t0.heap.size = g) := ⟨_, rfl⟩
    have BX : Hid (Below t0.heap.size t0 X0) := by show Below _ _ _; rw [← hX.out]; exact (Below.refl _ _).alloc (Nat.le_refl _) _
    have H0 : Hid (X0.heap[g0]? = some (.cells #[.slice sA0 sm0 sc0, .slice tA0 tn0 tc0, .int .i64 sx0, .int .i64 sy0] 27 (0, 0))) := by show _ = _; rw [← hX.out, ← hg.out]; exact heap_alloc_new _ _
    have BB := hide (BB.out.step BX.out)
    have SG := hide (SG.out.step BX.out)
    have S0 := hide (S0.out.step BX.out)
    go_upto_region 6 with fail
    have hX' := hX.out
    have hg' := hg.out
    rw [hX', hg']
    clear hX hg hX' hg' BX
    obtain ⟨hc, hg0, lc, lg⟩ := BB.out.cells
    go_wp2_with fail
    refine (set_any ⟨⟨nA, nn, nc⟩, ⟨eA, en, ec⟩, x, y⟩ G1 R1 a2 a3 a4 e1 _ SG.out HS.out h1).mono ?_
    rintro e t1 ⟨⟨⟨sA1, sm1, sc1⟩, ⟨tA1, tn1, tc1⟩, sx1, sy1⟩, rfl, hm, hb⟩
    clear hc hg0 lc lg
    obtain ⟨L1, OW1⟩ := hm.out
    have LN1 : Hid (sm1 = (R1).N.length) := OW1.many
    have LE1 : Hid (tn1 = (R1).E.length) := edges_len OW1.sees.edges
    have S1 := hide OW1.sees
    clear OW1 hm
    have BB := hide (BB.out.step hb.out)
    have H0 := hide (bx_step H0.out hb.out)
    have SG := hide (SG.out.step hb.out)
    have S0 := hide (S0.out.step hb.out)
    clear hb
    obtain ⟨X1, hX⟩ : ∃ X, Hid (t1.alloc (.cells #[.slice sA1 sm1 sc1, .slice tA1 tn1 tc1, .int .i64 sx1, .int .i64 sy1] 27) = X) := ⟨_, rfl⟩
    obtain ⟨g1, hg⟩ : ∃ g, Hid (t1.heap.size = g) := ⟨_, rfl⟩
    have BX : Hid (Below t1.heap.size t1 X1) := by show Below _ _ _; rw [← hX.out]; exact (Below.refl _ _).alloc (Nat.le_refl _) _
    have H1 : Hid (X1.heap[g1]? = some (.cells #[.slice sA1 sm1 sc1, .slice tA1 tn1 tc1, .int .i64 sx1, .int .i64 sy1] 27 (0, 0))) := by show _ = _; rw [← hX.out, ← hg.out]; exact heap_alloc_new _ _
    have BB := hide (BB.out.step BX.out)
    have H0 := hide (bx_step H0.out BX.out)
    have SG := hide (SG.out.step BX.out)
    have S0 := hide (S0.out.step BX.out)
    have S1 := hide (S1.out.step BX.out)
    go_upto_region 7 with fail
    have hX' := hX.out
    have hg' := hg.out
    rw [hX', hg']
    clear hX hg hX' hg' BX
    obtain ⟨hc, hg0, lc, lg⟩ := BB.out.cells
    go_wp2_with fail
    refine (rset_any ⟨⟨nA, nn, nc⟩, ⟨eA, en, ec⟩, x, y⟩ G1 R1 a2 a3 a4 e1 _ SG.out HS.out h1).mono ?_
    rintro e t2 ⟨⟨⟨sA2, sm2, sc2⟩, ⟨tA2, tn2, tc2⟩, sx2, sy2⟩, rfl, hm, hb⟩
    clear hc hg0 lc lg
    obtain ⟨L2, OW2⟩ := hm.out
    have LN2 : Hid (sm2 = (R1).N.length) := OW2.many
    have LE2 : Hid (tn2 = (R1).E.length) := edges_len OW2.sees.edges
    have S2 := hide OW2.sees
    clear OW2 hm
    have BB := hide (BB.out.step hb.out)
    have H0 := hide (bx_step H0.out hb.out)
    have H1 := hide (bx_step H1.out hb.out)
    have SG := hide (SG.out.step hb.out)
    have S0 := hide (S0.out.step hb.out)
    have S1 := hide (S1.out.step hb.out)
    clear hb
    obtain ⟨X2, hX⟩ : ∃ X, Hid (t2.alloc (.cells #[.slice sA2 sm2 sc2, .slice tA2 tn2 tc2, .int .i64 sx2, .int .i64 sy2] 27) = X) := ⟨_, rfl⟩
    obtain ⟨g2, hg⟩ : ∃ g, Hid (t2.heap.size = g) := ⟨_, rfl⟩
    have BX : Hid (Below t2.heap.size t2 X2) := by show Below _ _ _; rw [← hX.out]; exact (Below.refl _ _).alloc (Nat.le_refl _) _
    have H2 : Hid (X2.heap[g2]? = some (.cells #[.slice sA2 sm2 sc2, .slice tA2 tn2 tc2, .int .i64 sx2, .int .i64 sy2] 27 (0, 0))) := by show _ = _; rw [← hX.out, ← hg.out]; exact heap_alloc_new _ _
    have BB := hide (BB.out.step BX.out)
    have H0 := hide (bx_step H0.out BX.out)
    have H1 := hide (bx_step H1.out BX.out)
    have SG := hide (SG.out.step BX.out)
    have S0 := hide (S0.out.step BX.out)
    have S1 := hide (S1.out.step BX.out)
    have S2 := hide (S2.out.step BX.out)
    go_upto_region 8 with fail
    have hX' := hX.out
    have hg' := hg.out
    rw [hX', hg']
    clear hX hg hX' hg' BX
    obtain ⟨hc, hg0, lc, lg⟩ := BB.out.cells
    go_wp2_with fail
    refine (del_any ⟨⟨nA, nn, nc⟩, ⟨eA, en, ec⟩, x, y⟩ G1 R2 a2 a3 e2 _ SG.out HS.out h2).mono ?_
    rintro e t3 ⟨⟨⟨sA3, sm3, sc3⟩, ⟨tA3, tn3, tc3⟩, sx3, sy3⟩, rfl, hm, hb⟩
    clear hc hg0 lc lg
    obtain ⟨L3, OW3⟩ := hm.out
    have LN3 : Hid (sm3 = (R2).N.length) := OW3.many
    have LE3 : Hid (tn3 = (R2).E.length) := edges_len OW3.sees.edges
    have S3 := hide OW3.sees
    clear OW3 hm
    have BB := hide (BB.out.step hb.out)
    have H0 := hide (bx_step H0.out hb.out)
    have H1 := hide (bx_step H1.out hb.out)
    have H2 := hide (bx_step H2.out hb.out)
    have SG := hide (SG.out.step hb.out)
    have S0 := hide (S0.out.step hb.out)
    have S1 := hide (S1.out.step hb.out)
    have S2 := hide (S2.out.step hb.out)
    clear hb
    obtain ⟨X3, hX⟩ : ∃ X, Hid (t3.alloc (.cells #[.slice sA3 sm3 sc3, .slice tA3 tn3 tc3, .int .i64 sx3, .int .i64 sy3] 27) = X) := ⟨_, rfl⟩
    obtain ⟨g3, hg⟩ : ∃ g, Hid (t3.heap.size = g) := ⟨_, rfl⟩
    have BX : Hid (Below t3.heap.size t3 X3) := by show Below _ _ _; rw [← hX.out]; exact (Below.refl _ _).alloc (Nat.le_refl _) _
    have H3 : Hid (X3.heap[g3]? = some (.cells #[.slice sA3 sm3 sc3, .slice tA3 tn3 tc3, .int .i64 sx3, .int .i64 sy3] 27 (0, 0))) := by show _ = _; rw [← hX.out, ← hg.out]; exact heap_alloc_new _ _
    have BB := hide (BB.out.step BX.out)
    have H0 := hide (bx_step H0.out BX.out)
    have H1 := hide (bx_step H1.out BX.out)
    have H2 := hide (bx_step H2.out BX.out)
    have SG := hide (SG.out.step BX.out)
    have S0 := hide (S0.out.step BX.out)
    have S1 := hide (S1.out.step BX.out)
    have S2 := hide (S2.out.step BX.out)
    have S3 := hide (S3.out.step BX.out)
    go_upto_region 9 with fail
    have hX' := hX.out
    have hg' := hg.out
    rw [hX', hg']
    clear hX hg hX' hg' BX
    obtain ⟨hc, hg0, lc, lg⟩ := BB.out.cells
    go_wp2_with fail
    refine (rdel_any ⟨⟨nA, nn, nc⟩, ⟨eA, en, ec⟩, x, y⟩ G1 R2 a2 a3 e2 _ SG.out HS.out h2).mono ?_
    rintro e t4 ⟨⟨⟨sA4, sm4, sc4⟩, ⟨tA4, tn4, tc4⟩, sx4, sy4⟩, rfl, hm, hb⟩
    clear hc hg0 lc lg
    obtain ⟨L4, OW4⟩ := hm.out
    have LN4 : Hid (sm4 = (R2).N.length) := OW4.many
    have LE4 : Hid (tn4 = (R2).E.length) := edges_len OW4.sees.edges
    have S4 := hide OW4.sees
    clear OW4 hm
    have BB := hide (BB.out.step hb.out)
    have H0 := hide (bx_step H0.out hb.out)
    have H1 := hide (bx_step H1.out hb.out)
    have H2 := hide (bx_step H2.out hb.out)
    have H3 := hide (bx_step H3.out hb.out)
    have SG := hide (SG.out.step hb.out)
    have S0 := hide (S0.out.step hb.out)
    have S1 := hide (S1.out.step hb.out)
    have S2 := hide (S2.out.step hb.out)
    have S3 := hide (S3.out.step hb.out)
    clear hb
    obtain ⟨X4, hX⟩ : ∃ X, Hid (t4.alloc (.cells #[.slice sA4 sm4 sc4, .slice tA4 tn4 tc4, .int .i64 sx4, .int .i64 sy4] 27) = X) := ⟨_, rfl⟩
    obtain ⟨g4, hg⟩ : ∃ g, Hid (t4.heap.size = g) := ⟨_, rfl⟩
    have BX : Hid (Below t4.heap.size t4 X4) := by show Below _ _ _; rw [← hX.out]; exact (Below.refl _ _).alloc (Nat.le_refl _) _
    have H4 : Hid (X4.heap[g4]? = some (.cells #[.slice sA4 sm4 sc4, .slice tA4 tn4 tc4, .int .i64 sx4, .int .i64 sy4] 27 (0, 0))) := by show _ = _; rw [← hX.out, ← hg.out]; exact heap_alloc_new _ _
    have BB := hide (BB.out.step BX.out)
    have H0 := hide (bx_step H0.out BX.out)
    have H1 := hide (bx_step H1.out BX.out)
    have H2 := hide (bx_step H2.out BX.out)
    have H3 := hide (bx_step H3.out BX.out)
    have SG := hide (SG.out.step BX.out)
    have S0 := hide (S0.out.step BX.out)
    have S1 := hide (S1.out.step BX.out)
    have S2 := hide (S2.out.step BX.out)
    have S3 := hide (S3.out.step BX.out)
    have S4 := hide (S4.out.step BX.out)
    go_upto_region 10 with fail
    have hX' := hX.out
    have hg' := hg.out
    rw [hX', hg']
    clear hX hg hX' hg' BX
    obtain ⟨hc, hg0, lc, lg⟩ := BB.out.cells
    go_wp2_with fail
    refine (get_any ⟨⟨nA, nn, nc⟩, ⟨eA, en, ec⟩, x, y⟩ G1 R3 a2 e3 X4 SG.out HS.out h3).mono ?_
    rintro e t5 ⟨⟨pA, pn, pc⟩, rfl, hw, hb⟩
    clear hc hg0 lc lg
    obtain ⟨Bp, hBp⟩ : ∃ B, Hid (X4.heap.size = B) := ⟨_, rfl⟩
    have hw1 := hw.out
    rw [hBp.out] at hw1
    have Rp := hide hw1
    have LP : Hid (pn = R3.length) := pairs_len (own_nums hw.out)
    clear hw hw1
    have WG : Hid (Sees t5 Bp ⟨⟨nA, nn, nc⟩, ⟨eA, en, ec⟩, x, y⟩ G1) := by show Sees _ _ _ _; rw [← hBp.out]; exact SG.out.below hb.out (Nat.le_refl _)
    have W0 : Hid (Sees t5 Bp ⟨⟨sA0, sm0, sc0⟩, ⟨tA0, tn0, tc0⟩, sx0, sy0⟩ G1) := by show Sees _ _ _ _; rw [← hBp.out]; exact S0.out.below hb.out (Nat.le_refl _)
    have LB : Hid (Bp ≤ t5.heap.size) := by show _ ≤ _; rw [← hBp.out]; exact hb.out.size
    have BWp : Hid (w.heap.size + 2 ≤ Bp) := by show _ ≤ _; rw [← hBp.out]; have := BB.out.cells.2.2.2; omega
    have G0p : Hid (g0 < Bp) := by show _ < _; rw [← hBp.out]; exact (bx_all H0.out).2.2
    have BB := hide (BB.out.step hb.out)
    have H0 := hide (bx_step H0.out hb.out)
    have H1 := hide (bx_step H1.out hb.out)
    have H2 := hide (bx_step H2.out hb.out)
    have H3 := hide (bx_step H3.out hb.out)
    have H4 := hide (bx_step H4.out hb.out)
    have SG := hide (SG.out.step hb.out)
    have S0 := hide (S0.out.step hb.out)
    have S1 := hide (S1.out.step hb.out)
    have S2 := hide (S2.out.step hb.out)
    have S3 := hide (S3.out.step hb.out)
    have S4 := hide (S4.out.step hb.out)
    clear hb hBp
    obtain ⟨hc, hg0, lc, lg⟩ := BB.out.cells
    go_wp2_with fail
    refine (rget_any ⟨⟨nA, nn, nc⟩, ⟨eA, en, ec⟩, x, y⟩ G1 R3 a2 e3 t5 SG.out HS.out h3).mono ?_
    rintro e t6 ⟨⟨qA, qn, qc⟩, rfl, hw, hb⟩
    clear hc hg0 lc lg
    have Pq : Hid (Props t6 t6.heap.size ⟨qA, qn, qc⟩ R3) := ⟨own_nums hw.out, own_nil_cap hw.out⟩
    have LQ : Hid (qn = R3.length) := pairs_len Pq.out.1
    clear hw
    have WG := hide (WG.out.below (hb.out.mono LB.out) (Nat.le_refl _))
    have W0 := hide (W0.out.below (hb.out.mono LB.out) (Nat.le_refl _))
    have LB : Hid (Bp ≤ t6.heap.size) := Nat.le_trans LB.out hb.out.size
    have BB := hide (BB.out.step hb.out)
    have H0 := hide (bx_step H0.out hb.out)
    have H1 := hide (bx_step H1.out hb.out)
    have H2 := hide (bx_step H2.out hb.out)
    have H3 := hide (bx_step H3.out hb.out)
    have H4 := hide (bx_step H4.out hb.out)
    have SG := hide (SG.out.step hb.out)
    have S0 := hide (S0.out.step hb.out)
    have S1 := hide (S1.out.step hb.out)
    have S2 := hide (S2.out.step hb.out)
    have S3 := hide (S3.out.step hb.out)
    have S4 := hide (S4.out.step hb.out)
    have Rp := hide (own_below Rp.out hb.out)
    clear hb
    have Pp : Hid (Props t6 t6.heap.size ⟨pA, pn, pc⟩ R3) := ⟨own_nums Rp.out, own_nil_cap Rp.out⟩
    have hpn : pn ≤ 1000 := by have := LP.out; have := F3.out; omega
    have hqn : qn ≤ 1000 := by have := LQ.out; have := F3.out; omega
    have z1 : (e1 == e1) = true := by simp
    have z2 : (e2 == e2) = true := by simp
    have z3 : (e3 == e3) = true := by simp
    obtain ⟨o1, -, l1⟩ := bx_all H1.out
    obtain ⟨o2, -, l2⟩ := bx_all H2.out
    obtain ⟨hc, hg0, lc, lg⟩ := BB.out.cells
    go_wp2_with fail
    refine (same_graph ⟨⟨sA1, sm1, sc1⟩, ⟨tA1, tn1, tc1⟩, sx1, sy1⟩ ⟨⟨sA2, sm2, sc2⟩, ⟨tA2, tn2, tc2⟩, sx2, sy2⟩ R1 R1 true _ S1.out S2.out (by have := F1.out.n; have := LN1.out; dsimp only; omega) (by have := F1.out.e; have := LE1.out; dsimp only; omega) (by have := F1.out.n; have := LN2.out; dsimp only; omega) (by have := F1.out.e; have := LE2.out; dsimp only; omega) F1.out.p F1.out.p ⟨fun _ => rfl, fun _ => rfl⟩).mono ?_
    rintro e t7 ⟨rfl, hb⟩
    clear hc hg0 lc lg
    clear o1 l1 o2 l2
    have BB := hide (BB.out.step hb)
    have H0 := hide (bx_step H0.out hb)
    have H1 := hide (bx_step H1.out hb)
    have H2 := hide (bx_step H2.out hb)
    have H3 := hide (bx_step H3.out hb)
    have H4 := hide (bx_step H4.out hb)
    have SG := hide (SG.out.step hb)
    have S0 := hide (S0.out.step hb)
    have S1 := hide (S1.out.step hb)
    have S2 := hide (S2.out.step hb)
    have S3 := hide (S3.out.step hb)
    have S4 := hide (S4.out.step hb)
    have Rp := hide (own_below Rp.out hb)
    have WG := hide (WG.out.below (hb.mono LB.out) (Nat.le_refl _))
    have W0 := hide (W0.out.below (hb.mono LB.out) (Nat.le_refl _))
    have LB : Hid (Bp ≤ _) := Nat.le_trans LB.out hb.size
    have Pq := hide ((Pq.out.below hb (Nat.le_refl _)).more hb.size)
    have Pp := hide ((Pp.out.below hb (Nat.le_refl _)).more hb.size)
    clear hb
    obtain ⟨o3, -, l3⟩ := bx_all H3.out
    obtain ⟨o4, -, l4⟩ := bx_all H4.out
    obtain ⟨hc, hg0, lc, lg⟩ := BB.out.cells
    go_wp2_with fail
    refine (same_graph ⟨⟨sA3, sm3, sc3⟩, ⟨tA3, tn3, tc3⟩, sx3, sy3⟩ ⟨⟨sA4, sm4, sc4⟩, ⟨tA4, tn4, tc4⟩, sx4, sy4⟩ R2 R2 true _ S3.out S4.out (by have := F2.out.n; have := LN3.out; dsimp only; omega) (by have := F2.out.e; have := LE3.out; dsimp only; omega) (by have := F2.out.n; have := LN4.out; dsimp only; omega) (by have := F2.out.e; have := LE4.out; dsimp only; omega) F2.out.p F2.out.p ⟨fun _ => rfl, fun _ => rfl⟩).mono ?_
    rintro e t8 ⟨rfl, hb⟩
    clear hc hg0 lc lg
    clear o3 l3 o4 l4
    have BB := hide (BB.out.step hb)
    have H0 := hide (bx_step H0.out hb)
    have H1 := hide (bx_step H1.out hb)
    have H2 := hide (bx_step H2.out hb)
    have H3 := hide (bx_step H3.out hb)
    have H4 := hide (bx_step H4.out hb)
    have SG := hide (SG.out.step hb)
    have S0 := hide (S0.out.step hb)
    have S1 := hide (S1.out.step hb)
    have S2 := hide (S2.out.step hb)
    have S3 := hide (S3.out.step hb)
    have S4 := hide (S4.out.step hb)
    have Rp := hide (own_below Rp.out hb)
    have WG := hide (WG.out.below (hb.mono LB.out) (Nat.le_refl _))
    have W0 := hide (W0.out.below (hb.mono LB.out) (Nat.le_refl _))
    have LB : Hid (Bp ≤ _) := Nat.le_trans LB.out hb.size
    have Pq := hide ((Pq.out.below hb (Nat.le_refl _)).more hb.size)
    have Pp := hide ((Pp.out.below hb (Nat.le_refl _)).more hb.size)
    clear hb
    obtain ⟨hc, hg0, lc, lg⟩ := BB.out.cells
    go_wp2_with fail
    refine (samePairs_eq ⟨pA, pn, pc⟩ ⟨qA, qn, qc⟩ _ _ R3 R3 _ Pp.out Pq.out (by dsimp only; omega) (by dsimp only; omega) rfl).mono ?_
    rintro e t9 ⟨rfl, hb⟩
    clear hc hg0 lc lg
    have BB := hide (BB.out.step hb)
    have H0 := hide (bx_step H0.out hb)
    have H1 := hide (bx_step H1.out hb)
    have H2 := hide (bx_step H2.out hb)
    have H3 := hide (bx_step H3.out hb)
    have H4 := hide (bx_step H4.out hb)
    have SG := hide (SG.out.step hb)
    have S0 := hide (S0.out.step hb)
    have S1 := hide (S1.out.step hb)
    have S2 := hide (S2.out.step hb)
    have S3 := hide (S3.out.step hb)
    have S4 := hide (S4.out.step hb)
    have Rp := hide (own_below Rp.out hb)
    have WG := hide (WG.out.below (hb.mono LB.out) (Nat.le_refl _))
    have W0 := hide (W0.out.below (hb.mono LB.out) (Nat.le_refl _))
    have LB : Hid (Bp ≤ _) := Nat.le_trans LB.out hb.size
    clear hb Pp Pq SG S0 S1 S2 S3 S4 H1 H2 H3 H4
    have HLp : Hid ((flat2 R3).length = pn * 2) := by show _ = _; rw [flat2_len, LP.out]
    have BW9 : Hid (Below w.heap.size w t9) := BB.out.bel
    have Hcg := hide BB.out.cells.2.1
    have Hg0 := H0
    clear H0 BB
    go_wp2
    go_loopw [25, 106] (fun y i wx => ∃ (k : Nat) (zs : List Int), k ≤ pn ∧ i = .int .i64 k ∧ zs.length = pn * 2 ∧ Hid (wx.ownsRow Bp 54 2 (.slice pA pn pc) pn (ints zs)) ∧ Hid (Below Bp t9 wx)) (fun _ i _ => pn - (intOf i).toNat)
    case atStart => exact ⟨0, _, by omega, rfl, HLp.out, Rp, Below.refl _ _⟩
    case round =>
      obtain ⟨k, zs, hk, rfl, hz, RZ, HB⟩ := hrel
      clear Rp
      by_cases hlt : k < pn
      · obtain ⟨gp, eP⟩ : ∃ gp, pA = some ⟨gp, 0, none⟩ := own_some RZ.out (by omega)
        subst eP
        have ST := fun z => hide (own_store RZ.out (i := k * 2 + 1) (z := z) (by omega))
        obtain ⟨v0, f0, l0, lb0⟩ := own_cell_at RZ.out (i := k * 2 + 1) (by omega)
        have BS := fun z => hide (HB.out.setCell (p := ⟨gp, k * 2 + 1, none⟩) lb0 (.int .i64 z))
        have i1 : (0 : Int) ≤ (k : Int) := by omega
        have i2 : (k : Int) < (pn : Int) := by omega
        generalize zs.getD (k * 2 + 1) 0 = z0 at v0
        go_wp2
        go_roundw
        case rel => exact ⟨k + 1, _, by omega, by go_num, by rw [List.length_set]; exact hz, ST _, BS _⟩
        case measure => simp [intOf]; omega
      ·
        have cA : ∀ i, wr.cell? ⟨w.heap.size + 1, i, none⟩ = (#[.slice nA nn nc, .slice eA en ec, .int .i64 x, .int .i64 y] : Array Value)[i]? := fun i => (HB.out.cell (p := ⟨w.heap.size + 1, i, none⟩) (by dsimp only; have := BWp.out; omega)).trans (Hcg.out i)
        have c0 : ∀ i, wr.cell? ⟨g0, i, none⟩ = (#[.slice sA0 sm0 sc0, .slice tA0 tn0 tc0, .int .i64 sx0, .int .i64 sy0] : Array Value)[i]? := fun i => (HB.out.cell (p := ⟨g0, i, none⟩) G0p.out).trans ((bx_all Hg0.out).1 i)
        have lB := HB.out.size
        have lA : w.heap.size + 1 < wr.heap.size := by have := BWp.out; have := LB.out; omega
        have l0 : g0 < wr.heap.size := by have := G0p.out; have := LB.out; omega
        have SGf := hide ((WG.out.below HB.out (Nat.le_refl _)).more (Nat.le_trans LB.out lB))
        have S0f := hide ((W0.out.below HB.out (Nat.le_refl _)).more (Nat.le_trans LB.out lB))
        have BWf := hide (BW9.out.trans (HB.out.mono (by have := BWp.out; omega)))
        go_wp2_with fail
        refine (same_graph ⟨⟨nA, nn, nc⟩, ⟨eA, en, ec⟩, x, y⟩ ⟨⟨sA0, sm0, sc0⟩, ⟨tA0, tn0, tc0⟩, sx0, sy0⟩ G1 G1 true _ SGf.out S0f.out (by dsimp only; omega) (by dsimp only; omega) (by have := F0.out.n; have := LN0.out; dsimp only; omega) (by have := F0.out.e; have := LE0.out; dsimp only; omega) F0.out.p F0.out.p ⟨fun _ => rfl, fun _ => rfl⟩).mono ?_
        rintro e t10 ⟨rfl, hb⟩
        have BF := hide (BWf.out.trans (hb.mono BWf.out.size))
        clear hb
        go_wp2
        go_ret
        exact ⟨rfl, BF.out⟩

set_option maxRecDepth 100000 in
theorem lifted (os : Os) (started : os.Started) (H : Type) (enc : TypeId × Value → H) :
    ReturnsInHanded {} Try.checked os 5 .any (Rows.graphPropsSpec.pre6 enc Try.prog Try.f5 Rows.graphPropsRow.domain false) (Rows.graphPropsSpec.post enc Try.prog Try.f5 false true false false) := by
  refine returnsInHanded_of_change (C := Try.checked) own started (by kernel_rfl) Try.func5
    (ChangeSpec.witness6 (enc := enc) (C := Try.checked) false ⟨#[], #[.agg #[.int .i64 0, .int .i64 0, .int .i64 0, .int .i64 0, .int .i64 0], .agg #[.slice none 0 0, .slice none 0 0, .int .i64 0, .int .i64 0], .int .i64 0, .int .i64 0, .int .i64 0], []⟩ 8 (by kernel_rfl) (by kernel_rfl) (by kernel_rfl) (by kernel_rfl)) ?_
  intro W base args ds gs before hval0 hW hcnd _
  have hval : ∀ (j : Nat) t v, Try.f5.params[j]? = some t → args[j]? = some v → Value.okWide Try.prog W .any base t v := hval0
  have hW' := hW
  obtain ⟨p, q, hA0, hV, rfl, hfz, hnd⟩ := hW
  have hA : DataW.TrodAll enc Try.prog W 0 (fun _ => true) true Try.f5.params.toList args.toList ds p := hA0
  rw [Try.params5] at hA hval
  obtain ⟨x0, vs0, d0, ds0, p0_, q0, hargs, rfl, rfl, h0, r0⟩ := trodAll_cons hA
  obtain ⟨x1, vs1, d1, ds1, p1_, q1, rfl, rfl, rfl, h1, r1⟩ := trodAll_cons r0
  obtain ⟨x2, vs2, d2, ds2, p2_, q2, rfl, rfl, rfl, h2, r2⟩ := trodAll_cons r1
  obtain ⟨x3, vs3, d3, ds3, p3_, q3, rfl, rfl, rfl, h3, r3⟩ := trodAll_cons r2
  obtain ⟨x4, vs4, d4, ds4, p4_, q4, rfl, rfl, rfl, h4, r4⟩ := trodAll_cons r3
  obtain ⟨rfl, rfl, rfl⟩ := trodAll_nil r4
  obtain rfl : args = #[x0, x1, x2, x3, x4] := by cases args; simp_all
  obtain ⟨rfl, rfl⟩ := trodVars_none hV
  have lt0 : ∀ x ∈ p0_, x.block < W.heap.size := by obtain ⟨m, hm⟩ := h0; exact DataW.trod_lt m _ _ _ hm
  have lt1 : ∀ x ∈ p1_, x.block < W.heap.size := by obtain ⟨m, hm⟩ := h1; exact DataW.trod_lt m _ _ _ hm
  obtain ⟨n0, e0, p0, i0, j0, rfl⟩ := open_cfg (hval 0 23 x0 rfl rfl) h0
  obtain ⟨v1, G1, rfl, w1, s1, t1, u1, -, -⟩ := open_graph (hval 1 27 x1 rfl rfl) h1
  obtain ⟨a2, rfl, rfl, rfl, w2⟩ := open_int Try.underlying3 (hval 2 3 x2 rfl rfl) h2
  obtain ⟨a3, rfl, rfl, rfl, w3⟩ := open_int Try.underlying3 (hval 3 3 x3 rfl rfl) h3
  obtain ⟨a4, rfl, rfl, rfl, w4⟩ := open_int Try.underlying3 (hval 4 3 x4 rfl rfl) h4
  clear hA0 hval0
  refine (walk n0 e0 p0 i0 j0 v1 G1 a2 a3 a4 W w1 s1 t1 u1 w2 w3 w4).mono fun e W' ⟨he, bel⟩ => ?_
  subst he
  exact ⟨_, rfl, _, _, _, [], _, [], hW', trodAll_mk1 (shut_bool Try.underlying4 _), (trodAll_cons_mk (Below.trod laidOut (by kernel_rfl) (of_decide_eq_true (by kernel_rfl)) h0 bel lt0) (trodAll_cons_mk (Below.trod laidOut (by kernel_rfl) (of_decide_eq_true (by kernel_rfl)) h1 bel lt1) (trodAll_cons_mk (shut_int Try.underlying3 w2) (trodAll_cons_mk (shut_int Try.underlying3 w3) (trodAll_cons_mk (shut_int Try.underlying3 w4) trodAll_mk0))))), rfl, bel.frame _, fun h => by cases h⟩

theorem over : Rows.graphPropsRow.holds Try.pinned (OpenSpec.ofChange Rows.graphPropsSpec) :=
  OpenClaim.holds_of_wide 5 Try.f5 rfl rfl rfl rfl rfl rfl rfl ⟨rfl, rfl, rfl, rfl, rfl⟩ rfl rfl rfl rfl rfl (by kernel_rfl) Try.func5 (by kernel_rfl)
    (of_decide_eq_true (by kernel_rfl)) (by unfold Func.isWrapper; first | (rw [if_pos (by decide +kernel)]; kernel_rfl) | (rw [if_neg (by decide +kernel)]; exact ⟨rfl, rfl⟩))
    (fun os started H enc _ => lifted os started H enc)

end Go.Proofs.Ytiiadkjiofkonaa.graphProps

namespace Go.Proofs.Ytiiadkjiofkonaa
/-- The statement. -/
theorem graphProps_holds : Rows.GraphPropsSaid := graphProps.over
#print axioms graphProps_holds
end Go.Proofs.Ytiiadkjiofkonaa
