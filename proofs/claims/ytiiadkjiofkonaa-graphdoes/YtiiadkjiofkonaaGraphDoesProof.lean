/- What is done with the nodes and edges of any graph that may be is what the document says; it stays as it was. (The statement tendrillaw10.GraphDoes.) -/
import Derived.Test.YtiiadkjiofkonaaRows
import Derived.Test.YtiiadkjiofkonaaRFuse
import Derived.Test.YtiiadkjiofkonaaRNear
import Derived.Test.YtiiadkjiofkonaaLMath
import Derived.Test.YtiiadkjiofkonaaGMay
import Derived.Test.YtiiadkjiofkonaaGLive
import Derived.Test.YtiiadkjiofkonaaFrame
import Derived.WalkKit
import Derived.Below
import Derived.Deep.QuietTactic
import Derived.BigQuiet
import Derived.Deep.DeepCutAuto
import Derived.Shelf.Abstract
namespace Go.Proofs.Ytiiadkjiofkonaa.graphDoes
open Go.Joins Go.ChangeShapes Go.WideShapes Go.ChangeAt Go.RowKit Go.Deep
set_option linter.unusedVariables false

open Go.Proofs.Ytiiadkjiofkonaa
theorem prs_any {G : GL} {c0 c1 c2 c3 c4 a : Int} (o : Okg c0 c1 c2 c3 c4 G) : Rise (fun z : Pr => z.1) (0, 0) (prsAt G (posN G a)) := by
  by_cases h : posN G a < G.N.length
  · exact o.pr _ h
  · intro i hi
    have e : prsAt G (posN G a) = [] := by unfold prsAt; rw [List.getD_eq_getElem?_getD, List.getElem?_eq_none (by omega)]; rfl
    rw [e] at hi
    simp at hi
theorem prs_small {G : GL} (h : Small G) (i : Nat) : (prsAt G i).length ≤ 300 := by
  by_cases hi : i < G.N.length
  · exact h.p i hi
  · have : G.N[i]? = none := List.getElem?_eq_none (by omega)
    simp [prsAt, List.getD_eq_getElem?_getD, this]
theorem prs_few {G : GL} (h : FewG G) (i : Nat) : (prsAt G i).length ≤ 100 := by
  by_cases hi : i < G.N.length
  · exact h.1 i hi
  · have : G.N[i]? = none := List.getElem?_eq_none (by omega)
    simp [prsAt, List.getD_eq_getElem?_getD, this]
/-- How much there is at the most. -/
structure FitM (G : GL) : Prop where
  n : G.N.length ≤ 1000
  e : G.E.length ≤ 1000
  p : ∀ z ∈ G.N, z.2.length ≤ 1000
theorem FitM.big {G : GL} (h : FitM G) : Hid (∀ j, j < G.N.length → (G.N.getD j (0, [])).2.length ≤ 17592186044416) := fun j hj => by
  have := h.p (G.N.getD j (0, [])) (by rw [getD_get hj]; exact List.getElem_mem hj)
  omega
theorem fitm_no : FitM noG := ⟨by simp [noG], by simp [noG], fun z hz => absurd hz (by simp [noG])⟩
structure Fit3 (G : GL) : Prop where
  n : G.N.length ≤ 300
  e : G.E.length ≤ 300
  p : ∀ z ∈ G.N, z.2.length ≤ 300
theorem fitm_small {G : GL} (h : Small G) : FitM G ∧ Fit3 G := by
  have h3 : ∀ z ∈ G.N, z.2.length ≤ 300 := fun z hz => by
    obtain ⟨i, hi, rfl⟩ := List.getElem_of_mem hz
    have := h.p i hi
    rwa [getD_get hi] at this
  exact ⟨⟨by have := h.n; omega, by have := h.e; omega, fun z hz => by have := h3 z hz; omega⟩, ⟨h.n, h.e, h3⟩⟩
theorem fitm_add {G R : GL} {c i e : Int} (h : FitM G ∧ Fit3 G) (hr : addR c G = (i, e, R)) : FitM R := by
  unfold addR at hr
  split at hr
  · simp only [Prod.mk.injEq] at hr; rw [← hr.2.2]; exact fitm_no
  · simp only [Prod.mk.injEq] at hr; rw [← hr.2.2]
    refine ⟨by simp [addG]; have := h.2.n; omega, h.1.e, fun z hz => ?_⟩
    rcases List.mem_append.1 hz with h1 | h1
    · exact h.1.p z h1
    · simp only [List.mem_singleton] at h1; rw [h1]; simp
theorem fitm_link {G R : GL} {c a b i e : Int} (h : FitM G ∧ Fit3 G) (hr : linkR c G a b = (i, e, R)) : FitM R := by
  unfold linkR at hr
  split at hr
  · simp only [Prod.mk.injEq] at hr; rw [← hr.2.2]; exact fitm_no
  · split at hr
    · simp only [Prod.mk.injEq] at hr; rw [← hr.2.2]; exact fitm_no
    · simp only [Prod.mk.injEq] at hr; rw [← hr.2.2]
      exact ⟨h.1.n, by simp [linkG]; have := h.2.e; omega, h.1.p⟩
theorem fitm_cut {G R : GL} {a e : Int} (h : FitM G ∧ Fit3 G) (hr : cutR G a = (e, R)) : FitM R := by
  unfold cutR at hr
  split at hr
  · simp only [Prod.mk.injEq] at hr; rw [← hr.2]; exact fitm_no
  · simp only [Prod.mk.injEq] at hr; rw [← hr.2]
    exact ⟨h.1.n, by have := List.length_filter_le (fun d : Ed => d.1 != a) G.E; have := h.1.e; simp only [cutG]; omega, h.1.p⟩
theorem fitm_drop {G R : GL} {a e : Int} (h : FitM G ∧ Fit3 G) (hr : dropR G a = (e, R)) : FitM R := by
  unfold dropR at hr
  split at hr
  · simp only [Prod.mk.injEq] at hr; rw [← hr.2]; exact fitm_no
  · simp only [Prod.mk.injEq] at hr; rw [← hr.2]
    exact ⟨by have := List.length_filter_le (fun d : Nd => d.1 != a) G.N; have := h.1.n; simp only [dropG]; omega, by have := List.length_filter_le (fun d : Ed => d.2.1 != a && d.2.2 != a) G.E; have := h.1.e; simp only [dropG]; omega, fun z hz => h.1.p z (List.mem_filter.1 hz).1⟩
theorem fitm_fuse {G R : GL} {a b e : Int} {M : List Pr} (h : FitM G ∧ Fit3 G) (hM : M.length ≤ 1000) (hr : fuseR G a b M = (e, R)) : FitM R := by
  unfold fuseR at hr
  split at hr
  · simp only [Prod.mk.injEq] at hr; rw [← hr.2]; exact fitm_no
  · split at hr
    · simp only [Prod.mk.injEq] at hr; rw [← hr.2]; exact fitm_no
    · simp only [Prod.mk.injEq] at hr; rw [← hr.2]
      refine ⟨by have h1 := List.length_filter_le (fun d : Nd => d.1 != b) (setN G (posN G a) M).N; have h2 := setN_len G (posN G a) M; have := h.1.n; simp only [fuseG]; omega, by simp only [fuseG, List.length_map]; exact h.1.e, fun z hz => ?_⟩
      have hz' := (List.mem_filter.1 hz).1
      simp only [setN] at hz'
      rcases List.mem_or_eq_of_mem_set hz' with h1 | h1
      · exact h.1.p z h1
      · rw [h1]; exact hM
theorem near_len {G : GL} {a e : Int} {o i : List Pr} (h : Small G) (hr : nearR G a = (e, o, i)) : o.length ≤ 300 ∧ i.length ≤ 300 := by
  unfold nearR at hr
  split at hr
  · simp only [Prod.mk.injEq] at hr; rw [← hr.2.1, ← hr.2.2]; simp
  · simp only [Prod.mk.injEq] at hr; rw [← hr.2.1, ← hr.2.2]
    have := outs_le (G := G) a
    have := ins_le (G := G) a
    have := h.e
    omega
theorem bx_set4 {u : World} {g k : Nat} {o : Obj} (h : u.heap[g]? = some o) (hne : g ≠ k) (a b c d : Value) : ((((u.setCell ⟨k, 0, none⟩ a).setCell ⟨k, 1, none⟩ b).setCell ⟨k, 2, none⟩ c).setCell ⟨k, 3, none⟩ d).heap[g]? = some o := bx_other (bx_other (bx_other (bx_other h hne) hne) hne) hne
theorem bx2_set4 {w u : World} {ca cg : Array Value} {k : Nat} (h : Bx2 w u ca cg) (hk : w.heap.size + 1 < k) (a b c d : Value) : Bx2 w ((((u.setCell ⟨k, 0, none⟩ a).setCell ⟨k, 1, none⟩ b).setCell ⟨k, 2, none⟩ c).setCell ⟨k, 3, none⟩ d) ca cg := ⟨set4_below h.bel (by omega) a b c d, bx_set4 h.cfg (by omega) a b c d, bx_set4 h.gr (by omega) a b c d⟩

set_option maxRecDepth 100000 in
set_option maxHeartbeats 8000000 in
theorem walk (n0 e0 p0 i0 j0 : Int) (v1 : Gv) (G1 : GL) (a2 : Int) (a3 : Int) (w : World) (w1 : Sees w w.heap.size v1 G1) (s1 : v1.N.n ≤ 9223372036854775807) (t1 : v1.E.n ≤ 9223372036854775807) (u1 : ∀ j, j < G1.N.length → (G1.N.getD j (0, [])).2.length ≤ 9223372036854775807) (w2 : (Lit.int .i64 a2).wf = true) (w3 : (Lit.int .i64 a3).wf = true) :
    Calls Try.prog 4 #[.agg #[.int .i64 n0, .int .i64 e0, .int .i64 p0, .int .i64 i0, .int .i64 j0], v1.val, .int .i64 a2, .int .i64 a3] w (Drew (.bool true) w) := by
  obtain ⟨⟨nA, nn, nc⟩, ⟨eA, en, ec⟩, x, y⟩ := v1
  have SW := hide w1
  have HN := hide s1
  have HE := hide t1
  have HP := hide u1
  clear w1 s1 t1 u1
  show Calls Try.prog 4 #[.agg #[.int .i64 n0, .int .i64 e0, .int .i64 p0, .int .i64 i0, .int .i64 j0], .agg #[.slice nA nn nc, .slice eA en ec, .int .i64 x, .int .i64 y], .int .i64 a2, .int .i64 a3] w _
  obtain ⟨W, hW⟩ : ∃ W, Hid ((w.alloc (.cells #[.int .i64 n0, .int .i64 e0, .int .i64 p0, .int .i64 i0, .int .i64 j0] 23)).alloc (.cells #[.slice nA nn nc, .slice eA en ec, .int .i64 x, .int .i64 y] 27) = W) := ⟨_, rfl⟩
  have BB : Hid (Bx2 w W #[.int .i64 n0, .int .i64 e0, .int .i64 p0, .int .i64 i0, .int .i64 j0] #[.slice nA nn nc, .slice eA en ec, .int .i64 x, .int .i64 y]) := by show Bx2 _ _ _ _; rw [← hW.out]; exact ⟨boxed2 w _ _, heap_alloc2_old w _ _, heap_alloc2_new w _ _⟩
  obtain ⟨q, hq⟩ := bool_of (FewG G1 ∧ Okg n0 e0 p0 i0 j0 G1)
  have HQ := hide hq
  clear hq w2 w3
  go_enter Try.func4, Try.ntmps4
  go_upto_region 1 with fail
  have hW' := hW.out
  rw [hW']
  clear hW hW'
  go_wp2_with fail
  refine (live_any W).mono ?_
  rintro e u1 ⟨rfl, hu⟩
  have BB1 := hide (BB.out.step hu)
  clear hu BB
  obtain ⟨hc, hg, lc, lg⟩ := BB1.out.cells
  go_wp2_with fail
  refine (may_any n0 e0 p0 i0 j0 ⟨⟨nA, nn, nc⟩, ⟨eA, en, ec⟩, x, y⟩ G1 q u1 ((SW.out.below BB1.out.bel (Nat.le_refl _)).more BB1.out.bel.size) HN.out HE.out HP.out HQ).mono ?_
  rintro e u2 ⟨rfl, hu⟩
  have BB2 := hide (BB1.out.step hu)
  clear hu BB1 hc hg lc lg
  cases q
  · go_wp2
    go_ret
    exact ⟨rfl, BB2.out.bel⟩
  ·
    have HF : Hid (FewG G1) := (HQ.out.1 rfl).1
    have HO : Hid (Okg n0 e0 p0 i0 j0 G1) := (HQ.out.1 rfl).2
    have HS : Hid (Small G1) := HO.out.small HF.out
    have LN : Hid (G1.N.length = nn) := SW.out.nodes.1
    have LE : Hid (en = G1.E.length) := edges_len SW.out.edges
    have hnn : nn ≤ 100 := by have := HF.out.2.1; have := LN.out; omega
    have hen : en ≤ 100 := by have := HF.out.2.2; have := LE.out; omega
    have HPP := hide HF.out.1
    obtain ⟨i1, e1, R1, h1⟩ : ∃ i e R, Hid (addR i0 G1 = (i, e, R)) := ⟨_, _, _, rfl⟩
    obtain ⟨i2, e2, R2, h2⟩ : ∃ i e R, Hid (linkR j0 G1 a2 a3 = (i, e, R)) := ⟨_, _, _, rfl⟩
    obtain ⟨e3, R3, h3⟩ : ∃ e R, Hid (cutR G1 a2 = (e, R)) := ⟨_, _, rfl⟩
    obtain ⟨e4, R4, h4⟩ : ∃ e R, Hid (dropR G1 a2 = (e, R)) := ⟨_, _, rfl⟩
    obtain ⟨M, hMp, hMu⟩ := one_list (both_apart (prs_any HO.out (a := a2)) (prs_any HO.out (a := a3)))
    have HMU : Hid (∀ l : List Pr, l.Perm (prsAt G1 (posN G1 a2) ++ missing (prsAt G1 (posN G1 a2)) (prsAt G1 (posN G1 a3))) → (l.Pairwise fun p q => ¬ q.1 < p.1) → l = M) := hMu
    have HML : Hid (M.length ≤ 1000) := by show _ ≤ _; have e := hMp.length_eq; rw [List.length_append] at e; have := prs_small HS.out (posN G1 a2); have := prs_small HS.out (posN G1 a3); have h5 : (missing (prsAt G1 (posN G1 a2)) (prsAt G1 (posN G1 a3))).length ≤ (prsAt G1 (posN G1 a3)).length := List.length_filter_le _ _; omega
    have HSUM : Hid ((prsAt G1 (posN G1 a2)).length + (prsAt G1 (posN G1 a3)).length ≤ 290) := by show _ ≤ _; have := prs_few HF.out (posN G1 a2); have := prs_few HF.out (posN G1 a3); omega
    have HR2 := hide (prs_any HO.out (a := a2))
    have HR3 := hide (prs_any HO.out (a := a3))
    clear hMp hMu
    obtain ⟨e5, R5, h5⟩ : ∃ e R, Hid (fuseR G1 a2 a3 M = (e, R)) := ⟨_, _, rfl⟩
    obtain ⟨e6, o6, i6, h6⟩ : ∃ e o i, Hid (nearR G1 a2 = (e, o, i)) := ⟨_, _, _, rfl⟩
    have FM := hide (fitm_small HS.out)
    have F1 := hide (fitm_add FM.out h1.out)
    have F2 := hide (fitm_link FM.out h2.out)
    have F3 := hide (fitm_cut FM.out h3.out)
    have F4 := hide (fitm_drop FM.out h4.out)
    have F5 := hide (fitm_fuse FM.out HML.out h5.out)
    have F6 := hide (near_len HS.out h6.out)
    have SG := hide ((SW.out.below BB2.out.bel (Nat.le_refl _)).more BB2.out.bel.size)
    obtain ⟨hc, hg0, lc, lg⟩ := BB2.out.cells
    clear HN HE HP HQ HF HO
    go_wp2_with fail
    clear hc hg0 lc lg
    refine (copy_any ⟨⟨nA, nn, nc⟩, ⟨eA, en, ec⟩, x, y⟩ G1 _ SG.out (by dsimp only; omega) (by dsimp only; omega) (fun j hj => by have := HPP.out j hj; omega)).mono ?_
    rintro e T ⟨⟨⟨sA0, sm0, sc0⟩, ⟨tA0, tn0, tc0⟩, sx0, sy0⟩, L0, rfl, O0, hb⟩
    have LN0 : Hid (sm0 = G1.N.length) := O0.out.many
    have LE0 : Hid (tn0 = G1.E.length) := edges_len O0.out.sees.edges
    have S0 := hide O0.out.sees
    have BB := hide (BB2.out.step hb.out)
    clear O0 hb BB2 SG
    obtain ⟨X, hX⟩ : ∃ X, Hid (T.alloc (.cells #[.slice sA0 sm0 sc0, .slice tA0 tn0 tc0, .int .i64 sx0, .int .i64 sy0] 27) = X) := ⟨_, rfl⟩
    obtain ⟨g0, hg⟩ : ∃ g, Hid (T.heap.size = g) := ⟨_, rfl⟩
    have BX : Hid (Below T.heap.size T X) := by show Below _ _ _; rw [← hX.out]; exact (Below.refl _ _).alloc (Nat.le_refl _) _
    have H0 : Hid (X.heap[g0]? = some (.cells #[.slice sA0 sm0 sc0, .slice tA0 tn0 tc0, .int .i64 sx0, .int .i64 sy0] 27 (0, 0))) := by show _ = _; rw [← hX.out, ← hg.out]; exact heap_alloc_new _ _
    have GT0 : Hid (T.heap.size ≤ g0) := by show _ ≤ _; rw [hg.out]; omega
    have BBT : w.heap.size + 1 < T.heap.size := BB.out.cells.2.2.2
    have BB := hide (BB.out.step BX.out)
    have WT : Hid (w.heap.size + 1 < T.heap.size) := by show _ < _; exact BBT
    go_upto_region 6 with fail
    have hX' := hX.out
    have hg' := hg.out
    rw [hX', hg']
    clear hX hg hX' hg' BBT
    obtain ⟨hc, hg0, lc, lg⟩ := BB.out.cells
    go_wp2_with fail
    refine (add_any n0 e0 p0 i0 j0 ⟨⟨nA, nn, nc⟩, ⟨eA, en, ec⟩, x, y⟩ G1 R1 i1 e1 X ((SW.out.below BB.out.bel (Nat.le_refl _)).more BB.out.bel.size) HS.out h1).mono ?_
    rintro e u1 ⟨⟨⟨sA1, sm1, sc1⟩, ⟨tA1, tn1, tc1⟩, sx1, sy1⟩, rfl, hm, hb⟩
    clear hc hg0 lc lg
    obtain ⟨L1, O1⟩ := hm.out
    have O1 := hide (O1.less BB.out.bel.size)
    have BB := hide (BB.out.step hb.out)
    have BX := hide (BX.out.trans (hb.out.mono BX.out.size))
    have H0 := hide (bx_step H0.out hb.out)
    clear hm hb
    obtain ⟨X1, hX⟩ : ∃ X, Hid (u1.alloc (.cells #[.slice sA1 sm1 sc1, .slice tA1 tn1 tc1, .int .i64 sx1, .int .i64 sy1] 27) = X) := ⟨_, rfl⟩
    obtain ⟨gx, hg⟩ : ∃ g, Hid (u1.heap.size = g) := ⟨_, rfl⟩
    have BY : Hid (Below u1.heap.size u1 X1) := by show Below _ _ _; rw [← hX.out]; exact (Below.refl _ _).alloc (Nat.le_refl _) _
    have Hgx : Hid (X1.heap[gx]? = some (.cells #[.slice sA1 sm1 sc1, .slice tA1 tn1 tc1, .int .i64 sx1, .int .i64 sy1] 27 (0, 0))) := by show _ = _; rw [← hX.out, ← hg.out]; exact heap_alloc_new _ _
    have Tgx : Hid (T.heap.size ≤ gx ∧ g0 < gx) := by show _ ∧ _; rw [← hg.out]; exact ⟨BX.out.size, (bx_all H0.out).2.2⟩
    have BB := hide (BB.out.step BY.out)
    have BX := hide (BX.out.trans (BY.out.mono BX.out.size))
    have H0 := hide (bx_step H0.out BY.out)
    have O1 := hide (O1.out.step BY.out)
    go_upto_region 7 with fail
    have hX' := hX.out
    have hg' := hg.out
    rw [hX', hg']
    clear hX hg hX' hg' BY
    obtain ⟨hc, hg0, lc, lg⟩ := BB.out.cells
    go_wp2_with fail
    refine (radd_any n0 e0 p0 i0 j0 ⟨⟨nA, nn, nc⟩, ⟨eA, en, ec⟩, x, y⟩ G1 R1 i1 e1 X1 ((SW.out.below BB.out.bel (Nat.le_refl _)).more BB.out.bel.size) HS.out h1).mono ?_
    rintro e u2 ⟨⟨⟨sA2, sm2, sc2⟩, ⟨tA2, tn2, tc2⟩, sx2, sy2⟩, rfl, hm, hb⟩
    clear hc hg0 lc lg
    obtain ⟨L2, O2⟩ := hm.out
    have O2 := hide (O2.less BB.out.bel.size)
    have BB := hide (BB.out.step hb.out)
    have BX := hide (BX.out.trans (hb.out.mono BX.out.size))
    have H0 := hide (bx_step H0.out hb.out)
    have O1 := hide (O1.out.step hb.out)
    have Hgx := hide (bx_step Hgx.out hb.out)
    clear hm hb
    obtain ⟨X2, hX⟩ : ∃ X, Hid (u2.alloc (.cells #[.slice sA2 sm2 sc2, .slice tA2 tn2 tc2, .int .i64 sx2, .int .i64 sy2] 27) = X) := ⟨_, rfl⟩
    obtain ⟨gy, hg⟩ : ∃ g, Hid (u2.heap.size = g) := ⟨_, rfl⟩
    have BY : Hid (Below u2.heap.size u2 X2) := by show Below _ _ _; rw [← hX.out]; exact (Below.refl _ _).alloc (Nat.le_refl _) _
    have Hgy : Hid (X2.heap[gy]? = some (.cells #[.slice sA2 sm2 sc2, .slice tA2 tn2 tc2, .int .i64 sx2, .int .i64 sy2] 27 (0, 0))) := by show _ = _; rw [← hX.out, ← hg.out]; exact heap_alloc_new _ _
    have Tgy : Hid (T.heap.size ≤ gy ∧ g0 < gy) := by show _ ∧ _; rw [← hg.out]; exact ⟨BX.out.size, (bx_all H0.out).2.2⟩
    have NE : Hid (gx ≠ gy) := by show _ ≠ _; rw [← hg.out]; have := (bx_all Hgx.out).2.2; omega
    have BB := hide (BB.out.step BY.out)
    have BX := hide (BX.out.trans (BY.out.mono BX.out.size))
    have H0 := hide (bx_step H0.out BY.out)
    have O2 := hide (O2.out.step BY.out)
    have O1 := hide (O1.out.step BY.out)
    have Hgx := hide (bx_step Hgx.out BY.out)
    go_upto_region 8 with fail
    have hX' := hX.out
    have hg' := hg.out
    rw [hX', hg']
    clear hX hg hX' hg' BY
    obtain ⟨ox, -, lx⟩ := bx_all Hgx.out
    obtain ⟨oy, -, ly⟩ := bx_all Hgy.out
    have z1 : (i1 != i1) = false := by simp
    have z2 : (e1 != e1) = false := by simp
    obtain ⟨hc, hg0, lc, lg⟩ := BB.out.cells
    go_wp2_with fail
    refine (same_graph ⟨⟨sA1, sm1, sc1⟩, ⟨tA1, tn1, tc1⟩, sx1, sy1⟩ ⟨⟨sA2, sm2, sc2⟩, ⟨tA2, tn2, tc2⟩, sx2, sy2⟩ R1 R1 true _ O1.out.sees O2.out.sees (by have := F1.out.n; have h := O1.out.many; dsimp only at h ⊢; omega) (by have := F1.out.e; have h := edges_len O1.out.sees.edges; dsimp only at h ⊢; omega) (by have := F1.out.n; have h := O2.out.many; dsimp only at h ⊢; omega) (by have := F1.out.e; have h := edges_len O2.out.sees.edges; dsimp only at h ⊢; omega) F1.out.big F1.out.big ⟨fun _ => rfl, fun _ => rfl⟩).mono ?_
    rintro e u3 ⟨rfl, hb⟩
    clear ox lx oy ly O1 O2
    clear hc hg0 lc lg
    have BB := hide (BB.out.step hb)
    have BX := hide (BX.out.trans (hb.mono BX.out.size))
    have H0 := hide (bx_step H0.out hb)
    have Hgx := hide (bx_step Hgx.out hb)
    have Hgy := hide (bx_step Hgy.out hb)
    clear hb
    obtain ⟨hc, hg0, lc, lg⟩ := BB.out.cells
    go_wp2_with fail
    refine (link_any n0 e0 p0 i0 j0 ⟨⟨nA, nn, nc⟩, ⟨eA, en, ec⟩, x, y⟩ G1 R2 a2 a3 i2 e2 _ ((SW.out.below BB.out.bel (Nat.le_refl _)).more BB.out.bel.size) HS.out h2).mono ?_
    rintro e va2 ⟨⟨⟨sA3, sm3, sc3⟩, ⟨tA3, tn3, tc3⟩, sx3, sy3⟩, rfl, hm, hb⟩
    clear hc hg0 lc lg
    obtain ⟨L3, O3⟩ := hm.out
    have O3 := hide (O3.less BB.out.bel.size)
    have BB := hide (BB.out.step hb.out)
    have BX := hide (BX.out.trans (hb.out.mono BX.out.size))
    have H0 := hide (bx_step H0.out hb.out)
    have Hgx := hide (bx_step Hgx.out hb.out)
    have Hgy := hide (bx_step Hgy.out hb.out)
    clear hm hb
    have P0 := hide (bx_set4 H0.out (show g0 ≠ gx by have := Tgx.out; omega) (.slice sA3 sm3 sc3) (.slice tA3 tn3 tc3) (.int .i64 sx3) (.int .i64 sy3))
    have PO := hide (bx_set4 Hgy.out (show gy ≠ gx from fun e => NE.out e.symm) (.slice sA3 sm3 sc3) (.slice tA3 tn3 tc3) (.int .i64 sx3) (.int .i64 sy3))
    have PG := hide (put4 (x := .slice sA3 sm3 sc3) (y := .slice tA3 tn3 tc3) (z := .int .i64 sx3) (v := .int .i64 sy3) Hgx.out)
    have PB := hide (bx2_set4 BB.out (show w.heap.size + 1 < gx by have := Tgx.out; have := WT.out; omega) (.slice sA3 sm3 sc3) (.slice tA3 tn3 tc3) (.int .i64 sx3) (.int .i64 sy3))
    have PX := hide (set4_below BX.out Tgx.out.1 (.slice sA3 sm3 sc3) (.slice tA3 tn3 tc3) (.int .i64 sx3) (.int .i64 sy3))
    have Q3 := hide (O3.out.cell4 Hgx.out (by decide) (by decide) (by decide) (.slice sA3 sm3 sc3) (.slice tA3 tn3 tc3) (.int .i64 sx3) (.int .i64 sy3))
    obtain ⟨cg, fg, lgg⟩ := bx_all Hgx.out
    obtain ⟨hc, hg0, lc, lg⟩ := BB.out.cells
    go_upto_region 11 with fail
    clear cg fg lgg hc hg0 lc lg H0 Hgx Hgy BB BX O3
    generalize (((va2.setCell ⟨gx, 0, none⟩ (.slice sA3 sm3 sc3)).setCell ⟨gx, 1, none⟩ (.slice tA3 tn3 tc3)).setCell ⟨gx, 2, none⟩ (.int .i64 sx3)).setCell ⟨gx, 3, none⟩ (.int .i64 sy3) = Wa2 at P0 PO PG PB PX Q3 ⊢
    have H0 := P0
    have Hgy := PO
    have Hgx : Hid (Wa2.heap[gx]? = some (.cells #[.slice sA3 sm3 sc3, .slice tA3 tn3 tc3, .int .i64 sx3, .int .i64 sy3] 27 (0, 0))) := PG.out
    have BB := PB
    have BX := PX
    have O3 := Q3
    clear P0 PO PG PB PX Q3
    obtain ⟨hc, hg0, lc, lg⟩ := BB.out.cells
    go_wp2_with fail
    refine (rlink_any n0 e0 p0 i0 j0 ⟨⟨nA, nn, nc⟩, ⟨eA, en, ec⟩, x, y⟩ G1 R2 a2 a3 i2 e2 _ ((SW.out.below BB.out.bel (Nat.le_refl _)).more BB.out.bel.size) HS.out h2).mono ?_
    rintro e vb2 ⟨⟨⟨sA4, sm4, sc4⟩, ⟨tA4, tn4, tc4⟩, sx4, sy4⟩, rfl, hm, hb⟩
    clear hc hg0 lc lg
    obtain ⟨L4, O4⟩ := hm.out
    have O4 := hide (O4.less BB.out.bel.size)
    have BB := hide (BB.out.step hb.out)
    have BX := hide (BX.out.trans (hb.out.mono BX.out.size))
    have H0 := hide (bx_step H0.out hb.out)
    have Hgx := hide (bx_step Hgx.out hb.out)
    have Hgy := hide (bx_step Hgy.out hb.out)
    have O3 := hide (O3.out.step hb.out)
    clear hm hb
    have P0 := hide (bx_set4 H0.out (show g0 ≠ gy by have := Tgy.out; omega) (.slice sA4 sm4 sc4) (.slice tA4 tn4 tc4) (.int .i64 sx4) (.int .i64 sy4))
    have PO := hide (bx_set4 Hgx.out (show gx ≠ gy from NE.out) (.slice sA4 sm4 sc4) (.slice tA4 tn4 tc4) (.int .i64 sx4) (.int .i64 sy4))
    have PG := hide (put4 (x := .slice sA4 sm4 sc4) (y := .slice tA4 tn4 tc4) (z := .int .i64 sx4) (v := .int .i64 sy4) Hgy.out)
    have PB := hide (bx2_set4 BB.out (show w.heap.size + 1 < gy by have := Tgy.out; have := WT.out; omega) (.slice sA4 sm4 sc4) (.slice tA4 tn4 tc4) (.int .i64 sx4) (.int .i64 sy4))
    have PX := hide (set4_below BX.out Tgy.out.1 (.slice sA4 sm4 sc4) (.slice tA4 tn4 tc4) (.int .i64 sx4) (.int .i64 sy4))
    have Q4 := hide (O4.out.cell4 Hgy.out (by decide) (by decide) (by decide) (.slice sA4 sm4 sc4) (.slice tA4 tn4 tc4) (.int .i64 sx4) (.int .i64 sy4))
    have Q3 := hide (O3.out.cell4 Hgy.out (by decide) (by decide) (by decide) (.slice sA4 sm4 sc4) (.slice tA4 tn4 tc4) (.int .i64 sx4) (.int .i64 sy4))
    obtain ⟨cg, fg, lgg⟩ := bx_all Hgy.out
    obtain ⟨hc, hg0, lc, lg⟩ := BB.out.cells
    go_upto_region 12 with fail
    clear cg fg lgg hc hg0 lc lg H0 Hgx Hgy BB BX O4 O3
    generalize (((vb2.setCell ⟨gy, 0, none⟩ (.slice sA4 sm4 sc4)).setCell ⟨gy, 1, none⟩ (.slice tA4 tn4 tc4)).setCell ⟨gy, 2, none⟩ (.int .i64 sx4)).setCell ⟨gy, 3, none⟩ (.int .i64 sy4) = Wb2 at P0 PO PG PB PX Q4 Q3 ⊢
    have H0 := P0
    have Hgx := PO
    have Hgy : Hid (Wb2.heap[gy]? = some (.cells #[.slice sA4 sm4 sc4, .slice tA4 tn4 tc4, .int .i64 sx4, .int .i64 sy4] 27 (0, 0))) := PG.out
    have BB := PB
    have BX := PX
    have O4 := Q4
    clear P0 PO PG PB PX Q4
    have O3 := Q3
    clear Q3
    obtain ⟨ox, -, lx⟩ := bx_all Hgx.out
    obtain ⟨oy, -, ly⟩ := bx_all Hgy.out
    have z1 : (i2 != i2) = false := by simp
    have z2 : (e2 != e2) = false := by simp
    obtain ⟨hc, hg0, lc, lg⟩ := BB.out.cells
    go_wp2_with fail
    refine (same_graph ⟨⟨sA3, sm3, sc3⟩, ⟨tA3, tn3, tc3⟩, sx3, sy3⟩ ⟨⟨sA4, sm4, sc4⟩, ⟨tA4, tn4, tc4⟩, sx4, sy4⟩ R2 R2 true _ O3.out.sees O4.out.sees (by have := F2.out.n; have h := O3.out.many; dsimp only at h ⊢; omega) (by have := F2.out.e; have h := edges_len O3.out.sees.edges; dsimp only at h ⊢; omega) (by have := F2.out.n; have h := O4.out.many; dsimp only at h ⊢; omega) (by have := F2.out.e; have h := edges_len O4.out.sees.edges; dsimp only at h ⊢; omega) F2.out.big F2.out.big ⟨fun _ => rfl, fun _ => rfl⟩).mono ?_
    rintro e vc2 ⟨rfl, hb⟩
    clear ox lx oy ly O3 O4
    clear hc hg0 lc lg
    have BB := hide (BB.out.step hb)
    have BX := hide (BX.out.trans (hb.mono BX.out.size))
    have H0 := hide (bx_step H0.out hb)
    have Hgx := hide (bx_step Hgx.out hb)
    have Hgy := hide (bx_step Hgy.out hb)
    clear hb
    obtain ⟨hc, hg0, lc, lg⟩ := BB.out.cells
    go_wp2_with fail
    refine (cut_any ⟨⟨nA, nn, nc⟩, ⟨eA, en, ec⟩, x, y⟩ G1 R3 a2 e3 _ ((SW.out.below BB.out.bel (Nat.le_refl _)).more BB.out.bel.size) HS.out h3).mono ?_
    rintro e va3 ⟨⟨⟨sA5, sm5, sc5⟩, ⟨tA5, tn5, tc5⟩, sx5, sy5⟩, rfl, hm, hb⟩
    clear hc hg0 lc lg
    obtain ⟨L5, O5⟩ := hm.out
    have O5 := hide (O5.less BB.out.bel.size)
    have BB := hide (BB.out.step hb.out)
    have BX := hide (BX.out.trans (hb.out.mono BX.out.size))
    have H0 := hide (bx_step H0.out hb.out)
    have Hgx := hide (bx_step Hgx.out hb.out)
    have Hgy := hide (bx_step Hgy.out hb.out)
    clear hm hb
    have P0 := hide (bx_set4 H0.out (show g0 ≠ gx by have := Tgx.out; omega) (.slice sA5 sm5 sc5) (.slice tA5 tn5 tc5) (.int .i64 sx5) (.int .i64 sy5))
    have PO := hide (bx_set4 Hgy.out (show gy ≠ gx from fun e => NE.out e.symm) (.slice sA5 sm5 sc5) (.slice tA5 tn5 tc5) (.int .i64 sx5) (.int .i64 sy5))
    have PG := hide (put4 (x := .slice sA5 sm5 sc5) (y := .slice tA5 tn5 tc5) (z := .int .i64 sx5) (v := .int .i64 sy5) Hgx.out)
    have PB := hide (bx2_set4 BB.out (show w.heap.size + 1 < gx by have := Tgx.out; have := WT.out; omega) (.slice sA5 sm5 sc5) (.slice tA5 tn5 tc5) (.int .i64 sx5) (.int .i64 sy5))
    have PX := hide (set4_below BX.out Tgx.out.1 (.slice sA5 sm5 sc5) (.slice tA5 tn5 tc5) (.int .i64 sx5) (.int .i64 sy5))
    have Q5 := hide (O5.out.cell4 Hgx.out (by decide) (by decide) (by decide) (.slice sA5 sm5 sc5) (.slice tA5 tn5 tc5) (.int .i64 sx5) (.int .i64 sy5))
    obtain ⟨cg, fg, lgg⟩ := bx_all Hgx.out
    obtain ⟨hc, hg0, lc, lg⟩ := BB.out.cells
    go_upto_region 15 with fail
    clear cg fg lgg hc hg0 lc lg H0 Hgx Hgy BB BX O5
    generalize (((va3.setCell ⟨gx, 0, none⟩ (.slice sA5 sm5 sc5)).setCell ⟨gx, 1, none⟩ (.slice tA5 tn5 tc5)).setCell ⟨gx, 2, none⟩ (.int .i64 sx5)).setCell ⟨gx, 3, none⟩ (.int .i64 sy5) = Wa3 at P0 PO PG PB PX Q5 ⊢
    have H0 := P0
    have Hgy := PO
    have Hgx : Hid (Wa3.heap[gx]? = some (.cells #[.slice sA5 sm5 sc5, .slice tA5 tn5 tc5, .int .i64 sx5, .int .i64 sy5] 27 (0, 0))) := PG.out
    have BB := PB
    have BX := PX
    have O5 := Q5
    clear P0 PO PG PB PX Q5
    obtain ⟨hc, hg0, lc, lg⟩ := BB.out.cells
    go_wp2_with fail
    refine (rcut_any ⟨⟨nA, nn, nc⟩, ⟨eA, en, ec⟩, x, y⟩ G1 R3 a2 e3 _ ((SW.out.below BB.out.bel (Nat.le_refl _)).more BB.out.bel.size) HS.out h3).mono ?_
    rintro e vb3 ⟨⟨⟨sA6, sm6, sc6⟩, ⟨tA6, tn6, tc6⟩, sx6, sy6⟩, rfl, hm, hb⟩
    clear hc hg0 lc lg
    obtain ⟨L6, O6⟩ := hm.out
    have O6 := hide (O6.less BB.out.bel.size)
    have BB := hide (BB.out.step hb.out)
    have BX := hide (BX.out.trans (hb.out.mono BX.out.size))
    have H0 := hide (bx_step H0.out hb.out)
    have Hgx := hide (bx_step Hgx.out hb.out)
    have Hgy := hide (bx_step Hgy.out hb.out)
    have O5 := hide (O5.out.step hb.out)
    clear hm hb
    have P0 := hide (bx_set4 H0.out (show g0 ≠ gy by have := Tgy.out; omega) (.slice sA6 sm6 sc6) (.slice tA6 tn6 tc6) (.int .i64 sx6) (.int .i64 sy6))
    have PO := hide (bx_set4 Hgx.out (show gx ≠ gy from NE.out) (.slice sA6 sm6 sc6) (.slice tA6 tn6 tc6) (.int .i64 sx6) (.int .i64 sy6))
    have PG := hide (put4 (x := .slice sA6 sm6 sc6) (y := .slice tA6 tn6 tc6) (z := .int .i64 sx6) (v := .int .i64 sy6) Hgy.out)
    have PB := hide (bx2_set4 BB.out (show w.heap.size + 1 < gy by have := Tgy.out; have := WT.out; omega) (.slice sA6 sm6 sc6) (.slice tA6 tn6 tc6) (.int .i64 sx6) (.int .i64 sy6))
    have PX := hide (set4_below BX.out Tgy.out.1 (.slice sA6 sm6 sc6) (.slice tA6 tn6 tc6) (.int .i64 sx6) (.int .i64 sy6))
    have Q6 := hide (O6.out.cell4 Hgy.out (by decide) (by decide) (by decide) (.slice sA6 sm6 sc6) (.slice tA6 tn6 tc6) (.int .i64 sx6) (.int .i64 sy6))
    have Q5 := hide (O5.out.cell4 Hgy.out (by decide) (by decide) (by decide) (.slice sA6 sm6 sc6) (.slice tA6 tn6 tc6) (.int .i64 sx6) (.int .i64 sy6))
    obtain ⟨cg, fg, lgg⟩ := bx_all Hgy.out
    obtain ⟨hc, hg0, lc, lg⟩ := BB.out.cells
    go_upto_region 16 with fail
    clear cg fg lgg hc hg0 lc lg H0 Hgx Hgy BB BX O6 O5
    generalize (((vb3.setCell ⟨gy, 0, none⟩ (.slice sA6 sm6 sc6)).setCell ⟨gy, 1, none⟩ (.slice tA6 tn6 tc6)).setCell ⟨gy, 2, none⟩ (.int .i64 sx6)).setCell ⟨gy, 3, none⟩ (.int .i64 sy6) = Wb3 at P0 PO PG PB PX Q6 Q5 ⊢
    have H0 := P0
    have Hgx := PO
    have Hgy : Hid (Wb3.heap[gy]? = some (.cells #[.slice sA6 sm6 sc6, .slice tA6 tn6 tc6, .int .i64 sx6, .int .i64 sy6] 27 (0, 0))) := PG.out
    have BB := PB
    have BX := PX
    have O6 := Q6
    clear P0 PO PG PB PX Q6
    have O5 := Q5
    clear Q5
    obtain ⟨ox, -, lx⟩ := bx_all Hgx.out
    obtain ⟨oy, -, ly⟩ := bx_all Hgy.out
    have z2 : (e3 != e3) = false := by simp
    obtain ⟨hc, hg0, lc, lg⟩ := BB.out.cells
    go_wp2_with fail
    refine (same_graph ⟨⟨sA5, sm5, sc5⟩, ⟨tA5, tn5, tc5⟩, sx5, sy5⟩ ⟨⟨sA6, sm6, sc6⟩, ⟨tA6, tn6, tc6⟩, sx6, sy6⟩ R3 R3 true _ O5.out.sees O6.out.sees (by have := F3.out.n; have h := O5.out.many; dsimp only at h ⊢; omega) (by have := F3.out.e; have h := edges_len O5.out.sees.edges; dsimp only at h ⊢; omega) (by have := F3.out.n; have h := O6.out.many; dsimp only at h ⊢; omega) (by have := F3.out.e; have h := edges_len O6.out.sees.edges; dsimp only at h ⊢; omega) F3.out.big F3.out.big ⟨fun _ => rfl, fun _ => rfl⟩).mono ?_
    rintro e vc3 ⟨rfl, hb⟩
    clear ox lx oy ly O5 O6
    clear hc hg0 lc lg
    have BB := hide (BB.out.step hb)
    have BX := hide (BX.out.trans (hb.mono BX.out.size))
    have H0 := hide (bx_step H0.out hb)
    have Hgx := hide (bx_step Hgx.out hb)
    have Hgy := hide (bx_step Hgy.out hb)
    clear hb
    obtain ⟨hc, hg0, lc, lg⟩ := BB.out.cells
    go_wp2_with fail
    refine (drop_any ⟨⟨nA, nn, nc⟩, ⟨eA, en, ec⟩, x, y⟩ G1 R4 a2 e4 _ ((SW.out.below BB.out.bel (Nat.le_refl _)).more BB.out.bel.size) HS.out h4).mono ?_
    rintro e va4 ⟨⟨⟨sA7, sm7, sc7⟩, ⟨tA7, tn7, tc7⟩, sx7, sy7⟩, rfl, hm, hb⟩
    clear hc hg0 lc lg
    obtain ⟨L7, O7⟩ := hm.out
    have O7 := hide (O7.less BB.out.bel.size)
    have BB := hide (BB.out.step hb.out)
    have BX := hide (BX.out.trans (hb.out.mono BX.out.size))
    have H0 := hide (bx_step H0.out hb.out)
    have Hgx := hide (bx_step Hgx.out hb.out)
    have Hgy := hide (bx_step Hgy.out hb.out)
    clear hm hb
    have P0 := hide (bx_set4 H0.out (show g0 ≠ gx by have := Tgx.out; omega) (.slice sA7 sm7 sc7) (.slice tA7 tn7 tc7) (.int .i64 sx7) (.int .i64 sy7))
    have PO := hide (bx_set4 Hgy.out (show gy ≠ gx from fun e => NE.out e.symm) (.slice sA7 sm7 sc7) (.slice tA7 tn7 tc7) (.int .i64 sx7) (.int .i64 sy7))
    have PG := hide (put4 (x := .slice sA7 sm7 sc7) (y := .slice tA7 tn7 tc7) (z := .int .i64 sx7) (v := .int .i64 sy7) Hgx.out)
    have PB := hide (bx2_set4 BB.out (show w.heap.size + 1 < gx by have := Tgx.out; have := WT.out; omega) (.slice sA7 sm7 sc7) (.slice tA7 tn7 tc7) (.int .i64 sx7) (.int .i64 sy7))
    have PX := hide (set4_below BX.out Tgx.out.1 (.slice sA7 sm7 sc7) (.slice tA7 tn7 tc7) (.int .i64 sx7) (.int .i64 sy7))
    have Q7 := hide (O7.out.cell4 Hgx.out (by decide) (by decide) (by decide) (.slice sA7 sm7 sc7) (.slice tA7 tn7 tc7) (.int .i64 sx7) (.int .i64 sy7))
    obtain ⟨cg, fg, lgg⟩ := bx_all Hgx.out
    obtain ⟨hc, hg0, lc, lg⟩ := BB.out.cells
    go_upto_region 19 with fail
    clear cg fg lgg hc hg0 lc lg H0 Hgx Hgy BB BX O7
    generalize (((va4.setCell ⟨gx, 0, none⟩ (.slice sA7 sm7 sc7)).setCell ⟨gx, 1, none⟩ (.slice tA7 tn7 tc7)).setCell ⟨gx, 2, none⟩ (.int .i64 sx7)).setCell ⟨gx, 3, none⟩ (.int .i64 sy7) = Wa4 at P0 PO PG PB PX Q7 ⊢
    have H0 := P0
    have Hgy := PO
    have Hgx : Hid (Wa4.heap[gx]? = some (.cells #[.slice sA7 sm7 sc7, .slice tA7 tn7 tc7, .int .i64 sx7, .int .i64 sy7] 27 (0, 0))) := PG.out
    have BB := PB
    have BX := PX
    have O7 := Q7
    clear P0 PO PG PB PX Q7
    obtain ⟨hc, hg0, lc, lg⟩ := BB.out.cells
    go_wp2_with fail
    refine (rdrop_any ⟨⟨nA, nn, nc⟩, ⟨eA, en, ec⟩, x, y⟩ G1 R4 a2 e4 _ ((SW.out.below BB.out.bel (Nat.le_refl _)).more BB.out.bel.size) HS.out h4).mono ?_
    rintro e vb4 ⟨⟨⟨sA8, sm8, sc8⟩, ⟨tA8, tn8, tc8⟩, sx8, sy8⟩, rfl, hm, hb⟩
    clear hc hg0 lc lg
    obtain ⟨L8, O8⟩ := hm.out
    have O8 := hide (O8.less BB.out.bel.size)
    have BB := hide (BB.out.step hb.out)
    have BX := hide (BX.out.trans (hb.out.mono BX.out.size))
    have H0 := hide (bx_step H0.out hb.out)
    have Hgx := hide (bx_step Hgx.out hb.out)
    have Hgy := hide (bx_step Hgy.out hb.out)
    have O7 := hide (O7.out.step hb.out)
    clear hm hb
    have P0 := hide (bx_set4 H0.out (show g0 ≠ gy by have := Tgy.out; omega) (.slice sA8 sm8 sc8) (.slice tA8 tn8 tc8) (.int .i64 sx8) (.int .i64 sy8))
    have PO := hide (bx_set4 Hgx.out (show gx ≠ gy from NE.out) (.slice sA8 sm8 sc8) (.slice tA8 tn8 tc8) (.int .i64 sx8) (.int .i64 sy8))
    have PG := hide (put4 (x := .slice sA8 sm8 sc8) (y := .slice tA8 tn8 tc8) (z := .int .i64 sx8) (v := .int .i64 sy8) Hgy.out)
    have PB := hide (bx2_set4 BB.out (show w.heap.size + 1 < gy by have := Tgy.out; have := WT.out; omega) (.slice sA8 sm8 sc8) (.slice tA8 tn8 tc8) (.int .i64 sx8) (.int .i64 sy8))
    have PX := hide (set4_below BX.out Tgy.out.1 (.slice sA8 sm8 sc8) (.slice tA8 tn8 tc8) (.int .i64 sx8) (.int .i64 sy8))
    have Q8 := hide (O8.out.cell4 Hgy.out (by decide) (by decide) (by decide) (.slice sA8 sm8 sc8) (.slice tA8 tn8 tc8) (.int .i64 sx8) (.int .i64 sy8))
    have Q7 := hide (O7.out.cell4 Hgy.out (by decide) (by decide) (by decide) (.slice sA8 sm8 sc8) (.slice tA8 tn8 tc8) (.int .i64 sx8) (.int .i64 sy8))
    obtain ⟨cg, fg, lgg⟩ := bx_all Hgy.out
    obtain ⟨hc, hg0, lc, lg⟩ := BB.out.cells
    go_upto_region 20 with fail
    clear cg fg lgg hc hg0 lc lg H0 Hgx Hgy BB BX O8 O7
    generalize (((vb4.setCell ⟨gy, 0, none⟩ (.slice sA8 sm8 sc8)).setCell ⟨gy, 1, none⟩ (.slice tA8 tn8 tc8)).setCell ⟨gy, 2, none⟩ (.int .i64 sx8)).setCell ⟨gy, 3, none⟩ (.int .i64 sy8) = Wb4 at P0 PO PG PB PX Q8 Q7 ⊢
    have H0 := P0
    have Hgx := PO
    have Hgy : Hid (Wb4.heap[gy]? = some (.cells #[.slice sA8 sm8 sc8, .slice tA8 tn8 tc8, .int .i64 sx8, .int .i64 sy8] 27 (0, 0))) := PG.out
    have BB := PB
    have BX := PX
    have O8 := Q8
    clear P0 PO PG PB PX Q8
    have O7 := Q7
    clear Q7
    obtain ⟨ox, -, lx⟩ := bx_all Hgx.out
    obtain ⟨oy, -, ly⟩ := bx_all Hgy.out
    have z2 : (e4 != e4) = false := by simp
    obtain ⟨hc, hg0, lc, lg⟩ := BB.out.cells
    go_wp2_with fail
    refine (same_graph ⟨⟨sA7, sm7, sc7⟩, ⟨tA7, tn7, tc7⟩, sx7, sy7⟩ ⟨⟨sA8, sm8, sc8⟩, ⟨tA8, tn8, tc8⟩, sx8, sy8⟩ R4 R4 true _ O7.out.sees O8.out.sees (by have := F4.out.n; have h := O7.out.many; dsimp only at h ⊢; omega) (by have := F4.out.e; have h := edges_len O7.out.sees.edges; dsimp only at h ⊢; omega) (by have := F4.out.n; have h := O8.out.many; dsimp only at h ⊢; omega) (by have := F4.out.e; have h := edges_len O8.out.sees.edges; dsimp only at h ⊢; omega) F4.out.big F4.out.big ⟨fun _ => rfl, fun _ => rfl⟩).mono ?_
    rintro e vc4 ⟨rfl, hb⟩
    clear ox lx oy ly O7 O8
    clear hc hg0 lc lg
    have BB := hide (BB.out.step hb)
    have BX := hide (BX.out.trans (hb.mono BX.out.size))
    have H0 := hide (bx_step H0.out hb)
    have Hgx := hide (bx_step Hgx.out hb)
    have Hgy := hide (bx_step Hgy.out hb)
    clear hb
    obtain ⟨hc, hg0, lc, lg⟩ := BB.out.cells
    go_wp2_with fail
    refine (fuse_any ⟨⟨nA, nn, nc⟩, ⟨eA, en, ec⟩, x, y⟩ G1 R5 a2 a3 e5 M _ ((SW.out.below BB.out.bel (Nat.le_refl _)).more BB.out.bel.size) HS.out (hide (fun l h1 h2 => HMU.out l h1 (h2.imp (fun h => by omega)))) h5).mono ?_
    rintro e va5 ⟨⟨⟨sA9, sm9, sc9⟩, ⟨tA9, tn9, tc9⟩, sx9, sy9⟩, rfl, hm, hb⟩
    clear hc hg0 lc lg
    obtain ⟨L9, O9⟩ := hm.out
    have O9 := hide (O9.less BB.out.bel.size)
    have BB := hide (BB.out.step hb.out)
    have BX := hide (BX.out.trans (hb.out.mono BX.out.size))
    have H0 := hide (bx_step H0.out hb.out)
    have Hgx := hide (bx_step Hgx.out hb.out)
    have Hgy := hide (bx_step Hgy.out hb.out)
    clear hm hb
    have P0 := hide (bx_set4 H0.out (show g0 ≠ gx by have := Tgx.out; omega) (.slice sA9 sm9 sc9) (.slice tA9 tn9 tc9) (.int .i64 sx9) (.int .i64 sy9))
    have PO := hide (bx_set4 Hgy.out (show gy ≠ gx from fun e => NE.out e.symm) (.slice sA9 sm9 sc9) (.slice tA9 tn9 tc9) (.int .i64 sx9) (.int .i64 sy9))
    have PG := hide (put4 (x := .slice sA9 sm9 sc9) (y := .slice tA9 tn9 tc9) (z := .int .i64 sx9) (v := .int .i64 sy9) Hgx.out)
    have PB := hide (bx2_set4 BB.out (show w.heap.size + 1 < gx by have := Tgx.out; have := WT.out; omega) (.slice sA9 sm9 sc9) (.slice tA9 tn9 tc9) (.int .i64 sx9) (.int .i64 sy9))
    have PX := hide (set4_below BX.out Tgx.out.1 (.slice sA9 sm9 sc9) (.slice tA9 tn9 tc9) (.int .i64 sx9) (.int .i64 sy9))
    have Q9 := hide (O9.out.cell4 Hgx.out (by decide) (by decide) (by decide) (.slice sA9 sm9 sc9) (.slice tA9 tn9 tc9) (.int .i64 sx9) (.int .i64 sy9))
    obtain ⟨cg, fg, lgg⟩ := bx_all Hgx.out
    obtain ⟨hc, hg0, lc, lg⟩ := BB.out.cells
    go_upto_region 23 with fail
    clear cg fg lgg hc hg0 lc lg H0 Hgx Hgy BB BX O9
    generalize (((va5.setCell ⟨gx, 0, none⟩ (.slice sA9 sm9 sc9)).setCell ⟨gx, 1, none⟩ (.slice tA9 tn9 tc9)).setCell ⟨gx, 2, none⟩ (.int .i64 sx9)).setCell ⟨gx, 3, none⟩ (.int .i64 sy9) = Wa5 at P0 PO PG PB PX Q9 ⊢
    have H0 := P0
    have Hgy := PO
    have Hgx : Hid (Wa5.heap[gx]? = some (.cells #[.slice sA9 sm9 sc9, .slice tA9 tn9 tc9, .int .i64 sx9, .int .i64 sy9] 27 (0, 0))) := PG.out
    have BB := PB
    have BX := PX
    have O9 := Q9
    clear P0 PO PG PB PX Q9
    obtain ⟨hc, hg0, lc, lg⟩ := BB.out.cells
    go_wp2_with fail
    refine (rfuse_any ⟨⟨nA, nn, nc⟩, ⟨eA, en, ec⟩, x, y⟩ G1 R5 a2 a3 e5 M _ ((SW.out.below BB.out.bel (Nat.le_refl _)).more BB.out.bel.size) HS.out HSUM.out HR2.out HR3.out (hide (fun l h1 h2 => HMU.out l h1 (h2.imp (fun h => by omega)))) h5).mono ?_
    rintro e vb5 ⟨⟨⟨sA10, sm10, sc10⟩, ⟨tA10, tn10, tc10⟩, sx10, sy10⟩, rfl, hm, hb⟩
    clear hc hg0 lc lg
    obtain ⟨L10, O10⟩ := hm.out
    have O10 := hide (O10.less BB.out.bel.size)
    have BB := hide (BB.out.step hb.out)
    have BX := hide (BX.out.trans (hb.out.mono BX.out.size))
    have H0 := hide (bx_step H0.out hb.out)
    have Hgx := hide (bx_step Hgx.out hb.out)
    have Hgy := hide (bx_step Hgy.out hb.out)
    have O9 := hide (O9.out.step hb.out)
    clear hm hb
    have P0 := hide (bx_set4 H0.out (show g0 ≠ gy by have := Tgy.out; omega) (.slice sA10 sm10 sc10) (.slice tA10 tn10 tc10) (.int .i64 sx10) (.int .i64 sy10))
    have PO := hide (bx_set4 Hgx.out (show gx ≠ gy from NE.out) (.slice sA10 sm10 sc10) (.slice tA10 tn10 tc10) (.int .i64 sx10) (.int .i64 sy10))
    have PG := hide (put4 (x := .slice sA10 sm10 sc10) (y := .slice tA10 tn10 tc10) (z := .int .i64 sx10) (v := .int .i64 sy10) Hgy.out)
    have PB := hide (bx2_set4 BB.out (show w.heap.size + 1 < gy by have := Tgy.out; have := WT.out; omega) (.slice sA10 sm10 sc10) (.slice tA10 tn10 tc10) (.int .i64 sx10) (.int .i64 sy10))
    have PX := hide (set4_below BX.out Tgy.out.1 (.slice sA10 sm10 sc10) (.slice tA10 tn10 tc10) (.int .i64 sx10) (.int .i64 sy10))
    have Q10 := hide (O10.out.cell4 Hgy.out (by decide) (by decide) (by decide) (.slice sA10 sm10 sc10) (.slice tA10 tn10 tc10) (.int .i64 sx10) (.int .i64 sy10))
    have Q9 := hide (O9.out.cell4 Hgy.out (by decide) (by decide) (by decide) (.slice sA10 sm10 sc10) (.slice tA10 tn10 tc10) (.int .i64 sx10) (.int .i64 sy10))
    obtain ⟨cg, fg, lgg⟩ := bx_all Hgy.out
    obtain ⟨hc, hg0, lc, lg⟩ := BB.out.cells
    go_upto_region 24 with fail
    clear cg fg lgg hc hg0 lc lg H0 Hgx Hgy BB BX O10 O9
    generalize (((vb5.setCell ⟨gy, 0, none⟩ (.slice sA10 sm10 sc10)).setCell ⟨gy, 1, none⟩ (.slice tA10 tn10 tc10)).setCell ⟨gy, 2, none⟩ (.int .i64 sx10)).setCell ⟨gy, 3, none⟩ (.int .i64 sy10) = Wb5 at P0 PO PG PB PX Q10 Q9 ⊢
    have H0 := P0
    have Hgx := PO
    have Hgy : Hid (Wb5.heap[gy]? = some (.cells #[.slice sA10 sm10 sc10, .slice tA10 tn10 tc10, .int .i64 sx10, .int .i64 sy10] 27 (0, 0))) := PG.out
    have BB := PB
    have BX := PX
    have O10 := Q10
    clear P0 PO PG PB PX Q10
    have O9 := Q9
    clear Q9
    obtain ⟨ox, -, lx⟩ := bx_all Hgx.out
    obtain ⟨oy, -, ly⟩ := bx_all Hgy.out
    have z2 : (e5 != e5) = false := by simp
    obtain ⟨hc, hg0, lc, lg⟩ := BB.out.cells
    go_wp2_with fail
    refine (same_graph ⟨⟨sA9, sm9, sc9⟩, ⟨tA9, tn9, tc9⟩, sx9, sy9⟩ ⟨⟨sA10, sm10, sc10⟩, ⟨tA10, tn10, tc10⟩, sx10, sy10⟩ R5 R5 true _ O9.out.sees O10.out.sees (by have := F5.out.n; have h := O9.out.many; dsimp only at h ⊢; omega) (by have := F5.out.e; have h := edges_len O9.out.sees.edges; dsimp only at h ⊢; omega) (by have := F5.out.n; have h := O10.out.many; dsimp only at h ⊢; omega) (by have := F5.out.e; have h := edges_len O10.out.sees.edges; dsimp only at h ⊢; omega) F5.out.big F5.out.big ⟨fun _ => rfl, fun _ => rfl⟩).mono ?_
    rintro e vc5 ⟨rfl, hb⟩
    clear ox lx oy ly O9 O10
    clear hc hg0 lc lg
    have BB := hide (BB.out.step hb)
    have BX := hide (BX.out.trans (hb.mono BX.out.size))
    have H0 := hide (bx_step H0.out hb)
    have Hgx := hide (bx_step Hgx.out hb)
    have Hgy := hide (bx_step Hgy.out hb)
    clear hb
    clear Hgx Hgy
    obtain ⟨hc, hg0, lc, lg⟩ := BB.out.cells
    go_wp2_with fail
    refine (near_any ⟨⟨nA, nn, nc⟩, ⟨eA, en, ec⟩, x, y⟩ G1 o6 i6 a2 e6 _ ((SW.out.below BB.out.bel (Nat.le_refl _)).more BB.out.bel.size) HS.out h6).mono ?_
    rintro e y1 ⟨⟨naA, nan, nac⟩, ⟨nbA, nbn, nbc⟩, rfl, hr1, hr2, hb⟩
    clear hc hg0 lc lg
    have Pna : Hid (Props y1 y1.heap.size ⟨naA, nan, nac⟩ o6) := ⟨own_nums hr1.out, own_nil_cap hr1.out⟩
    have Pnb : Hid (Props y1 y1.heap.size ⟨nbA, nbn, nbc⟩ i6) := ⟨own_nums hr2.out, own_nil_cap hr2.out⟩
    have lna : nan ≤ 1000 := by have := Pna.out.len; have := F6.out.1; dsimp only at *; omega
    have lnb : nbn ≤ 1000 := by have := Pnb.out.len; have := F6.out.2; dsimp only at *; omega
    have BB := hide (BB.out.step hb.out)
    have BX := hide (BX.out.trans (hb.out.mono BX.out.size))
    have H0 := hide (bx_step H0.out hb.out)
    clear hr1 hr2 hb
    obtain ⟨hc, hg0, lc, lg⟩ := BB.out.cells
    go_wp2_with fail
    refine (rnear_any ⟨⟨nA, nn, nc⟩, ⟨eA, en, ec⟩, x, y⟩ G1 o6 i6 a2 e6 _ ((SW.out.below BB.out.bel (Nat.le_refl _)).more BB.out.bel.size) HS.out h6).mono ?_
    rintro e y2 ⟨⟨maA, man, mac⟩, ⟨mbA, mbn, mbc⟩, rfl, hr1, hr2, hb⟩
    clear hc hg0 lc lg
    have Pma : Hid (Props y2 y2.heap.size ⟨maA, man, mac⟩ o6) := ⟨own_nums hr1.out, own_nil_cap hr1.out⟩
    have Pmb : Hid (Props y2 y2.heap.size ⟨mbA, mbn, mbc⟩ i6) := ⟨own_nums hr2.out, own_nil_cap hr2.out⟩
    have lma : man ≤ 1000 := by have := Pma.out.len; have := F6.out.1; dsimp only at *; omega
    have lmb : mbn ≤ 1000 := by have := Pmb.out.len; have := F6.out.2; dsimp only at *; omega
    have BB := hide (BB.out.step hb.out)
    have BX := hide (BX.out.trans (hb.out.mono BX.out.size))
    have H0 := hide (bx_step H0.out hb.out)
    have Pna := hide ((Pna.out.below hb.out (Nat.le_refl _)).more hb.out.size)
    have Pnb := hide ((Pnb.out.below hb.out (Nat.le_refl _)).more hb.out.size)
    clear hr1 hr2 hb
    have z6 : (e6 == e6) = true := by simp
    go_wp2_with fail
    refine (sameEnds_eq ⟨naA, nan, nac⟩ ⟨maA, man, mac⟩ _ _ _ _ _ Pna.out Pma.out (by dsimp only; omega) (by dsimp only; omega) rfl).mono ?_
    rintro e y3 ⟨rfl, hb⟩
    have BB := hide (BB.out.step hb)
    have BX := hide (BX.out.trans (hb.mono BX.out.size))
    have H0 := hide (bx_step H0.out hb)
    have Pnb := hide ((Pnb.out.below hb (Nat.le_refl _)).more hb.size)
    have Pmb := hide ((Pmb.out.below hb (Nat.le_refl _)).more hb.size)
    clear hb
    go_wp2_with fail
    refine (sameEnds_eq ⟨nbA, nbn, nbc⟩ ⟨mbA, mbn, mbc⟩ _ _ _ _ _ Pnb.out Pmb.out (by dsimp only; omega) (by dsimp only; omega) rfl).mono ?_
    rintro e y4 ⟨rfl, hb⟩
    have BB := hide (BB.out.step hb)
    have BX := hide (BX.out.trans (hb.mono BX.out.size))
    have H0 := hide (bx_step H0.out hb)
    clear hb
    obtain ⟨hc, hg0, lc, lg⟩ := BB.out.cells
    obtain ⟨c0, -, l0⟩ := bx_all H0.out
    have SGf := hide ((SW.out.below BB.out.bel (Nat.le_refl _)).more BB.out.bel.size)
    have S0f := hide ((S0.out.below BX.out (Nat.le_refl _)).more BX.out.size)
    go_wp2_with fail
    refine (same_graph ⟨⟨nA, nn, nc⟩, ⟨eA, en, ec⟩, x, y⟩ ⟨⟨sA0, sm0, sc0⟩, ⟨tA0, tn0, tc0⟩, sx0, sy0⟩ G1 G1 true _ SGf.out S0f.out (by dsimp only; omega) (by dsimp only; omega) (by have := LN0.out; have := LN.out; dsimp only; omega) (by have := LE0.out; have := LE.out; dsimp only; omega) FM.out.1.big FM.out.1.big ⟨fun _ => rfl, fun _ => rfl⟩).mono ?_
    rintro e y5 ⟨rfl, hb⟩
    have BF := hide (BB.out.step hb)
    clear hb
    go_wp2
    go_ret
    exact ⟨rfl, BF.out.bel⟩

set_option maxRecDepth 100000 in
theorem lifted (os : Os) (started : os.Started) (H : Type) (enc : TypeId × Value → H) :
    ReturnsInHanded {} Try.checked os 4 .any (Rows.graphDoesSpec.pre6 enc Try.prog Try.f4 Rows.graphDoesRow.domain false) (Rows.graphDoesSpec.post enc Try.prog Try.f4 false true false false) := by
  refine returnsInHanded_of_change (C := Try.checked) own started (by kernel_rfl) Try.func4
    (ChangeSpec.witness6 (enc := enc) (C := Try.checked) false ⟨#[], #[.agg #[.int .i64 0, .int .i64 0, .int .i64 0, .int .i64 0, .int .i64 0], .agg #[.slice none 0 0, .slice none 0 0, .int .i64 0, .int .i64 0], .int .i64 0, .int .i64 0], []⟩ 8 (by kernel_rfl) (by kernel_rfl) (by kernel_rfl) (by kernel_rfl)) ?_
  intro W base args ds gs before hval0 hW hcnd _
  have hval : ∀ (j : Nat) t v, Try.f4.params[j]? = some t → args[j]? = some v → Value.okWide Try.prog W .any base t v := hval0
  have hW' := hW
  obtain ⟨p, q, hA0, hV, rfl, hfz, hnd⟩ := hW
  have hA : DataW.TrodAll enc Try.prog W 0 (fun _ => true) true Try.f4.params.toList args.toList ds p := hA0
  rw [Try.params4] at hA hval
  obtain ⟨x0, vs0, d0, ds0, p0_, q0, hargs, rfl, rfl, h0, r0⟩ := trodAll_cons hA
  obtain ⟨x1, vs1, d1, ds1, p1_, q1, rfl, rfl, rfl, h1, r1⟩ := trodAll_cons r0
  obtain ⟨x2, vs2, d2, ds2, p2_, q2, rfl, rfl, rfl, h2, r2⟩ := trodAll_cons r1
  obtain ⟨x3, vs3, d3, ds3, p3_, q3, rfl, rfl, rfl, h3, r3⟩ := trodAll_cons r2
  obtain ⟨rfl, rfl, rfl⟩ := trodAll_nil r3
  obtain rfl : args = #[x0, x1, x2, x3] := by cases args; simp_all
  obtain ⟨rfl, rfl⟩ := trodVars_none hV
  have lt0 : ∀ x ∈ p0_, x.block < W.heap.size := by obtain ⟨m, hm⟩ := h0; exact DataW.trod_lt m _ _ _ hm
  have lt1 : ∀ x ∈ p1_, x.block < W.heap.size := by obtain ⟨m, hm⟩ := h1; exact DataW.trod_lt m _ _ _ hm
  obtain ⟨n0, e0, p0, i0, j0, rfl⟩ := open_cfg (hval 0 23 x0 rfl rfl) h0
  obtain ⟨v1, G1, rfl, w1, s1, t1, u1, -, -⟩ := open_graph (hval 1 27 x1 rfl rfl) h1
  obtain ⟨a2, rfl, rfl, rfl, w2⟩ := open_int Try.underlying3 (hval 2 3 x2 rfl rfl) h2
  obtain ⟨a3, rfl, rfl, rfl, w3⟩ := open_int Try.underlying3 (hval 3 3 x3 rfl rfl) h3
  clear hA0 hval0
  refine (walk n0 e0 p0 i0 j0 v1 G1 a2 a3 W w1 s1 t1 u1 w2 w3).mono fun e W' ⟨he, bel⟩ => ?_
  subst he
  exact ⟨_, rfl, _, _, _, [], _, [], hW', trodAll_mk1 (shut_bool Try.underlying4 _), (trodAll_cons_mk (Below.trod laidOut (by kernel_rfl) (of_decide_eq_true (by kernel_rfl)) h0 bel lt0) (trodAll_cons_mk (Below.trod laidOut (by kernel_rfl) (of_decide_eq_true (by kernel_rfl)) h1 bel lt1) (trodAll_cons_mk (shut_int Try.underlying3 w2) (trodAll_cons_mk (shut_int Try.underlying3 w3) trodAll_mk0)))), rfl, bel.frame _, fun h => by cases h⟩

theorem over : Rows.graphDoesRow.holds Try.pinned (OpenSpec.ofChange Rows.graphDoesSpec) :=
  OpenClaim.holds_of_wide 4 Try.f4 rfl rfl rfl rfl rfl rfl rfl ⟨rfl, rfl, rfl, rfl, rfl⟩ rfl rfl rfl rfl rfl (by kernel_rfl) Try.func4 (by kernel_rfl)
    (of_decide_eq_true (by kernel_rfl)) (by unfold Func.isWrapper; first | (rw [if_pos (by decide +kernel)]; kernel_rfl) | (rw [if_neg (by decide +kernel)]; exact ⟨rfl, rfl⟩))
    (fun os started H enc _ => lifted os started H enc)

end Go.Proofs.Ytiiadkjiofkonaa.graphDoes

namespace Go.Proofs.Ytiiadkjiofkonaa
/-- The statement. -/
theorem graphDoes_holds : Rows.GraphDoesSaid := graphDoes.over
#print axioms graphDoes_holds
end Go.Proofs.Ytiiadkjiofkonaa
