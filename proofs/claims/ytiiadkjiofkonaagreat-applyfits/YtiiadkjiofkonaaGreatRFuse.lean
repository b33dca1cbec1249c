/- Two nodes fused: the document's answer. -/
import Derived.Test.YtiiadkjiofkonaaGreatAB7
import Derived.Test.YtiiadkjiofkonaaGreatRDrop
import Derived.Test.YtiiadkjiofkonaaGreatGFuse
import Derived.WalkKit
import Derived.Below
import Derived.Deep.QuietTactic
import Derived.BigQuiet
import Derived.Deep.AppendLies
import Derived.Deep.RegionHeld3
import Derived.Deep.DeepCutAuto
import Derived.Shelf.Abstract
namespace Go.Proofs.YtiiadkjiofkonaaGreat
open Go.RowKit
set_option linter.unusedVariables false

/-- The box of the graph that is going to be told is written whole. -/
theorem Mid.put4 {w u : World} {ga gr g : Nat} {ca cr : Array Value} {a b c d : Value} {v : Gv} {G : GL} {L : List (Int × Sl)} (m : Mid w u ga gr g ca cr #[a, b, c, d]) (O : Own u w.heap.size v G L) (h1 : ga ≠ g) (h2 : gr ≠ g) (h3 : w.heap.size ≤ g) :
    Mid w ((((u.setCell ⟨g, 0, none⟩ (.slice v.N.A v.N.n v.N.c)).setCell ⟨g, 1, none⟩ (.slice v.E.A v.E.n v.E.c)).setCell ⟨g, 2, none⟩ (.int .i64 v.x)).setCell ⟨g, 3, none⟩ (.int .i64 v.y)) ga gr g ca cr v.cs ∧
    Own ((((u.setCell ⟨g, 0, none⟩ (.slice v.N.A v.N.n v.N.c)).setCell ⟨g, 1, none⟩ (.slice v.E.A v.E.n v.E.c)).setCell ⟨g, 2, none⟩ (.int .i64 v.x)).setCell ⟨g, 3, none⟩ (.int .i64 v.y)) w.heap.size v G L := by
  have h := fin4 O m.out m.bel h3
  exact ⟨⟨h.2.2, bx_other (bx_other (bx_other (bx_other m.arg h1) h1) h1) h1, bx_other (bx_other (bx_other (bx_other m.res h2) h2) h2) h2, h.1⟩, h.2.1⟩
/-- An edge's end is written. -/
theorem own_setE {X : World} {B gE nE cE k d : Nat} {z : Int} {s : Sl} {x y x' y' : Int} {N : List Nd} {E E' : List Ed} {L : List (Int × Sl)} (o : Own X B ⟨s, ⟨some ⟨gE, 0, none⟩, nE, cE⟩, x, y⟩ ⟨N, E, x', y'⟩ L) (hE : (flat3 E).set (k * 3 + d) z = flat3 E') :
    Own (X.setCell ⟨gE, k * 3 + d, none⟩ (.int .i64 z)) B ⟨s, ⟨some ⟨gE, 0, none⟩, nE, cE⟩, x, y⟩ ⟨N, E', x', y'⟩ L := by
  obtain ⟨cur, hg⟩ : ∃ cur, X.heap[gE]? = some (.cells cur 79 (0, 0)) := by
    rcases o.edg.2 with ⟨h1, _⟩ | ⟨k', cap, cur, hv, _, hk, _⟩
    · cases h1
    · injection hv with e1
      simp only [Option.some.injEq, Addr.mk.injEq, and_true] at e1
      subst e1
      exact ⟨cur, hk⟩
  have h0 := (o.edg.stored (k * 3 + d) (.int .i64 z)).1
  have e1 : (ints (flat3 E)).set (k * 3 + d) (.int .i64 z) = ints (flat3 E') := by rw [← hE]; simp [ints, List.map_set]
  rw [e1] at h0
  exact ⟨own_cell o.rows hg (by decide) _ _, o.len, o.ids, fun i hi => own_cell (o.prs i hi) hg (by decide) _ _, h0, o.x, o.y⟩
theorem edg_at {X : World} {B gE nE cE k d : Nat} {E : List Ed} (h : X.ownsRow B 79 3 (.slice (some ⟨gE, 0, none⟩) nE cE) nE (ints (flat3 E))) (hk : k < nE) (hd : d < 3) : X.frozen? ⟨gE, k * 3 + d, none⟩ = false ∧ gE < X.heap.size ∧ B ≤ gE := by
  obtain ⟨g', cap, hv, hb, hlt⟩ := h.form (by omega)
  injection hv with h1
  simp only [Option.some.injEq, Addr.mk.injEq, and_true] at h1
  subst h1
  refine ⟨?_, hlt, hb⟩
  rcases h.2 with ⟨h1, _⟩ | ⟨k', cap, cur, hv, hB, hk', _⟩
  · cases h1
  · injection hv with e1
    simp only [Option.some.injEq, Addr.mk.injEq, and_true] at e1
    subst e1
    exact frozen_of_row X gE (k * 3 + d) cur 79 hk'
theorem edg_some {X : World} {B nE cE : Nat} {A : Option Addr} {xs : List Value} (h : X.ownsRow B 79 3 (.slice A nE cE) nE xs) (hn : 0 < nE) : ∃ g, A = some ⟨g, 0, none⟩ := by
  obtain ⟨g, cap, hv, _, _⟩ := h.form hn
  injection hv with h1
  exact ⟨g, h1⟩
theorem own_blockE {X : World} {B gE nE cE : Nat} {s : Sl} {x y : Int} {G : GL} {L : List (Int × Sl)} (o : Own X B ⟨s, ⟨some ⟨gE, 0, none⟩, nE, cE⟩, x, y⟩ G L) : ∃ cs, X.heap[gE]? = some (.cells cs 79 (0, 0)) := by
  rcases o.edg.2 with ⟨h1, _⟩ | ⟨k', cap, cur, hv, _, hk, _⟩
  · cases h1
  · injection hv with e1
    simp only [Option.some.injEq, Addr.mk.injEq, and_true] at e1
    subst e1
    exact ⟨cur, hk⟩
theorem cell_other (w : World) (g i j : Nat) (x : Value) (h : i ≠ j) : (w.setCell ⟨g, i, none⟩ x).cell? ⟨g, j, none⟩ = w.cell? ⟨g, j, none⟩ := by
  simp [World.setCell, World.cell?, Array.getElem?_modify]
  cases w.heap[g]? with
  | none => rfl
  | some o => cases o <;> simp [h]
theorem set_at {E : List Ed} {k : Nat} {x : Ed} (h : k < E.length) : (E.set k x).getD k (0, 0, 0) = x := by simp [List.getD_eq_getElem?_getD, h]
theorem set_self {E : List Ed} {k : Nat} (h : k < E.length) : E.set k (E.getD k (0, 0, 0)) = E := by rw [getD_get h]; exact List.set_getElem_self h
theorem mv_yes (b a : Int) : mv b a b = a := by simp [mv]
theorem mv_no {b a z : Int} (h : z ≠ b) : mv b a z = z := by simp [mv, h]

set_option maxRecDepth 100000 in
set_option maxHeartbeats 8000000 in
theorem rfuse_any (v : Gv) (G R : GL) (a b er : Int) (M : List Pr) (w : World) (S : Sees w w.heap.size v G) (HS : Small G) (hsum : (prsAt G (posN G a)).length + (prsAt G (posN G b)).length ≤ 290) (hP : Rise (fun z : Pr => z.1) (0, 0) (prsAt G (posN G a))) (hQ : Rise (fun z : Pr => z.1) (0, 0) (prsAt G (posN G b)))
    (hl : Hid (∀ l : List Pr, l.Perm ((prsAt G (posN G a)) ++ missing (prsAt G (posN G a)) (prsAt G (posN G b))) → (l.Pairwise fun p q => ¬ q.1 < p.1) → l = M)) (hr : Hid (fuseR G a b M = (er, R))) :
    Calls Tryz.prog 40 #[v.val, .int .i64 a, .int .i64 b] w fun e w' => ∃ v', e = .returned (.tuple #[Gv.val v', .int .i64 er]) ∧ Hid (Mine w w' v' R) ∧ Hid (Below w.heap.size w w') := by
  have HSS := hide HS
  have HSUM := hide hsum
  have HRP := hide hP
  have HRQ := hide hQ
  clear hsum hP hQ
  obtain ⟨i0, hi0, hz0, hz1, hz2⟩ := info_parts info80
  have H1 := hide hi0
  have H2 := hide hz0
  have H3 := hide hz1
  have H4 := hide hz2
  clear hi0 hz0 hz1 hz2
  obtain ⟨⟨nA, nn, nc⟩, ⟨eA, en, ec⟩, x, y⟩ := v
  show Calls Tryz.prog 40 #[.agg #[.slice nA nn nc, .slice eA en ec, .int .i64 x, .int .i64 y], .int .i64 a, .int .i64 b] w _
  have SW := hide S
  have HSM := hide HS
  have ln := S.nodes.1
  have le := edges_len S.edges
  dsimp only at ln le
  have hnn : nn ≤ 1000 := by have := HS.n; omega
  have hen : en ≤ 1000 := by have := HS.e; omega
  have LE := hide le
  clear S HS ln le
  obtain ⟨W, hW⟩ : ∃ W, Hid ((w.alloc (.cells #[.slice nA nn nc, .slice eA en ec, .int .i64 x, .int .i64 y] 27)).alloc (.cells #[.slice none 0 0, .slice none 0 0, .int .i64 0, .int .i64 0] 27) = W) := ⟨_, rfl⟩
  have BW : Hid (Below w.heap.size w W) := by show Below _ _ _; rw [← hW.out]; exact boxed2 w _ _
  have HA : Hid (W.heap[w.heap.size]? = some (.cells #[.slice nA nn nc, .slice eA en ec, .int .i64 x, .int .i64 y] 27 (0, 0))) := by show _ = _; rw [← hW.out]; exact heap_alloc2_old w _ _
  have HR : Hid (W.heap[w.heap.size + 1]? = some (.cells #[.slice none 0 0, .slice none 0 0, .int .i64 0, .int .i64 0] 27 (0, 0))) := by show _ = _; rw [← hW.out]; exact heap_alloc2_new w _ _
  go_enter Tryz.func40, Tryz.ntmps40
  go_upto_region 1 with fail
  have hW' := hW.out
  rw [hW']
  clear hW hW'
  by_cases hab : a = b
  · have t0 : (a == b) = true := by simpa using hab
    have HRR : Hid ((5, noG) = (er, R)) := by show _ = _; rw [← hr.out]; exact (fuseR_self hab).symm
    obtain ⟨rfl, rfl⟩ : 5 = er ∧ noG = R := by have := HRR.out; simp only [Prod.mk.injEq] at this; exact this
    clear HRR
    clear hab
    have HF := hide (fin4 (Own.none _ w.heap.size) HR.out BW.out (by omega))
    obtain ⟨cr, fr, lr⟩ := bx_all HR.out
    go_wp2
    exact bodyPost_ret (row_two rfl _ _ (w.heap.size + 1) 27 _ (0, 0) _ rfl HF.out.1 Tryz.underlying27 rfl size27) rfl ⟨noGv, rfl, ⟨_, HF.out.2.1⟩, HF.out.2.2⟩
  · have t0 : (a == b) = false := by simpa using hab
    have HAB := hide hab
    clear hab
    obtain ⟨r2, Hr2⟩ : ∃ r, Hid (atI G.N b = r) := ⟨_, rfl⟩
    obtain ⟨r1, Hr1⟩ : ∃ r, Hid (atI G.N a = r) := ⟨_, rfl⟩
    obtain ⟨ca, -, la⟩ := bx_all HA.out
    go_wp2_with fail
    clear ca la
    refine (at_any ⟨⟨nA, nn, nc⟩, ⟨eA, en, ec⟩, x, y⟩ G b r2 W ((SW.out.below BW.out (Nat.le_refl _)).more BW.out.size) (by dsimp only; omega) Hr2).mono ?_
    rintro e u1 ⟨rfl, hb1⟩
    have HA := hide (bx_step HA.out hb1)
    have HR := hide (bx_step HR.out hb1)
    have BW := hide (BW.out.trans (hb1.mono BW.out.size))
    clear hb1
    obtain ⟨ca, -, la⟩ := bx_all HA.out
    go_wp2_with fail
    clear ca la
    refine (at_any ⟨⟨nA, nn, nc⟩, ⟨eA, en, ec⟩, x, y⟩ G a r1 u1 ((SW.out.below BW.out (Nat.le_refl _)).more BW.out.size) (by dsimp only; omega) Hr1).mono ?_
    rintro e u0 ⟨rfl, hb1⟩
    have HA := hide (bx_step HA.out hb1)
    have HR := hide (bx_step HR.out hb1)
    have BW := hide (BW.out.trans (hb1.mono BW.out.size))
    clear hb1
    by_cases ta : r1 < 0
    · have t1 : decide (r1 < 0) = true := by simpa using ta
      have HRR : Hid ((2, noG) = (er, R)) := by show _ = _; rw [← hr.out]; exact (fuseR_none HAB.out (.inl (by rw [← atI_eq, Hr1.out]; exact ta))).symm
      obtain ⟨rfl, rfl⟩ : 2 = er ∧ noG = R := by have := HRR.out; simp only [Prod.mk.injEq] at this; exact this
      clear HRR
      clear ta
      have HF := hide (fin4 (Own.none _ w.heap.size) HR.out BW.out (by omega))
      obtain ⟨cr, fr, lr⟩ := bx_all HR.out
      go_wp2
      exact bodyPost_ret (row_two rfl _ _ (w.heap.size + 1) 27 _ (0, 0) _ rfl HF.out.1 Tryz.underlying27 rfl size27) rfl ⟨noGv, rfl, ⟨_, HF.out.2.1⟩, HF.out.2.2⟩
    · have t1 : decide (r1 < 0) = false := by simpa using ta
      by_cases t : r2 < 0
      · have t2 : decide (r2 < 0) = true := by simpa using t
        have HRR : Hid ((2, noG) = (er, R)) := by show _ = _; rw [← hr.out]; exact (fuseR_none HAB.out (.inr (by rw [← atI_eq, Hr2.out]; exact t))).symm
        obtain ⟨rfl, rfl⟩ : 2 = er ∧ noG = R := by have := HRR.out; simp only [Prod.mk.injEq] at this; exact this
        clear HRR
        clear t ta
        have HF := hide (fin4 (Own.none _ w.heap.size) HR.out BW.out (by omega))
        obtain ⟨cr, fr, lr⟩ := bx_all HR.out
        go_wp2
        exact bodyPost_ret (row_two rfl _ _ (w.heap.size + 1) 27 _ (0, 0) _ rfl HF.out.1 Tryz.underlying27 rfl size27) rfl ⟨noGv, rfl, ⟨_, HF.out.2.1⟩, HF.out.2.2⟩
      · have t2 : decide (r2 < 0) = false := by simpa using t
        have HRR : Hid ((0, fuseG a b M G) = (er, R)) := by show _ = _; rw [← hr.out]; exact (fuseR_ok HAB.out (by rw [← atI_eq, Hr1.out]; exact ta) (by rw [← atI_eq, Hr2.out]; exact t)).symm
        obtain ⟨rfl, rfl⟩ : 0 = er ∧ fuseG a b M G = R := by have := HRR.out; simp only [Prod.mk.injEq] at this; exact this
        clear HRR
        have HNA : Hid (0 ≤ atf (fun z : Nd => z.1) G.N a) := by show _ ≤ _; rw [← atI_eq, Hr1.out]; omega
        have Hq : Hid (atf (fun z : Nd => z.1) G.N b = r2) := by show _ = _; rw [← atI_eq]; exact Hr2.out
        have Hp : Hid (atf (fun z : Nd => z.1) G.N a = r1) := by show _ = _; rw [← atI_eq]; exact Hr1.out
        obtain ⟨p, hp0, hp1, hp2⟩ := atf_pos (f := fun z : Nd => z.1) Hq.out t
        subst hp0
        have HPB : Hid (posN G b = p) := hp2
        have HPL : Hid (p < G.N.length) := hp1
        obtain ⟨p', hp0', hp1', hp2'⟩ := atf_pos (f := fun z : Nd => z.1) Hp.out ta
        have HPAL : Hid (posN G a < G.N.length) := by have e : posN G a = p' := hp2'; show _ < _; rw [e]; exact hp1'
        clear hp1 hp2 hp0' hp1' hp2' Hq Hp Hr1 Hr2 ta t hr
        obtain ⟨ca, -, la⟩ := bx_all HA.out
        go_wp2_with fail
        clear ca la
        refine (copy_any ⟨⟨nA, nn, nc⟩, ⟨eA, en, ec⟩, x, y⟩ G _ ((SW.out.below BW.out (Nat.le_refl _)).more BW.out.size) hnn hen (fun j hj => by have := HSM.out.p j hj; omega)).mono ?_
        rintro e u2 ⟨⟨⟨oA, on, oc⟩, ⟨pA, pn, pc⟩, x1, y1⟩, LL, rfl, O1, B1⟩
        have OU := hide (O1.out.less BW.out.size)
        have HA := hide (bx_step HA.out B1.out)
        have HR := hide (bx_step HR.out B1.out)
        have BW := hide (BW.out.trans (B1.out.mono BW.out.size))
        clear O1 B1 t0 t1 t2
        obtain ⟨X, hX⟩ : ∃ X, Hid (u2.alloc (.cells #[.slice oA on oc, .slice pA pn pc, .int .i64 x1, .int .i64 y1] 27) = X) := ⟨_, rfl⟩
        obtain ⟨g, hg⟩ : ∃ g, Hid (u2.heap.size = g) := ⟨_, rfl⟩
        have BXX : Hid (Below u2.heap.size u2 X) := by show Below _ _ _; rw [← hX.out]; exact (Below.refl _ _).alloc (Nat.le_refl _) _
        have MX : Hid (Mid w X (w.heap.size) (w.heap.size + 1) g #[.slice nA nn nc, .slice eA en ec, .int .i64 x, .int .i64 y] #[.slice none 0 0, .slice none 0 0, .int .i64 0, .int .i64 0] #[.slice oA on oc, .slice pA pn pc, .int .i64 x1, .int .i64 y1]) := ⟨BW.out.trans (BXX.out.mono BW.out.size), bx_step HA.out BXX.out, bx_step HR.out BXX.out, by rw [← hX.out, ← hg.out]; exact heap_alloc_new _ _⟩
        have hlt : w.heap.size + 1 < g := by rw [← hg.out]; exact (bx_all HR.out).2.2
        have NE1 : Hid (w.heap.size ≠ g) := by show _ ≠ _; omega
        have NE2 : Hid (w.heap.size + 1 ≠ g) := by show _ ≠ _; omega
        have NE3 : Hid (w.heap.size ≤ g) := by show _ ≤ _; omega
        have OX := hide (OU.out.step BXX.out)
        have OX : Hid (Own X w.heap.size ⟨⟨oA, on, oc⟩, ⟨pA, pn, pc⟩, x1, y1⟩ (setN G (posN G a) (prsAt G (posN G a))) LL) := by show Own _ _ _ _ _; rw [setN_same HPAL.out]; exact OX.out
        go_upto_region 7 with fail
        have hX' := hX.out
        have hg' := hg.out
        rw [hX', hg']
        clear hX hg hX' hg' BXX HA HR BW OU hlt
        have LN : G.N.length = nn := SW.out.nodes.1
        have hpn : p < nn := by have := HPL.out; omega
        have jn : (p : Int) < (nn : Int) := by omega
        have ip : (0 : Int) ≤ (p : Int) := by omega
        obtain ⟨nb, noff, e0, hb0, d0, ⟨hA, hh, hcc⟩, d1, hPr⟩ := SW.out.nodes.at_ (k := p) hpn
        dsimp only at e0 d1
        subst e0
        have HQB : Hid (Nums w w.heap.size 2 hA hh (flat2 (prsAt G (posN G b)))) := by
          have h := hPr.1
          have e : (prsAt G (posN G b)) = (G.N.getD p (0, [])).2 := by rw [HPB.out]; rfl
          rw [← e] at h
          exact h
        have HLQ : Hid (hh = (prsAt G (posN G b)).length) := pairs_len HQB.out
        have hhb : hh ≤ 300 := by have := HSUM.out; have := HLQ.out; omega
        have HND : Hid (((prsAt G (posN G b)).map fun z : Pr => z.1).Nodup) := HRQ.out.apart
        have k1 := (MX.out.bel.cell (p := ⟨nb, _, none⟩) hb0).trans d1
        obtain ⟨ca, -, la⟩ := bx_all MX.out.arg
        have F0 := hide (fo_zero (Q := (prsAt G (posN G b))) HRP.out)
        go_wp2
        clear ca la k1 d0 d1 hPr hb0 jn ip hpn
        go_loopw [38] (fun i wr => ∃ (k : Nat) (Fl : List Pr) (v' : Gv) (L' : List (Int × Sl)), k ≤ hh ∧ i = .int .i64 k ∧ Hid (Fo (prsAt G (posN G a)) (prsAt G (posN G b)) k Fl) ∧ Hid (Own wr w.heap.size v' (setN G (posN G a) Fl) L') ∧ Hid (Mid w wr (w.heap.size) (w.heap.size + 1) g #[.slice (some ⟨nb, noff, none⟩) nn nc, .slice eA en ec, .int .i64 x, .int .i64 y] #[.slice none 0 0, .slice none 0 0, .int .i64 0, .int .i64 0] v'.cs)) (fun i _ => hh - (intOf i).toNat)
        case atStart => exact ⟨0, _, ⟨⟨oA, on, oc⟩, ⟨pA, pn, pc⟩, x1, y1⟩, _, by omega, rfl, F0, OX, MX⟩
        case round =>
          clear F0 OX MX
          obtain ⟨k, Fl, ⟨⟨oA, on, oc⟩, ⟨pA, pn, pc⟩, x1, y1⟩, L', hk, rfl, FO, OR, MR⟩ := hrel
          have FL : Hid (Fl.length ≤ 290) := by show _ ≤ _; have := fo_len FO.out; have := HSUM.out; omega
          have SMF : Hid (Small (setN G (posN G a) Fl)) := small_setN HSS.out (by have := FL.out; omega)
          by_cases hlt : k < hh
          · obtain ⟨b0, off, e0, hb1, d0, d1⟩ := pair_at (HQB.out.below MR.out.bel (Nat.le_refl _)) hlt
            subst e0
            obtain ⟨ky, hx⟩ : ∃ z, Hid (((prsAt G (posN G b)).getD k (0, 0)).1 = z) := ⟨_, rfl⟩
            obtain ⟨vl, hy⟩ : ∃ z, Hid (((prsAt G (posN G b)).getD k (0, 0)).2 = z) := ⟨_, rfl⟩
            rw [hx.out] at d0
            rw [hy.out] at d1
            have HX0 : Hid ((prsAt G (posN G b)).getD k (0, 0) = (ky, vl)) := Prod.ext hx.out hy.out
            have HK : Hid (k < (prsAt G (posN G b)).length) := by have := HLQ.out; show _ < _; omega
            clear hx hy
            obtain ⟨U, hU⟩ : ∃ U, Hid (wr.alloc (.cells #[.int .i64 ky, .int .i64 vl] 83) = U) := ⟨_, rfl⟩
            obtain ⟨gn, hgn⟩ : ∃ g, Hid (wr.heap.size = g) := ⟨_, rfl⟩
            have BU : Hid (Below wr.heap.size wr U) := by show Below _ _ _; rw [← hU.out]; exact (Below.refl _ _).alloc (Nat.le_refl _) _
            have HX : Hid (U.heap[gn]? = some (.cells #[.int .i64 ky, .int .i64 vl] 83 (0, 0))) := by show _ = _; rw [← hU.out, ← hgn.out]; exact heap_alloc_new _ _
            have OU := hide (OR.out.step BU.out)
            have MU := hide (MR.out.step BU.out)
            go_upto_region 10 with fail
            have hU' := hU.out
            have hg' := hgn.out
            rw [hU', hg']
            clear hU hgn hU' hg' d0 d1 OR MR BU
            obtain ⟨m0, -, n0⟩ := bx_all HX.out
            obtain ⟨cg, fg, lg⟩ := bx_all MU.out.out
            obtain ⟨q, HQ⟩ : ∃ q, Hid (decide (0 ≤ atf (fun z : Pr => z.1) Fl ky) = q) := ⟨_, rfl⟩
            go_wp2_with fail
            refine (has_any ⟨⟨oA, on, oc⟩, ⟨pA, pn, pc⟩, x1, y1⟩ (setN G (posN G a) Fl) a ky q U OU.out.sees SMF.out (hide (by rw [hasR_setN (by have := HNA.out; omega) HPAL.out]; exact HQ.out))).mono ?_
            rintro e u3 ⟨rfl, hb3⟩
            have OU := hide (OU.out.step hb3)
            have MU := hide (MU.out.step hb3)
            have HX := hide (bx_step HX.out hb3)
            clear hb3 m0 n0 cg fg lg
            cases q
            · have HNI : Hid (atf (fun z : Pr => z.1) Fl ky < 0) := by show _ < _; have := HQ.out; simpa using this
              have FN := hide (fo_put HK.out HX0.out HND.out FO.out (by have := HNI.out; omega))
              obtain ⟨m0, -, n0⟩ := bx_all HX.out
              obtain ⟨cg, fg, lg⟩ := bx_all MU.out.out
              go_wp2_with fail
              clear m0 n0 cg fg lg
              refine (rset_any ⟨⟨oA, on, oc⟩, ⟨pA, pn, pc⟩, x1, y1⟩ (setN G (posN G a) Fl) (setN G (posN G a) (putP Fl ky vl)) a ky vl 0 u3 OU.out.sees SMF.out (hide (by rw [setR_ok (by rw [atf_setN]; have := HNA.out; omega), posN_setN, prsAt_setN HPAL.out, setN_twice]))).mono ?_
              rintro e u4 ⟨⟨⟨aA, an, ac⟩, ⟨bA, bn, bc⟩, x2, y2⟩, rfl, hm, hb4⟩
              obtain ⟨L4, O4⟩ := hm.out
              have O4 := hide (O4.less MU.out.bel.size)
              have MU := hide (MU.out.step hb4.out)
              clear hm hb4 OU
              have MP := hide (Mid.put4 MU.out O4.out NE1.out NE2.out NE3.out)
              have MP1 := hide MP.out.1
              have MP2 := hide MP.out.2
              dsimp only at MP1 MP2
              obtain ⟨cg, fg, lg⟩ := bx_all MU.out.out
              clear MP
              go_wp2
              go_roundw
              case rel => exact ⟨k + 1, _, ⟨⟨aA, an, ac⟩, ⟨bA, bn, bc⟩, x2, y2⟩, _, by omega, by go_num, FN, MP2, MP1⟩
              case measure => simp [intOf]; omega
            · have HIN : Hid (0 ≤ atf (fun z : Pr => z.1) Fl ky) := by show _ ≤ _; have := HQ.out; simpa using this
              have FN := hide (fo_has HK.out HX0.out HND.out FO.out HIN.out)
              go_wp2
              go_roundw
              case rel => exact ⟨k + 1, Fl, ⟨⟨oA, on, oc⟩, ⟨pA, pn, pc⟩, x1, y1⟩, _, by omega, by go_num, FN, OU, MU⟩
              case measure => simp [intOf]; omega
          · obtain rfl : hh = k := by omega
            have HM : Hid (Fl = M) := hl.out _ (by have := FO.out.1; rwa [List.take_of_length_le (by have := HLQ.out; omega)] at this) (FO.out.2.imp fun h => by omega)
            have HM' := HM.out
            subst HM'
            obtain ⟨cg, fg, lg⟩ := bx_all MR.out.out
            have LEN : Hid (pn = G.E.length) := edges_len OR.out.sees.edges
            have hpn : pn ≤ 300 := by have := LEN.out; have := HSM.out.e; omega
            have OE : Hid (Own wr w.heap.size ⟨⟨oA, on, oc⟩, ⟨pA, pn, pc⟩, x1, y1⟩ ⟨(setN G (posN G a) Fl).N, mvK b a G.E 0, G.x, G.y⟩ L') := by show Own _ _ _ _ _; rw [mvK_zero]; exact OR.out
            go_wp2
            clear cg fg lg OR FO
            go_loopw [12, 62] (fun z i wx => ∃ (k : Nat) (L2 : List (Int × Sl)), k ≤ pn ∧ i = .int .i64 k ∧ Hid (Own wx w.heap.size ⟨⟨oA, on, oc⟩, ⟨pA, pn, pc⟩, x1, y1⟩ ⟨(setN G (posN G a) Fl).N, mvK b a G.E k, G.x, G.y⟩ L2) ∧ Hid (Mid w wx (w.heap.size) (w.heap.size + 1) g #[.slice (some ⟨nb, noff, none⟩) nn nc, .slice eA en ec, .int .i64 x, .int .i64 y] #[.slice none 0 0, .slice none 0 0, .int .i64 0, .int .i64 0] #[.slice oA on oc, .slice pA pn pc, .int .i64 x1, .int .i64 y1])) (fun _ i _ => pn - (intOf i).toNat)
            case atStart => exact ⟨0, _, by omega, rfl, OE, MR⟩
            case round =>
              clear OE MR
              obtain ⟨k, L2, hk2, rfl, OR, MR⟩ := hrel
              by_cases hlt2 : k < pn
              · have HK : Hid (k < G.E.length) := by have := LEN.out; show _ < _; omega
                have HKM : Hid (k < (mvK b a G.E k).length) := by show _ < _; rw [mvK_len]; exact HK.out
                obtain ⟨gE, eE⟩ := edg_some OR.out.edg (show 0 < pn by omega)
                dsimp only at eE
                subst eE
                obtain ⟨bb, boff, eb, hbb, d0, d1, d2⟩ := edge_at OR.out.sees.edges hlt2
                simp only [Option.some.injEq, Addr.mk.injEq, and_true] at eb
                obtain ⟨rfl, rfl⟩ := eb
                rw [mvK_at HK.out] at d0 d1 d2
                simp only [Nat.zero_add] at d0 d1 d2
                have HSU := hide (mvK_succ (b := b) (a := a) HK.out)
                have HAT := hide (mvK_at (b := b) (a := a) HK.out)
                obtain ⟨z0, hz0⟩ : ∃ z, Hid ((G.E.getD k (0, 0, 0)).1 = z) := ⟨_, rfl⟩
                obtain ⟨z1, hz1⟩ : ∃ z, Hid ((G.E.getD k (0, 0, 0)).2.1 = z) := ⟨_, rfl⟩
                obtain ⟨z2, hz2⟩ : ∃ z, Hid ((G.E.getD k (0, 0, 0)).2.2 = z) := ⟨_, rfl⟩
                have HXE : Hid (G.E.getD k (0, 0, 0) = (z0, z1, z2)) := Prod.ext hz0.out (Prod.ext hz1.out hz2.out)
                rw [hz1.out] at d1
                rw [hz2.out] at d2
                have f1 := (edg_at OR.out.edg hlt2 (show 1 < 3 by omega)).1
                have f2 := (edg_at OR.out.edg hlt2 (show 2 < 3 by omega)).1
                have lE := (edg_at OR.out.edg hlt2 (show 2 < 3 by omega)).2.1
                have bE := (edg_at OR.out.edg hlt2 (show 2 < 3 by omega)).2.2
                obtain ⟨csE, hcE⟩ := own_blockE OR.out
                have i1 : (0 : Int) ≤ (k : Int) := by omega
                have i2 : (k : Int) < (pn : Int) := by omega
                obtain ⟨cg, -, lg⟩ := bx_all MR.out.out
                clear hz0 hz1 hz2 d0 hbb
                by_cases e1 : z1 = b
                ·
                  have t1 : (z1 == b) = true := by simpa using e1
                  have E1 := hide e1
                  clear e1
                  have O1 : Hid (Own (wr.setCell ⟨gE, k * 3 + 1, none⟩ (.int .i64 a)) w.heap.size ⟨⟨oA, on, oc⟩, ⟨some ⟨gE, 0, none⟩, pn, pc⟩, x1, y1⟩ ⟨(setN G (posN G a) Fl).N, (mvK b a G.E k).set k (z0, a, z2), G.x, G.y⟩ L2) := own_setE OR.out (by rw [flat3_set1 _ _ _ HKM.out, HAT.out, HXE.out])
                  have M1 : Hid (Mid w (wr.setCell ⟨gE, k * 3 + 1, none⟩ (.int .i64 a)) (w.heap.size) (w.heap.size + 1) g #[.slice (some ⟨nb, noff, none⟩) nn nc, .slice eA en ec, .int .i64 x, .int .i64 y] #[.slice none 0 0, .slice none 0 0, .int .i64 0, .int .i64 0] #[.slice oA on oc, .slice (some ⟨gE, 0, none⟩) pn pc, .int .i64 x1, .int .i64 y1]) := MR.out.row hcE (by decide) bE
                  have hcE1 := heap_setCell_same wr gE (k * 3 + 1) _ 79 (.int .i64 a) hcE
                  obtain ⟨cg1, -, lg1⟩ := bx_all M1.out.out
                  have g2 : (wr.setCell ⟨gE, k * 3 + 1, none⟩ (.int .i64 a)).cell? ⟨gE, k * 3 + 2, none⟩ = some (.int .i64 z2) := by rw [cell_other wr gE (k * 3 + 1) (k * 3 + 2) _ (by omega)]; exact d2
                  have h2 : (wr.setCell ⟨gE, k * 3 + 1, none⟩ (.int .i64 a)).frozen? ⟨gE, k * 3 + 2, none⟩ = false := (bx_all hcE1).2.1 _
                  have l2 : gE < (wr.setCell ⟨gE, k * 3 + 1, none⟩ (.int .i64 a)).heap.size := (bx_all hcE1).2.2
                  by_cases e2 : z2 = b
                  · have t2 : (z2 == b) = true := by simpa using e2
                    have E2 := hide e2
                    clear e2
                    have O2 : Hid (Own ((wr.setCell ⟨gE, k * 3 + 1, none⟩ (.int .i64 a)).setCell ⟨gE, k * 3 + 2, none⟩ (.int .i64 a)) w.heap.size ⟨⟨oA, on, oc⟩, ⟨some ⟨gE, 0, none⟩, pn, pc⟩, x1, y1⟩ ⟨(setN G (posN G a) Fl).N, (mvK b a G.E k).set k (z0, a, a), G.x, G.y⟩ L2) := own_setE O1.out (by rw [flat3_set2 _ _ _ (by rw [List.length_set]; exact HKM.out), set_at HKM.out, List.set_set])
                    have M2 : Hid (Mid w ((wr.setCell ⟨gE, k * 3 + 1, none⟩ (.int .i64 a)).setCell ⟨gE, k * 3 + 2, none⟩ (.int .i64 a)) (w.heap.size) (w.heap.size + 1) g #[.slice (some ⟨nb, noff, none⟩) nn nc, .slice eA en ec, .int .i64 x, .int .i64 y] #[.slice none 0 0, .slice none 0 0, .int .i64 0, .int .i64 0] #[.slice oA on oc, .slice (some ⟨gE, 0, none⟩) pn pc, .int .i64 x1, .int .i64 y1]) := M1.out.row hcE1 (by decide) bE
                    have HE : Hid (mvE b a (z0, z1, z2) = (z0, a, a)) := by
                      show _ = _
                      unfold mvE
                      simp only [Prod.mk.injEq, true_and]
                      exact ⟨by rw [E1.out]; exact mv_yes b a, by rw [E2.out]; exact mv_yes b a⟩
                    have HS2 : Hid ((mvK b a G.E k).set k (z0, a, a) = mvK b a G.E (k + 1)) := by show _ = _; rw [← HSU.out, HXE.out, HE.out]
                    have ON := O2
                    have HS2' := HS2.out
                    rw [HS2'] at ON
                    clear HS2'
                    clear HE HS2 HSU HAT HXE
                    go_wp2
                    go_roundw
                    case rel => exact ⟨k + 1, L2, by omega, by go_num, ON, M2⟩
                    case measure => simp [intOf]; omega
                  · have t2 : (z2 == b) = false := by simpa using e2
                    have E2 := hide e2
                    clear e2
                    have HE : Hid (mvE b a (z0, z1, z2) = (z0, a, z2)) := by
                      show _ = _
                      unfold mvE
                      simp only [Prod.mk.injEq, true_and]
                      exact ⟨by rw [E1.out]; exact mv_yes b a, mv_no E2.out⟩
                    have HS2 : Hid ((mvK b a G.E k).set k (z0, a, z2) = mvK b a G.E (k + 1)) := by show _ = _; rw [← HSU.out, HXE.out, HE.out]
                    have ON := O1
                    have HS2' := HS2.out
                    rw [HS2'] at ON
                    clear HS2'
                    clear HE HS2 HSU HAT HXE
                    go_wp2
                    go_roundw
                    case rel => exact ⟨k + 1, L2, by omega, by go_num, ON, M1⟩
                    case measure => simp [intOf]; omega
                ·
                  have t1 : (z1 == b) = false := by simpa using e1
                  have E1 := hide e1
                  clear e1
                  by_cases e2 : z2 = b
                  · have t2 : (z2 == b) = true := by simpa using e2
                    have E2 := hide e2
                    clear e2
                    have O2 : Hid (Own (wr.setCell ⟨gE, k * 3 + 2, none⟩ (.int .i64 a)) w.heap.size ⟨⟨oA, on, oc⟩, ⟨some ⟨gE, 0, none⟩, pn, pc⟩, x1, y1⟩ ⟨(setN G (posN G a) Fl).N, (mvK b a G.E k).set k (z0, z1, a), G.x, G.y⟩ L2) := own_setE OR.out (by rw [flat3_set2 _ _ _ HKM.out, HAT.out, HXE.out])
                    have M2 : Hid (Mid w (wr.setCell ⟨gE, k * 3 + 2, none⟩ (.int .i64 a)) (w.heap.size) (w.heap.size + 1) g #[.slice (some ⟨nb, noff, none⟩) nn nc, .slice eA en ec, .int .i64 x, .int .i64 y] #[.slice none 0 0, .slice none 0 0, .int .i64 0, .int .i64 0] #[.slice oA on oc, .slice (some ⟨gE, 0, none⟩) pn pc, .int .i64 x1, .int .i64 y1]) := MR.out.row hcE (by decide) bE
                    have HE : Hid (mvE b a (z0, z1, z2) = (z0, z1, a)) := by
                      show _ = _
                      unfold mvE
                      simp only [Prod.mk.injEq, true_and]
                      exact ⟨mv_no E1.out, by rw [E2.out]; exact mv_yes b a⟩
                    have HS2 : Hid ((mvK b a G.E k).set k (z0, z1, a) = mvK b a G.E (k + 1)) := by show _ = _; rw [← HSU.out, HXE.out, HE.out]
                    have ON := O2
                    have HS2' := HS2.out
                    rw [HS2'] at ON
                    clear HS2'
                    clear HE HS2 HSU HAT HXE
                    go_wp2
                    go_roundw
                    case rel => exact ⟨k + 1, L2, by omega, by go_num, ON, M2⟩
                    case measure => simp [intOf]; omega
                  · have t2 : (z2 == b) = false := by simpa using e2
                    have E2 := hide e2
                    clear e2
                    have HE : Hid (mvE b a (z0, z1, z2) = (z0, z1, z2)) := by
                      show _ = _
                      unfold mvE
                      simp only [Prod.mk.injEq, true_and]
                      exact ⟨mv_no E1.out, mv_no E2.out⟩
                    have HS2 : Hid ((mvK b a G.E k).set k (z0, z1, z2) = mvK b a G.E (k + 1)) := by show _ = _; rw [← HSU.out, HXE.out, HE.out]
                    have ON : Hid (Own wr w.heap.size ⟨⟨oA, on, oc⟩, ⟨some ⟨gE, 0, none⟩, pn, pc⟩, x1, y1⟩ ⟨(setN G (posN G a) Fl).N, mvK b a G.E (k + 1), G.x, G.y⟩ L2) := by
                      show Own _ _ _ _ _
                      have e : (mvK b a G.E k).set k (z0, z1, z2) = (mvK b a G.E k) := by rw [← HXE.out, ← HAT.out]; exact set_self HKM.out
                      rw [← HS2.out, e]
                      exact OR.out
                    clear HE HS2 HSU HAT HXE
                    go_wp2
                    go_roundw
                    case rel => exact ⟨k + 1, L2, by omega, by go_num, ON, MR⟩
                    case measure => simp [intOf]; omega
              · obtain rfl : pn = k := by omega
                have OF : Hid (Own wr w.heap.size ⟨⟨oA, on, oc⟩, ⟨pA, pn, pc⟩, x1, y1⟩ ⟨(setN G (posN G a) Fl).N, G.E.map (mvE b a), G.x, G.y⟩ L2) := by show Own _ _ _ _ _; rw [← mvK_all, ← LEN.out]; exact OR.out
                have SMW : Hid (Small ⟨(setN G (posN G a) Fl).N, G.E.map (mvE b a), G.x, G.y⟩) := ⟨SMF.out.n, by simp; exact HSM.out.e, SMF.out.p, HSM.out.x, HSM.out.y⟩
                obtain ⟨cg, -, lg⟩ := bx_all MR.out.out
                go_wp2_with fail
                clear cg lg
                refine (rwithout_any ⟨⟨oA, on, oc⟩, ⟨pA, pn, pc⟩, x1, y1⟩ _ b wr OF.out.sees SMW.out).mono ?_
                rintro e u5 ⟨⟨⟨aA, an, ac⟩, ⟨bA, bn, bc⟩, x2, y2⟩, rfl, hm, hb5⟩
                obtain ⟨L5, O5⟩ := hm.out
                have O5 := hide (O5.less MR.out.bel.size)
                have MR := hide (MR.out.step hb5.out)
                have HF := hide (fin4 O5.out MR.out.res MR.out.bel (by omega))
                obtain ⟨cr, fr, lr⟩ := bx_all MR.out.res
                clear hm hb5
                go_wp2
                exact bodyPost_ret (row_two rfl _ _ (w.heap.size + 1) 27 _ (0, 0) _ rfl HF.out.1 Tryz.underlying27 rfl size27) rfl ⟨⟨⟨aA, an, ac⟩, ⟨bA, bn, bc⟩, x2, y2⟩, rfl, ⟨_, HF.out.2.1⟩, HF.out.2.2⟩

end Go.Proofs.YtiiadkjiofkonaaGreat
