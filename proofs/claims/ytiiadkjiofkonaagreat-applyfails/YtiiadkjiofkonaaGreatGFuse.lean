/- Two nodes fused: the code. -/
import Derived.Test.YtiiadkjiofkonaaGreatGSet
import Derived.Test.YtiiadkjiofkonaaGreatGMoved
import Derived.WalkKit
import Derived.Below
import Derived.Deep.QuietTactic
import Derived.BigQuiet
import Derived.Deep.RegionHeld3
import Derived.Shelf.Abstract
namespace Go.Proofs.YtiiadkjiofkonaaGreat
open Go.RowKit
set_option linter.unusedVariables false

def fuseG (a b : Int) (M : List Pr) (G : GL) : GL := ⟨(setN G (posN G a) M).N.filter fun d => d.1 != b, G.E.map (mvE b a), G.x, G.y⟩
def fuseR (G : GL) (a b : Int) (M : List Pr) : Int × GL := if a = b then (5, noG) else if atf (fun z : Nd => z.1) G.N a < 0 ∨ atf (fun z : Nd => z.1) G.N b < 0 then (2, noG) else (0, fuseG a b M G)
theorem fuseR_self {G : GL} {a b : Int} {M : List Pr} (h : a = b) : fuseR G a b M = (5, noG) := if_pos h
theorem fuseR_none {G : GL} {a b : Int} {M : List Pr} (h : a ≠ b) (h2 : atf (fun z : Nd => z.1) G.N a < 0 ∨ atf (fun z : Nd => z.1) G.N b < 0) : fuseR G a b M = (2, noG) := by unfold fuseR; rw [if_neg h, if_pos h2]
theorem fuseR_ok {G : GL} {a b : Int} {M : List Pr} (h : a ≠ b) (ha : ¬ atf (fun z : Nd => z.1) G.N a < 0) (hb : ¬ atf (fun z : Nd => z.1) G.N b < 0) : fuseR G a b M = (0, fuseG a b M G) := by unfold fuseR; rw [if_neg h, if_neg (by rintro (x | x); exact ha x; exact hb x)]

set_option maxRecDepth 100000 in
set_option maxHeartbeats 8000000 in
theorem fuse_any (v : Gv) (G R : GL) (a b er : Int) (M : List Pr) (w : World) (S : Sees w w.heap.size v G) (HS : Small G) (hl : Hid (∀ l : List Pr, l.Perm (prsAt G (posN G a) ++ missing (prsAt G (posN G a)) (prsAt G (posN G b))) → (l.Pairwise fun p q => ¬ q.1 < p.1) → l = M)) (hr : Hid (fuseR G a b M = (er, R))) :
    Calls Tryz.prog 72 #[v.val, .int .i64 a, .int .i64 b] w fun e w' => ∃ v', e = .returned (.tuple #[Gv.val v', .int .i64 er]) ∧ Hid (Mine w w' v' R) ∧ Hid (Below w.heap.size w w') := by
  obtain ⟨⟨nA, nn, nc⟩, ⟨eA, en, ec⟩, x, y⟩ := v
  show Calls Tryz.prog 72 #[.agg #[.slice nA nn nc, .slice eA en ec, .int .i64 x, .int .i64 y], .int .i64 a, .int .i64 b] w _
  have SW := hide S
  have HSW := hide S
  have HSM := hide HS
  have ln := S.nodes.1
  have le := edges_len S.edges
  dsimp only at ln le
  have hnn : nn ≤ 1000 := by have := HS.n; omega
  have hen : en ≤ 1000 := by have := HS.e; omega
  have LN := hide ln
  clear S HS ln le
  obtain ⟨ra, Ha⟩ : ∃ r, Hid (atf (fun z : Nd => z.1) G.N a = r) := ⟨_, rfl⟩
  obtain ⟨rb, Hb⟩ : ∃ r, Hid (atf (fun z : Nd => z.1) G.N b = r) := ⟨_, rfl⟩
  obtain ⟨W, hW⟩ : ∃ W, Hid ((w.alloc (.cells #[.slice nA nn nc, .slice eA en ec, .int .i64 x, .int .i64 y] 27)).alloc (.cells #[.slice none 0 0, .slice none 0 0, .int .i64 0, .int .i64 0] 27) = W) := ⟨_, rfl⟩
  have BW : Hid (Below w.heap.size w W) := by show Below _ _ _; rw [← hW.out]; exact boxed2 w _ _
  have HZ : Hid (W.heap.size = w.heap.size + 2) := by show _ = _; rw [← hW.out]; simp
  have Harg : Hid (W.heap[w.heap.size]? = some (.cells #[.slice nA nn nc, .slice eA en ec, .int .i64 x, .int .i64 y] 27 (0, 0))) := by show _ = _; rw [← hW.out]; exact heap_alloc2_old w _ _
  have Hres : Hid (W.heap[w.heap.size + 1]? = some (.cells #[.slice none 0 0, .slice none 0 0, .int .i64 0, .int .i64 0] 27 (0, 0))) := by show _ = _; rw [← hW.out]; exact heap_alloc2_new w _ _
  have SW := hide ((SW.out.below BW.out (Nat.le_refl _)).more BW.out.size)
  by_cases tab : a = b
  ·
    have t0 : (a == b) = true := by simpa using tab
    have HR : Hid ((5, noG) = (er, R)) := by show _ = _; rw [← hr.out]; exact (fuseR_self tab).symm
    obtain ⟨rfl, rfl⟩ : 5 = er ∧ noG = R := by have := HR.out; simp only [Prod.mk.injEq] at this; exact this
    clear HR hr
    have HF := hide (fin4 (g := w.heap.size + 1) (Own.none W w.heap.size) Hres.out BW.out (by omega))
    have hW' := hW.out
    rw [← hW'] at HF
    clear hW hW' tab
    go_enter Tryz.func72, Tryz.ntmps72
    go_wp2
    exact bodyPost_ret (row_two rfl _ _ (w.heap.size + 1) 27 _ (0, 0) _ rfl (heap_alloc2_new w _ _) Tryz.underlying27 rfl size27) rfl ⟨noGv, rfl, Mine.none _ _, boxed2 w _ _⟩
  ·
    have t0 : (a == b) = false := by simpa using tab
    have TAB : Hid (a ≠ b) := tab
    clear tab
    have D0 := hide ((Below.refl W.heap.size W).drew)
    obtain ⟨carg, farg, larg⟩ := bx_all Harg.out
    have RD : Hid (∀ u, Hid (Below W.heap.size W u) → (fun u => u.cell? ⟨w.heap.size, 0, none⟩ = some (.slice nA nn nc) ∧ Hid (Below W.heap.size W u)) u) := fun u hu => ⟨(hu.out.cell (p := ⟨_, _, none⟩) larg).trans (carg 0), hu⟩
    have LST : Hid (∀ u u1, (fun u => u.cell? ⟨w.heap.size, 0, none⟩ = some (.slice nA nn nc) ∧ Hid (Below W.heap.size W u)) u → Below u.heap.size u u1 → Hid (Below W.heap.size W u1)) := fun u u1 h h1 => h.2.out.trans (h1.mono h.2.out.size)
    obtain ⟨rr, HRR⟩ : ∃ rr : Int → Int, Hid (∀ z, atf (fun z : Nd => z.1) G.N z = rr z) := ⟨_, fun z => rfl⟩
    have HRA : Hid (rr a = ra) := by show _ = _; rw [← HRR.out, Ha.out]
    have HRB : Hid (rr b = rb) := by show _ = _; rw [← HRR.out, Hb.out]
    have C : Hid (∀ z u, (fun u => u.cell? ⟨w.heap.size, 0, none⟩ = some (.slice nA nn nc) ∧ Hid (Below W.heap.size W u)) u → Calls Tryz.prog 86 #[.slice nA nn nc, .func (.func 87) #[] #[], .int .i64 z] u (Drew (.int .i64 (rr z)) u)) := fun z u h => findN_any ⟨nA, nn, nc⟩ G.N z (rr z) u ((SW.out.below h.2.out (Nat.le_refl _)).more h.2.out.size).nodes hnn (HRR.out z)
    go_enter Tryz.func72, Tryz.ntmps72
    by_cases ta : ra < 0
    ·
      have t1 : decide (ra < 0) = true := by simpa using ta
      have HR : Hid ((2, noG) = (er, R)) := by show _ = _; rw [← hr.out]; exact (fuseR_none TAB.out (.inl (by rw [Ha.out]; exact ta))).symm
      obtain ⟨rfl, rfl⟩ : 2 = er ∧ noG = R := by have := HR.out; simp only [Prod.mk.injEq] at this; exact this
      clear HR hr
      clear ta
      go_wp2
      have hW' := hW.out
      rw [hW']
      clear hW hW'
      go_region_held3 (fun u => u.cell? ⟨w.heap.size, 0, none⟩ = some (.slice nA nn nc) ∧ Hid (Below W.heap.size W u)) (first | exact RD.out _ D0 | exact RD.out _ (by assumption))
        ((go_at_call 86; refine (C.out _ _ ?_).mono ?_; (assumption); rintro r' u1 ⟨rfl, hu1⟩; have BU := LST.out _ _ (by assumption) hu1))
      have hra := HRA.out
      have hrb := HRB.out
      rw [hra, hrb]
      clear hra hrb HRA HRB HRR
      clear RD D0 LST C
      clear carg farg larg
      have Harg := hide (bx_step Harg.out BU.out)
      have Hres := hide (bx_step Hres.out BU.out)
      have SW := hide ((SW.out.below BU.out (Nat.le_refl _)).more (BU.out).size)
      have BW := hide (BW.out.trans (BU.out.mono BW.out.size))
      clear BU
      have HF := hide (fin4 (Own.none _ w.heap.size) Hres.out BW.out (by omega))
      obtain ⟨cres, fres, lres⟩ := bx_all Hres.out
      go_wp2
      exact bodyPost_ret (row_two rfl _ _ (w.heap.size + 1) 27 _ (0, 0) _ rfl HF.out.1 Tryz.underlying27 rfl size27) rfl ⟨noGv, rfl, ⟨_, HF.out.2.1⟩, HF.out.2.2⟩
    ·
      have t1 : decide (ra < 0) = false := by simpa using ta
      by_cases tb : rb < 0
      ·
        have t2 : decide (rb < 0) = true := by simpa using tb
        have HR : Hid ((2, noG) = (er, R)) := by show _ = _; rw [← hr.out]; exact (fuseR_none TAB.out (.inr (by rw [Hb.out]; exact tb))).symm
        obtain ⟨rfl, rfl⟩ : 2 = er ∧ noG = R := by have := HR.out; simp only [Prod.mk.injEq] at this; exact this
        clear HR hr
        clear ta tb
        go_wp2
        have hW' := hW.out
        rw [hW']
        clear hW hW'
        go_region_held3 (fun u => u.cell? ⟨w.heap.size, 0, none⟩ = some (.slice nA nn nc) ∧ Hid (Below W.heap.size W u)) (first | exact RD.out _ D0 | exact RD.out _ (by assumption))
          ((go_at_call 86; refine (C.out _ _ ?_).mono ?_; (assumption); rintro r' u1 ⟨rfl, hu1⟩; have BU := LST.out _ _ (by assumption) hu1))
        have hra := HRA.out
        have hrb := HRB.out
        rw [hra, hrb]
        clear hra hrb HRA HRB HRR
        clear RD D0 LST C
        clear carg farg larg
        have Harg := hide (bx_step Harg.out BU.out)
        have Hres := hide (bx_step Hres.out BU.out)
        have SW := hide ((SW.out.below BU.out (Nat.le_refl _)).more (BU.out).size)
        have BW := hide (BW.out.trans (BU.out.mono BW.out.size))
        clear BU
        have HF := hide (fin4 (Own.none _ w.heap.size) Hres.out BW.out (by omega))
        obtain ⟨cres, fres, lres⟩ := bx_all Hres.out
        go_wp2
        exact bodyPost_ret (row_two rfl _ _ (w.heap.size + 1) 27 _ (0, 0) _ rfl HF.out.1 Tryz.underlying27 rfl size27) rfl ⟨noGv, rfl, ⟨_, HF.out.2.1⟩, HF.out.2.2⟩
      ·
        have t2 : decide (rb < 0) = false := by simpa using tb
        have HR : Hid ((0, fuseG a b M G) = (er, R)) := by show _ = _; rw [← hr.out]; exact (fuseR_ok TAB.out (by rw [Ha.out]; exact ta) (by rw [Hb.out]; exact tb)).symm
        obtain ⟨rfl, rfl⟩ : 0 = er ∧ fuseG a b M G = R := by have := HR.out; simp only [Prod.mk.injEq] at this; exact this
        clear HR hr
        have HTa := hide ta
        have HTb := hide tb
        clear ta tb
        go_wp2
        have hW' := hW.out
        rw [hW']
        clear hW hW'
        go_region_held3 (fun u => u.cell? ⟨w.heap.size, 0, none⟩ = some (.slice nA nn nc) ∧ Hid (Below W.heap.size W u)) (first | exact RD.out _ D0 | exact RD.out _ (by assumption))
          ((go_at_call 86; refine (C.out _ _ ?_).mono ?_; (assumption); rintro r' u1 ⟨rfl, hu1⟩; have BU := LST.out _ _ (by assumption) hu1))
        have hra := HRA.out
        have hrb := HRB.out
        rw [hra, hrb]
        clear hra hrb HRA HRB HRR
        clear RD D0 LST C
        clear carg farg larg
        have Harg := hide (bx_step Harg.out BU.out)
        have Hres := hide (bx_step Hres.out BU.out)
        have SW := hide ((SW.out.below BU.out (Nat.le_refl _)).more (BU.out).size)
        have BW := hide (BW.out.trans (BU.out.mono BW.out.size))
        clear BU
        obtain ⟨p, hp0, hp1, hp2⟩ := atf_pos Ha.out (by have := HTa.out; omega)
        subst hp0
        have HPp : Hid (posN G a = p) := hp2
        have hp : p < nn := by have := LN.out; omega
        have ip : (0 : Int) ≤ (p : Int) := by omega
        have jp : (p : Int) < (nn : Int) := by omega
        clear hp2 hp1 HTa
        obtain ⟨q, hp0, hp1, hp2⟩ := atf_pos Hb.out (by have := HTb.out; omega)
        subst hp0
        have HPq : Hid (posN G b = q) := hp2
        have hq : q < nn := by have := LN.out; omega
        have iq : (0 : Int) ≤ (q : Int) := by omega
        have jq : (q : Int) < (nn : Int) := by omega
        clear hp2 hp1 HTb
        obtain ⟨b0, off, e0, hb0, d0, ⟨hA, hh, hcc⟩, d1, hP⟩ := HSW.out.nodes.at_ (k := p) hp
        obtain ⟨b0', off', e0', -, -, ⟨hA', hh', hcc'⟩, d1', hP'⟩ := HSW.out.nodes.at_ (k := q) hq
        dsimp only at e0 e0' d1 d1'
        subst e0
        simp only [Option.some.injEq, Addr.mk.injEq, and_true] at e0'
        obtain ⟨rfl, rfl⟩ := e0'
        have HB0 := hide hb0
        have HD := hide d1
        have HD' := hide d1'
        have HP := hide hP
        have HP' := hide hP'
        have hhb : hh ≤ 300 := by have := HSM.out.p p (by have := LN.out; omega); have := hP.len; dsimp only at this; omega
        have hhb' : hh' ≤ 300 := by have := HSM.out.p q (by have := LN.out; omega); have := hP'.len; dsimp only at this; omega
        have HRW : Hid (prsAt G (posN G a) = (G.N.getD p (0, [])).2) := by show _ = _; rw [HPp.out]; rfl
        have HRW' : Hid (prsAt G (posN G b) = (G.N.getD q (0, [])).2) := by show _ = _; rw [HPq.out]; rfl
        clear hP hP' d0 d1 d1' hb0
        obtain ⟨carg, farg, larg⟩ := bx_all Harg.out
        go_wp2_with fail
        refine (fresh_any ⟨⟨some ⟨b0, off, none⟩, nn, nc⟩, ⟨eA, en, ec⟩, x, y⟩ G _ SW.out hnn hen (fun j hj => by have := HSM.out.p j hj; omega)).mono ?_
        rintro e u3 ⟨⟨⟨oA, on, oc⟩, ⟨pA, pn, pc⟩, x1, y1⟩, L, rfl, O1, B1⟩
        have hon : on ≤ 1000 := by have := O1.out.many; have := HSM.out.n; dsimp only at *; omega
        have OU := hide (O1.out.less BW.out.size)
        clear carg farg larg
        have Harg := hide (bx_step Harg.out B1.out)
        have Hres := hide (bx_step Hres.out B1.out)
        have SW := hide ((SW.out.below B1.out (Nat.le_refl _)).more (B1.out).size)
        have BW := hide (BW.out.trans (B1.out.mono BW.out.size))
        clear O1 B1
        have hpo : p < on := by have h1 : on = G.N.length := OU.out.many; have h2 := LN.out; omega
        have jo : (p : Int) < (on : Int) := by omega
        obtain ⟨gN, eN⟩ : ∃ gN, oA = some ⟨gN, 0, none⟩ := by obtain ⟨g, e, _⟩ := OU.out.at_ (k := p) hpo; exact ⟨g, e⟩
        subst eN
        obtain ⟨carg, farg, larg⟩ := bx_all Harg.out
        obtain ⟨X, hX⟩ : ∃ X, Hid (u3.alloc (.cells #[.slice (some ⟨gN, 0, none⟩) on oc, .slice pA pn pc, .int .i64 x1, .int .i64 y1] 27) = X) := ⟨_, rfl⟩
        obtain ⟨g, hg⟩ : ∃ g, Hid (u3.heap.size = g) := ⟨_, rfl⟩
        have hltg : w.heap.size + 1 < g := by rw [← hg.out]; exact (bx_all Hres.out).2.2
        have BXX : Hid (Below u3.heap.size u3 X) := by show Below _ _ _; rw [← hX.out]; exact (Below.refl _ _).alloc (Nat.le_refl _) _
        have MX : Hid (Mid w X (w.heap.size) (w.heap.size + 1) g #[.slice (some ⟨b0, off, none⟩) nn nc, .slice eA en ec, .int .i64 x, .int .i64 y] #[.slice none 0 0, .slice none 0 0, .int .i64 0, .int .i64 0] #[.slice (some ⟨gN, 0, none⟩) on oc, .slice pA pn pc, .int .i64 x1, .int .i64 y1]) := ⟨BW.out.trans (BXX.out.mono BW.out.size), bx_step Harg.out BXX.out, bx_step Hres.out BXX.out, by rw [← hX.out, ← hg.out]; exact heap_alloc_new _ _⟩
        have HPX := hide ((HP.out.below (BW.out.trans (BXX.out.mono BW.out.size)) (Nat.le_refl _)).more (BW.out.trans (BXX.out.mono BW.out.size)).size)
        have HPX' := hide ((HP'.out.below (BW.out.trans (BXX.out.mono BW.out.size)) (Nat.le_refl _)).more (BW.out.trans (BXX.out.mono BW.out.size)).size)
        have OX := hide (OU.out.step BXX.out)
        go_wp2
        have hX' := hX.out
        have hg' := hg.out
        rw [hX', hg']
        clear hX hg hX' hg'
        clear carg farg larg
        clear Harg Hres BW SW OU BXX
        have D0 := hide ((Below.refl X.heap.size X).drew)
        have M0 := hide (MX.out.step D0.out)
        have RD : Hid (∀ u, Hid (Mid w u (w.heap.size) (w.heap.size + 1) g #[.slice (some ⟨b0, off, none⟩) nn nc, .slice eA en ec, .int .i64 x, .int .i64 y] #[.slice none 0 0, .slice none 0 0, .int .i64 0, .int .i64 0] #[.slice (some ⟨gN, 0, none⟩) on oc, .slice pA pn pc, .int .i64 x1, .int .i64 y1]) → (fun u => u.cell? ⟨g, 0, none⟩ = some (.slice (some ⟨gN, 0, none⟩) on oc) ∧ u.cell? ⟨w.heap.size, 0, none⟩ = some (.slice (some ⟨b0, off, none⟩) nn nc) ∧ u.cell? ⟨b0, off + p * 2 + 1, none⟩ = some (.slice hA hh hcc) ∧ u.cell? ⟨b0, off + q * 2 + 1, none⟩ = some (.slice hA' hh' hcc') ∧ Hid (Mid w u (w.heap.size) (w.heap.size + 1) g #[.slice (some ⟨b0, off, none⟩) nn nc, .slice eA en ec, .int .i64 x, .int .i64 y] #[.slice none 0 0, .slice none 0 0, .int .i64 0, .int .i64 0] #[.slice (some ⟨gN, 0, none⟩) on oc, .slice pA pn pc, .int .i64 x1, .int .i64 y1])) u) := fun u hu => ⟨(bx_all hu.out.out).1 0, (bx_all hu.out.arg).1 0, (hu.out.bel.cell (p := ⟨b0, _, none⟩) HB0.out).trans HD.out, (hu.out.bel.cell (p := ⟨b0, _, none⟩) HB0.out).trans HD'.out, hu⟩
        go_region_held3 (fun u => u.cell? ⟨g, 0, none⟩ = some (.slice (some ⟨gN, 0, none⟩) on oc) ∧ u.cell? ⟨w.heap.size, 0, none⟩ = some (.slice (some ⟨b0, off, none⟩) nn nc) ∧ u.cell? ⟨b0, off + p * 2 + 1, none⟩ = some (.slice hA hh hcc) ∧ u.cell? ⟨b0, off + q * 2 + 1, none⟩ = some (.slice hA' hh' hcc') ∧ Hid (Mid w u (w.heap.size) (w.heap.size + 1) g #[.slice (some ⟨b0, off, none⟩) nn nc, .slice eA en ec, .int .i64 x, .int .i64 y] #[.slice none 0 0, .slice none 0 0, .int .i64 0, .int .i64 0] #[.slice (some ⟨gN, 0, none⟩) on oc, .slice pA pn pc, .int .i64 x1, .int .i64 y1])) (first | exact RD.out _ M0 | exact RD.out _ M5 | exact RD.out _ (by assumption))
          ((go_at_call 100; refine (joined_any hA hh hcc (G.N.getD p (0, [])).2 hA' hh' hcc' (G.N.getD q (0, [])).2 X.drew ((HPX.out.below D0.out (Nat.le_refl _)).more D0.out.size) ((HPX'.out.below D0.out (Nat.le_refl _)).more D0.out.size) (by omega)).mono ?_; rintro r' u4 ⟨⟨A4, n4, c4⟩, rfl, l, hpm, hso, hr4, hu4⟩; have LAY := hide (laid_call MX.out OX.out hpo hr4.out hu4.out); obtain ⟨M4, R4, O4, y4, f4, M5⟩ := LAY.out; clear hr4 hu4))
        clear RD D0 M0
        have HLM : Hid (l = M) := hl.out l (by rw [HRW.out, HRW'.out]; exact hpm.out) hso.out
        have OS := hide (O4.out.setP (by have h2 := LN.out; omega : p < G.N.length) R4.out)
        have HG : Hid (setN G p l = setN G (posN G a) M) := by show _ = _; rw [HPp.out, HLM.out]
        generalize u4.setCell ⟨gN, p * 2 + 1, none⟩ (.slice A4 n4 c4) = V at M5 OS ⊢
        obtain ⟨cg, fg, lg⟩ := bx_all M5.out.out
        clear M4 R4 O4 LAY y4 f4 OX MX HP HP' HPX HPX' HD HD' HB0 hpm hso
        have BV := hide M5.out.bel
        have Harg : Hid (V.heap[w.heap.size]? = some (.cells #[.slice (some ⟨b0, off, none⟩) nn nc, .slice eA en ec, .int .i64 x, .int .i64 y] 27 (0, 0))) := M5.out.arg
        have Hres : Hid (V.heap[w.heap.size + 1]? = some (.cells #[.slice none 0 0, .slice none 0 0, .int .i64 0, .int .i64 0] 27 (0, 0))) := M5.out.res
        have Hout : Hid (V.heap[g]? = some (.cells #[.slice (some ⟨gN, 0, none⟩) on oc, .slice pA pn pc, .int .i64 x1, .int .i64 y1] 27 (0, 0))) := M5.out.out
        have BW := BV
        clear BV M5
        go_wp2_with fail
        clear cg fg lg
        refine (without_any ⟨⟨some ⟨gN, 0, none⟩, on, oc⟩, ⟨pA, pn, pc⟩, x1, y1⟩ (setN G p l) _ w.heap.size b V OS.out BW.out.size hon).mono ?_
        rintro e u5 ⟨⟨A5, n5, c5⟩, rfl, L5, O5, hu5⟩
        have Harg := hide (bx_step Harg.out hu5.out)
        have Hres := hide (bx_step Hres.out hu5.out)
        have Hout := hide (bx_step Hout.out hu5.out)
        have BW := hide (BW.out.trans (hu5.out.mono BW.out.size))
        clear hu5 OS
        obtain ⟨cout, fout, lout⟩ := bx_all Hout.out
        have Parg := hide (bx_other (k := g) (i := 0) (x := .slice A5 n5 c5) Harg.out (by omega))
        have Pres := hide (bx_other (k := g) (i := 0) (x := .slice A5 n5 c5) Hres.out (by omega))
        have Pout := hide (heap_setCell_same u5 (g) 0 _ 27 (.slice A5 n5 c5) Hout.out)
        have O5 := hide (O5.out.cell Hout.out (by decide) (by decide) (by decide) 0 (.slice A5 n5 c5))
        have BV := hide (BW.out.setCell (p := ⟨g, 0, none⟩) (by dsimp only; omega) (.slice A5 n5 c5))
        obtain ⟨darg, earg, karg⟩ := bx_all Parg.out
        go_wp2_with fail
        clear cout fout lout darg earg karg
        clear Harg Hres Hout BW
        generalize u5.setCell ⟨g, 0, none⟩ (.slice A5 n5 c5) = V2 at Parg Pres Pout BV O5 ⊢
        have Harg : Hid (V2.heap[w.heap.size]? = some (.cells #[.slice (some ⟨b0, off, none⟩) nn nc, .slice eA en ec, .int .i64 x, .int .i64 y] 27 (0, 0))) := Parg.out
        have Hres : Hid (V2.heap[w.heap.size + 1]? = some (.cells #[.slice none 0 0, .slice none 0 0, .int .i64 0, .int .i64 0] 27 (0, 0))) := Pres.out
        have Hout : Hid (V2.heap[g]? = some (.cells #[.slice A5 n5 c5, .slice pA pn pc, .int .i64 x1, .int .i64 y1] 27 (0, 0))) := Pout.out
        have BW := BV
        clear BV Parg Pres Pout
        have SV := hide ((HSW.out.below BW.out (Nat.le_refl _)).more BW.out.size)
        refine (moved_any eA en ec G.E b a V2 SV.out.edges hen).mono ?_
        clear SV
        rintro e u6 ⟨A6, n6, c6, rfl, hA6, hr6, hu6⟩
        have R6 := hide (own_less hr6 BW.out.size)
        have Harg := hide (bx_step Harg.out hu6)
        have Hres := hide (bx_step Hres.out hu6)
        have Hout := hide (bx_step Hout.out hu6)
        have O5 := hide (O5.out.step hu6)
        have BW := hide (BW.out.trans (hu6.mono BW.out.size))
        clear hr6 hu6
        have OE := hide (O5.out.edges R6.out)
        obtain ⟨cout, fout, lout⟩ := bx_all Hout.out
        have Parg := hide (bx_other (k := g) (i := 1) (x := .slice A6 n6 c6) Harg.out (by omega))
        have Pres := hide (bx_other (k := g) (i := 1) (x := .slice A6 n6 c6) Hres.out (by omega))
        have Pout := hide (heap_setCell_same u6 (g) 1 _ 27 (.slice A6 n6 c6) Hout.out)
        have OE := hide (OE.out.cell Hout.out (by decide) (by decide) (by decide) 1 (.slice A6 n6 c6))
        have BV := hide (BW.out.setCell (p := ⟨g, 1, none⟩) (by dsimp only; omega) (.slice A6 n6 c6))
        obtain ⟨dout, eout, kout⟩ := bx_all Pout.out
        obtain ⟨dres, eres, kres⟩ := bx_all Pres.out
        have HF := hide (fin4 OE.out Pres.out BV.out (by omega))
        have HG2 : Hid ((⟨(setN G p l).N.filter fun d => d.1 != b, G.E.map (mvE b a), (setN G p l).x, (setN G p l).y⟩ : GL) = fuseG a b M G) := by show _ = _; rw [HG.out]; rfl
        clear Hout Harg Hres BW O5
        go_wp2
        exact bodyPost_ret (row_two rfl _ _ (w.heap.size + 1) 27 _ (0, 0) _ rfl HF.out.1 Tryz.underlying27 rfl size27) rfl ⟨⟨⟨A5, n5, c5⟩, ⟨A6, n6, c6⟩, x1, y1⟩, rfl, ⟨_, by have := HF.out.2.1; rw [HG2.out] at this; exact this⟩, HF.out.2.2⟩

end Go.Proofs.YtiiadkjiofkonaaGreat
