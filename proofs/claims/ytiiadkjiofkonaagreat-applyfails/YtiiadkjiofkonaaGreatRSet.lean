/- A property set: the document's answer. -/
import Derived.Test.YtiiadkjiofkonaaGreatRLaws
import Derived.Test.YtiiadkjiofkonaaGreatRPut
import Derived.Test.YtiiadkjiofkonaaGreatGLink
import Derived.Test.YtiiadkjiofkonaaGreatGSet
import Derived.Test.YtiiadkjiofkonaaGreatGNear
import Derived.WalkKit
import Derived.Below
import Derived.Deep.QuietTactic
import Derived.BigQuiet
import Derived.Deep.AppendLies
import Derived.Deep.RegionHeld3
import Derived.Deep.DeepCutAuto
import Derived.Shelf.Abstract
namespace Go.Proofs.YtiiadkjiofkonaaGreat
open Go.RowKit
set_option linter.unusedVariables false

set_option maxRecDepth 100000 in
set_option maxHeartbeats 4000000 in
theorem rset_any (v : Gv) (G R : GL) (a ky vl er : Int) (w : World) (S : Sees w w.heap.size v G) (HS : Small G) (hr : Hid (setR G a ky vl = (er, R))) :
    Calls Tryz.prog 35 #[v.val, .int .i64 a, .int .i64 ky, .int .i64 vl] w fun e w' => ∃ v', e = .returned (.tuple #[Gv.val v', .int .i64 er]) ∧ Hid (Mine w w' v' R) ∧ Hid (Below w.heap.size w w') := by
  obtain ⟨i0, hi0, hz0, hz1, hz2⟩ := info_parts info80
  have H1 := hide hi0
  have H2 := hide hz0
  have H3 := hide hz1
  have H4 := hide hz2
  clear hi0 hz0 hz1 hz2
  obtain ⟨⟨nA, nn, nc⟩, ⟨eA, en, ec⟩, x, y⟩ := v
  show Calls Tryz.prog 35 #[.agg #[.slice nA nn nc, .slice eA en ec, .int .i64 x, .int .i64 y], .int .i64 a, .int .i64 ky, .int .i64 vl] w _
  have SW := hide S
  have HSM := hide HS
  have ln := S.nodes.1
  have le := edges_len S.edges
  dsimp only at ln le
  have hnn : nn ≤ 1000 := by have := HS.n; omega
  have hen : en ≤ 1000 := by have := HS.e; omega
  have LE := hide le
  clear S HS ln le
  obtain ⟨W, hW⟩ : ∃ W, Hid ((w.alloc (.cells #[.slice nA nn nc, .slice eA en ec, .int .i64 x, .int .i64 y] 27)).alloc (.cells #[.slice none 0 0, .slice none 0 0, .int .i64 0, .int .i64 0] 27) = W) := ⟨_, rfl⟩
  have BW : Hid (Below w.heap.size w W) := by show Below _ _ _; rw [← hW.out]; exact boxed2 w _ _
  have HA : Hid (W.heap[w.heap.size]? = some (.cells #[.slice nA nn nc, .slice eA en ec, .int .i64 x, .int .i64 y] 27 (0, 0))) := by show _ = _; rw [← hW.out]; exact heap_alloc2_old w _ _
  have HR : Hid (W.heap[w.heap.size + 1]? = some (.cells #[.slice none 0 0, .slice none 0 0, .int .i64 0, .int .i64 0] 27 (0, 0))) := by show _ = _; rw [← hW.out]; exact heap_alloc2_new w _ _
  go_enter Tryz.func35, Tryz.ntmps35
  go_wp2_with fail
  have hW' := hW.out
  rw [hW']
  clear hW hW'
  obtain ⟨r, Hr0⟩ : ∃ r, Hid (atI G.N a = r) := ⟨_, rfl⟩
  have Hr : Hid (atf (fun z : Nd => z.1) G.N a = r) := by show _ = _; rw [← atI_eq]; exact Hr0.out
  refine (at_any ⟨⟨nA, nn, nc⟩, ⟨eA, en, ec⟩, x, y⟩ G a r _ ((SW.out.below BW.out (Nat.le_refl _)).more BW.out.size) (by dsimp only; omega) Hr0).mono ?_
  rintro e u1 ⟨rfl, hb1⟩
  have HA := hide (bx_step HA.out hb1)
  have HR := hide (bx_step HR.out hb1)
  have BW := hide (BW.out.trans (hb1.mono BW.out.size))
  clear hb1 Hr0
  by_cases t : r < 0
  · have t1 : decide (r < 0) = true := by simpa using t
    have HRR : Hid ((2, noG) = (er, R)) := by show _ = _; rw [← hr.out]; exact (setR_none (by rw [Hr.out]; exact t)).symm
    obtain ⟨rfl, rfl⟩ : 2 = er ∧ noG = R := by have := HRR.out; simp only [Prod.mk.injEq] at this; exact this
    clear HRR
    clear t
    have HF := hide (fin4 (Own.none _ w.heap.size) HR.out BW.out (by omega))
    obtain ⟨cr, fr, lr⟩ := bx_all HR.out
    go_wp2
    exact bodyPost_ret (row_two rfl _ _ (w.heap.size + 1) 27 _ (0, 0) _ rfl HF.out.1 Tryz.underlying27 rfl size27) rfl ⟨noGv, rfl, ⟨_, HF.out.2.1⟩, HF.out.2.2⟩
  · have t1 : decide (r < 0) = false := by simpa using t
    have HRR : Hid ((0, setN G (posN G a) (putP (prsAt G (posN G a)) ky vl)) = (er, R)) := by show _ = _; rw [← hr.out]; exact (setR_ok (by rw [Hr.out]; exact t)).symm
    obtain ⟨rfl, rfl⟩ : 0 = er ∧ setN G (posN G a) (putP (prsAt G (posN G a)) ky vl) = R := by have := HRR.out; simp only [Prod.mk.injEq] at this; exact this
    clear HRR
    obtain ⟨p, hp0, hp1, hp2⟩ := atf_pos (f := fun z : Nd => z.1) Hr.out t
    subst hp0
    have HPp : Hid (posN G a = p) := hp2
    have HPL : Hid (p < G.N.length) := hp1
    clear hp2 hp1
    clear t hr
    obtain ⟨ca, -, la⟩ := bx_all HA.out
    go_wp2_with fail
    clear ca la
    refine (copy_any ⟨⟨nA, nn, nc⟩, ⟨eA, en, ec⟩, x, y⟩ G _ ((SW.out.below BW.out (Nat.le_refl _)).more BW.out.size) hnn hen (fun j hj => by have := HSM.out.p j hj; omega)).mono ?_
    rintro e u2 ⟨⟨⟨oA, on, oc⟩, ⟨pA, pn, pc⟩, x1, y1⟩, LL, rfl, O1, B1⟩
    have OU := hide (O1.out.less BW.out.size)
    have HA := hide (bx_step HA.out B1.out)
    have HR := hide (bx_step HR.out B1.out)
    have BW := hide (BW.out.trans (B1.out.mono BW.out.size))
    clear O1 B1
    have hpo : p < on := by have h1 : on = G.N.length := OU.out.many; have h2 := HPL.out; omega
    have hon : on ≤ 1000 := by have h1 : on = G.N.length := OU.out.many; have := HSM.out.n; omega
    have jo : (p : Int) < (on : Int) := by omega
    have ip : (0 : Int) ≤ (p : Int) := by omega
    obtain ⟨gN, eN⟩ : ∃ gN, oA = some ⟨gN, 0, none⟩ := by obtain ⟨g, e, _⟩ := OU.out.at_ (k := p) hpo; exact ⟨g, e⟩
    subst eN
    obtain ⟨X, hX⟩ : ∃ X, Hid (u2.alloc (.cells #[.slice (some ⟨gN, 0, none⟩) on oc, .slice pA pn pc, .int .i64 x1, .int .i64 y1] 27) = X) := ⟨_, rfl⟩
    obtain ⟨g, hg⟩ : ∃ g, Hid (u2.heap.size = g) := ⟨_, rfl⟩
    have BXX : Hid (Below u2.heap.size u2 X) := by show Below _ _ _; rw [← hX.out]; exact (Below.refl _ _).alloc (Nat.le_refl _) _
    have MX : Hid (Mid w X (w.heap.size) (w.heap.size + 1) g #[.slice nA nn nc, .slice eA en ec, .int .i64 x, .int .i64 y] #[.slice none 0 0, .slice none 0 0, .int .i64 0, .int .i64 0] #[.slice (some ⟨gN, 0, none⟩) on oc, .slice pA pn pc, .int .i64 x1, .int .i64 y1]) := ⟨BW.out.trans (BXX.out.mono BW.out.size), bx_step HA.out BXX.out, bx_step HR.out BXX.out, by rw [← hX.out, ← hg.out]; exact heap_alloc_new _ _⟩
    have OX := hide (OU.out.step BXX.out)
    go_upto_region 5 with fail
    have hX' := hX.out
    have hg' := hg.out
    rw [hX', hg']
    clear hX hg hX' hg' BXX HA HR BW OU
    obtain ⟨⟨hA, hh, hcc⟩, hHS⟩ : ∃ s, Hid ((LL.getD p (0, noSl)).2 = s) := ⟨_, rfl⟩
    have HGL : Hid (p < G.N.length) := HPL
    have PR : Hid (X.ownsRow w.heap.size 83 2 (.slice hA hh hcc) hh (ints (flat2 (G.N.getD p (0, [])).2))) := by
      have h1 := OX.out.prs p HGL.out
      rw [hHS.out] at h1
      exact h1
    have PP : Hid (Props X X.heap.size ⟨hA, hh, hcc⟩ (G.N.getD p (0, [])).2) := ⟨own_nums PR.out, own_nil_cap PR.out⟩
    have hhb : hh ≤ 300 := by have := HSM.out.p p HGL.out; have := PP.out.len; dsimp only at this; omega
    have D0 := hide ((Below.refl X.heap.size X).drew)
    have M0 := hide (MX.out.step D0.out)
    have O0 := hide (OX.out.step D0.out)
    obtain ⟨y0, -, l0, -⟩ := O0.out.cellAt rfl hpo
    have hHS' := hHS.out
    rw [hHS'] at y0
    clear hHS'
    have CP := hide (rput_any hA hh hcc (G.N.getD p (0, [])).2 ky vl X.drew ((PP.out.below D0.out (Nat.le_refl _)).more D0.out.size).1 (by omega))
    obtain ⟨cg, fg, lg⟩ := bx_all M0.out.out
    go_region_with ((go_at_call 76; refine CP.out.mono ?_; rintro r' u4 ⟨A4, n4, c4, rfl, hA4, hr4, hu4⟩; have LAY := hide (laid_call MX.out OX.out hpo hr4 hu4); obtain ⟨M4, R4, O4, y4, f4, M5⟩ := LAY.out; obtain ⟨q0, qf, ql⟩ := bx_all M4.out.out; have l4 := (O4.out.cellAt rfl hpo).2.2.1; clear hr4 hu4))
    all_goals
      have OS := hide (O4.out.setP HGL.out R4.out)
      have HG : Hid (setN G p (putP (G.N.getD p (0, [])).2 ky vl) = setN G (posN G a) (putP (prsAt G (posN G a)) ky vl)) := by show _ = _; rw [HPp.out]; rfl
      clear y0 l0 cg fg lg q0 qf ql y4 f4 l4 CP
      generalize u4.setCell ⟨gN, p * 2 + 1, none⟩ (.slice A4 n4 c4) = V at M5 OS ⊢
      obtain ⟨cg, fg, lg⟩ := bx_all M5.out.out
      obtain ⟨cr, fr, lr⟩ := bx_all M5.out.res
      have HF := hide (fin4 OS.out M5.out.res M5.out.bel (by omega))
      clear M4 R4 O4 LAY M5 OS OX MX PR PP M0 O0
      go_wp2
      exact bodyPost_ret (row_two rfl _ _ (w.heap.size + 1) 27 _ (0, 0) _ rfl HF.out.1 Tryz.underlying27 rfl size27) rfl ⟨⟨⟨some ⟨gN, 0, none⟩, on, oc⟩, ⟨pA, pn, pc⟩, x1, y1⟩, rfl, ⟨_, by have := HF.out.2.1; rw [HG.out] at this; exact this⟩, HF.out.2.2⟩

end Go.Proofs.YtiiadkjiofkonaaGreat
