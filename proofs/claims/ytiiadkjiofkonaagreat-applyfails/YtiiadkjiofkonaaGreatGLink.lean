/- An edge added: the code and the document's answer. -/
import Derived.Test.YtiiadkjiofkonaaGreatCFin
import Derived.Test.YtiiadkjiofkonaaGreatGFind
import Derived.Test.YtiiadkjiofkonaaGreatGCopy
import Derived.WalkKit
import Derived.Below
import Derived.Deep.QuietTactic
import Derived.BigQuiet
import Derived.Shelf.Abstract
namespace Go.Proofs.YtiiadkjiofkonaaGreat
open Go.RowKit
set_option linter.unusedVariables false

def linkR (ids : Int) (G : GL) (a b : Int) : Int × Int × GL := if isN G a = false ∨ isN G b = false then (0, 2, noG) else if ids < G.y then (0, 4, noG) else (G.y, 0, linkG a b G)
theorem linkR_none {ids : Int} {G : GL} {a b : Int} (h : isN G a = false ∨ isN G b = false) : linkR ids G a b = (0, 2, noG) := if_pos h
theorem linkR_ids {ids : Int} {G : GL} {a b : Int} (ha : isN G a = true) (hb : isN G b = true) (h : ids < G.y) : linkR ids G a b = (0, 4, noG) := by unfold linkR; rw [if_neg (by simp [ha, hb]), if_pos h]
theorem linkR_ok {ids : Int} {G : GL} {a b : Int} (ha : isN G a = true) (hb : isN G b = true) (h : ¬ ids < G.y) : linkR ids G a b = (G.y, 0, linkG a b G) := by unfold linkR; rw [if_neg (by simp [ha, hb]), if_neg h]
theorem isN_at (G : GL) (n : Int) : isN G n = decide (0 ≤ atI G.N n) := rfl

set_option maxRecDepth 100000 in
set_option maxHeartbeats 4000000 in
theorem link_any (c0 c1 c2 c3 c4 : Int) (v : Gv) (G R : GL) (a b id er : Int) (w : World) (S : Sees w w.heap.size v G) (HS : Small G) (hr : Hid (linkR c4 G a b = (id, er, R))) :
    Calls Tryz.prog 57 #[.agg #[.int .i64 c0, .int .i64 c1, .int .i64 c2, .int .i64 c3, .int .i64 c4], v.val, .int .i64 a, .int .i64 b] w fun e w' => ∃ v', e = .returned (.tuple #[Gv.val v', .int .i64 id, .int .i64 er]) ∧ Hid (Mine w w' v' R) ∧ Hid (Below w.heap.size w w') := by
  obtain ⟨⟨nA, nn, nc⟩, ⟨eA, en, ec⟩, x, y⟩ := v
  show Calls Tryz.prog 57 #[.agg #[.int .i64 c0, .int .i64 c1, .int .i64 c2, .int .i64 c3, .int .i64 c4], .agg #[.slice nA nn nc, .slice eA en ec, .int .i64 x, .int .i64 y], .int .i64 a, .int .i64 b] w _
  obtain ⟨i0, hi0, hz0, hz1, hz2⟩ := info_parts info80
  have H1 := hide hi0
  have H2 := hide hz0
  have H3 := hide hz1
  have H4 := hide hz2
  clear hi0 hz0 hz1 hz2
  have SW := hide S
  have HSM := hide HS
  have ey := S.y
  have ln := S.nodes.1
  have le := edges_len S.edges
  have hb := HS.y
  dsimp only at ey ln le
  have hby : -1000000 ≤ y ∧ y ≤ 1000000 := by rw [ey]; exact hb
  have hnn : nn ≤ 1000 := by have := HS.n; omega
  have hen : en ≤ 1000 := by have := HS.e; omega
  have EY := hide ey
  clear S HS ey ln le hb
  obtain ⟨W, hW⟩ : ∃ W, Hid (((w.alloc (.cells #[.int .i64 c0, .int .i64 c1, .int .i64 c2, .int .i64 c3, .int .i64 c4] 23)).alloc (.cells #[.slice nA nn nc, .slice eA en ec, .int .i64 x, .int .i64 y] 27)).alloc (.cells #[.slice none 0 0, .slice none 0 0, .int .i64 0, .int .i64 0] 27) = W) := ⟨_, rfl⟩
  have BW : Hid (Below w.heap.size w W) := by show Below _ _ _; rw [← hW.out]; exact boxed3 w _ _ _
  have HZ : Hid (W.heap.size = w.heap.size + 3) := by show _ = _; rw [← hW.out]; simp
  have Hcfg : Hid (W.heap[w.heap.size]? = some (.cells #[.int .i64 c0, .int .i64 c1, .int .i64 c2, .int .i64 c3, .int .i64 c4] 23 (0, 0))) := by show _ = _; rw [← hW.out]; exact bx_alloc (heap_alloc2_old w _ _) _
  have Harg : Hid (W.heap[w.heap.size + 1]? = some (.cells #[.slice nA nn nc, .slice eA en ec, .int .i64 x, .int .i64 y] 27 (0, 0))) := by show _ = _; rw [← hW.out]; exact bx_alloc (heap_alloc2_new w _ _) _
  have Hres : Hid (W.heap[w.heap.size + 2]? = some (.cells #[.slice none 0 0, .slice none 0 0, .int .i64 0, .int .i64 0] 27 (0, 0))) := by show _ = _; rw [← hW.out]; exact heap_alloc3_new w _ _ _
  have SW := hide ((SW.out.below BW.out (Nat.le_refl _)).more BW.out.size)
  go_enter Tryz.func57, Tryz.ntmps57
  go_wp2_with fail
  have hW' := hW.out
  rw [hW']
  clear hW hW'
  obtain ⟨qa, Ha⟩ : ∃ q, Hid (isN G a = q) := ⟨_, rfl⟩
  refine (isNode_any ⟨⟨nA, nn, nc⟩, ⟨eA, en, ec⟩, x, y⟩ G a qa _ SW.out hnn Ha).mono ?_
  rintro e u1 ⟨rfl, hb1⟩
  have Hcfg := hide (bx_step Hcfg.out hb1)
  have Harg := hide (bx_step Harg.out hb1)
  have Hres := hide (bx_step Hres.out hb1)
  have SW := hide ((SW.out.below hb1 (Nat.le_refl _)).more (hb1).size)
  have BW := hide (BW.out.trans (hb1.mono BW.out.size))
  clear hb1
  obtain ⟨carg, farg, larg⟩ := bx_all Harg.out
  cases qa
  ·
    have HR : Hid ((0, 2, noG) = (id, er, R)) := by show _ = _; rw [← hr.out]; exact (linkR_none (.inl Ha.out)).symm
    obtain ⟨rfl, rfl, rfl⟩ : 0 = id ∧ 2 = er ∧ noG = R := by have := HR.out; simp only [Prod.mk.injEq] at this; exact this
    have HF := hide (fin4 (Own.none _ w.heap.size) Hres.out BW.out (by omega))
    clear carg farg larg
    obtain ⟨cres, fres, lres⟩ := bx_all Hres.out
    go_wp2
    exact bodyPost_ret (row_three rfl _ _ (w.heap.size + 2) 27 _ (0, 0) _ rfl HF.out.1 Tryz.underlying27 rfl size27) rfl ⟨noGv, rfl, ⟨_, HF.out.2.1⟩, HF.out.2.2⟩
  ·
    go_wp2_with fail
    obtain ⟨qb, Hb⟩ : ∃ q, Hid (isN G b = q) := ⟨_, rfl⟩
    refine (isNode_any ⟨⟨nA, nn, nc⟩, ⟨eA, en, ec⟩, x, y⟩ G b qb _ SW.out hnn Hb).mono ?_
    rintro e u2 ⟨rfl, hb1⟩
    clear carg farg larg
    have Hcfg := hide (bx_step Hcfg.out hb1)
    have Harg := hide (bx_step Harg.out hb1)
    have Hres := hide (bx_step Hres.out hb1)
    have SW := hide ((SW.out.below hb1 (Nat.le_refl _)).more (hb1).size)
    have BW := hide (BW.out.trans (hb1.mono BW.out.size))
    clear hb1
    obtain ⟨carg, farg, larg⟩ := bx_all Harg.out
    cases qb
    ·
      have HR : Hid ((0, 2, noG) = (id, er, R)) := by show _ = _; rw [← hr.out]; exact (linkR_none (.inr Hb.out)).symm
      obtain ⟨rfl, rfl, rfl⟩ : 0 = id ∧ 2 = er ∧ noG = R := by have := HR.out; simp only [Prod.mk.injEq] at this; exact this
      have HF := hide (fin4 (Own.none _ w.heap.size) Hres.out BW.out (by omega))
      clear carg farg larg
      obtain ⟨cres, fres, lres⟩ := bx_all Hres.out
      go_wp2
      exact bodyPost_ret (row_three rfl _ _ (w.heap.size + 2) 27 _ (0, 0) _ rfl HF.out.1 Tryz.underlying27 rfl size27) rfl ⟨noGv, rfl, ⟨_, HF.out.2.1⟩, HF.out.2.2⟩
    ·
      obtain ⟨ccfg, fcfg, lcfg⟩ := bx_all Hcfg.out
      by_cases t : c4 < y
      ·
        have t3 : decide (c4 < y) = true := by simpa using t
        have HR : Hid ((0, 4, noG) = (id, er, R)) := by show _ = _; rw [← hr.out]; exact (linkR_ids Ha.out Hb.out (by rw [← EY.out]; exact t)).symm
        obtain ⟨rfl, rfl, rfl⟩ : 0 = id ∧ 4 = er ∧ noG = R := by have := HR.out; simp only [Prod.mk.injEq] at this; exact this
        have HF := hide (fin4 (Own.none _ w.heap.size) Hres.out BW.out (by omega))
        obtain ⟨cres, fres, lres⟩ := bx_all Hres.out
        go_wp2
        exact bodyPost_ret (row_three rfl _ _ (w.heap.size + 2) 27 _ (0, 0) _ rfl HF.out.1 Tryz.underlying27 rfl size27) rfl ⟨noGv, rfl, ⟨_, HF.out.2.1⟩, HF.out.2.2⟩
      ·
        have t3 : decide (c4 < y) = false := by simpa using t
        have HR : Hid ((y, 0, linkG a b G) = (id, er, R)) := by show _ = _; rw [← hr.out, EY.out]; exact (linkR_ok Ha.out Hb.out (by rw [← EY.out]; exact t)).symm
        obtain ⟨rfl, rfl, rfl⟩ : y = id ∧ 0 = er ∧ linkG a b G = R := by have := HR.out; simp only [Prod.mk.injEq] at this; exact this
        clear t HR hr
        go_wp2_with fail
        refine (fresh_any ⟨⟨nA, nn, nc⟩, ⟨eA, en, ec⟩, x, y⟩ G _ SW.out hnn hen (fun j hj => by have := HSM.out.p j hj; omega)).mono ?_
        rintro e u3 ⟨⟨⟨oA, on, oc⟩, ⟨pA, pn, pc⟩, x1, y1⟩, L, rfl, O1, B1⟩
        have e1 : y1 = y := by have := O1.out.y; dsimp only at this; rw [this]; exact EY.out.symm
        subst e1
        have HX1 : Hid (x1 = G.x) := O1.out.x
        have hpn : pn ≤ 1000 := by have := edges_len (own_edges O1.out.edg); have := HSM.out.e; dsimp only at *; omega
        have OU := hide (O1.out.less BW.out.size)
        clear carg farg larg ccfg fcfg lcfg
        have Hcfg := hide (bx_step Hcfg.out B1.out)
        have Harg := hide (bx_step Harg.out B1.out)
        have Hres := hide (bx_step Hres.out B1.out)
        have SW := hide ((SW.out.below B1.out (Nat.le_refl _)).more (B1.out).size)
        have BW := hide (BW.out.trans (B1.out.mono BW.out.size))
        obtain ⟨carg, farg, larg⟩ := bx_all Harg.out
        obtain ⟨cres, fres, lres⟩ := bx_all Hres.out
        clear O1 B1
        go_wp2_with (at_builtin; refine wpList_append_own _ rfl _ _ 25 rfl w.heap.size 79 i0 (.agg #[.int .i64 0, .int .i64 0, .int .i64 0]) 3 24 Tryz.underlying25 H1.out H2.out H3.out H4.out rfl (by decide) _ pn _ rfl ((OU.out.edg.alloc _).alloc _) ⟨u3.heap.size + 1, 0, none⟩ 1 1 [.int .i64 y1, .int .i64 a, .int .i64 b] rfl rfl (cells_new _ _ _ _ (by simp)) (three_cells y1 a b) (by simp only [maxLen]; omega) (by omega) (by have := BW.out.size; simp; omega) ?_; intro v' w2 hown hg _; obtain ⟨A4, d4, rfl, hA4⟩ := own_form hown; have OX := hide ((OU.out.step ((Below.refl _ u3).alloc (Nat.le_refl _) (.cells #[.slice oA on oc, .slice pA pn pc, .int .i64 x1, .int .i64 y1] 27))).step ((Below.refl _ _).alloc (Nat.le_refl _) (.cells #[.int .i64 y1, .int .i64 a, .int .i64 b] 79))); have OA := hide (OX.out.appE (d := (y1, a, b)) hown hg); have m1 := hide (bx_grown (bx_alloc (bx_alloc Harg.out _) _) OX.out.edg hg (by decide)); have m2 := hide (bx_grown (bx_alloc (bx_alloc Hres.out _) _) OX.out.edg hg (by decide)); have m3 := hide (bx_grown (bx_alloc (heap_alloc_new u3 (.cells #[.slice oA on oc, .slice pA pn pc, .int .i64 x1, .int .i64 y1] 27)) _) OX.out.edg hg (by decide)); have BX := hide (((BW.out.alloc BW.out.size _).alloc (by have := BW.out.size; simp; omega) _).grown hg (by have := BW.out.size; simp; omega) (fun j ej => (OX.out.edg.lt j ej).1)); have hlt := lres; clear hown hg OX OU BW Hcfg Harg Hres carg farg larg cres fres lres; obtain ⟨c3', f3', l3'⟩ := bx_all m3.out; obtain ⟨g, hg⟩ : ∃ g, u3.heap.size = g := ⟨_, rfl⟩; rw [hg] at m3 c3' f3' l3' hlt ⊢)
        have q3 := hide (heap_setCell_same _ g 3 _ 27 (.int .i64 (y1 + 1)) (heap_setCell_same w2 g 1 _ 27 (.slice A4 (pn + 1) d4) m3.out))
        have q1 := hide (bx_other (k := g) (i := 3) (x := (.int .i64 (y1 + 1))) (bx_other (k := g) (i := 1) (x := (.slice A4 (pn + 1) d4)) m1.out (by omega)) (by omega))
        have q2 := hide (bx_other (k := g) (i := 3) (x := (.int .i64 (y1 + 1))) (bx_other (k := g) (i := 1) (x := (.slice A4 (pn + 1) d4)) m2.out (by omega)) (by omega))
        have OV := hide (((OA.out.cell m3.out (by decide) (by decide) (by decide) 1 (.slice A4 (pn + 1) d4)).cell (heap_setCell_same w2 g 1 _ 27 (.slice A4 (pn + 1) d4) m3.out) (by decide) (by decide) (by decide) 3 (.int .i64 (y1 + 1))).nums x1 (y1 + 1))
        have BV := hide ((BX.out.setCell (p := ⟨g, 1, none⟩) (by dsimp only; omega) (.slice A4 (pn + 1) d4)).setCell (p := ⟨g, 3, none⟩) (by dsimp only; omega) (.int .i64 (y1 + 1)))
        clear m1 m2 m3 OA BX c3' f3' l3'
        generalize (w2.setCell ⟨g, 1, none⟩ (.slice A4 (pn + 1) d4)).setCell ⟨g, 3, none⟩ (.int .i64 (y1 + 1)) = V at q1 q2 q3 OV BV ⊢
        obtain ⟨c3', f3', l3'⟩ := bx_all q3.out
        obtain ⟨c1', f1', l1'⟩ := bx_all q1.out
        obtain ⟨c2', f2', l2'⟩ := bx_all q2.out
        have HF := hide (fin4 OV.out q2.out BV.out (by omega))
        have HG : Hid ((⟨G.N, G.E ++ [(y1, a, b)], x1, y1 + 1⟩ : GL) = linkG a b G) := by show _ = _; unfold linkG; rw [HX1.out, ← EY.out]
        clear q1 q2 q3 OV BV EY
        go_region
        all_goals
          go_wp2
          exact bodyPost_ret (row_three rfl _ _ (w.heap.size + 2) 27 _ (0, 0) _ rfl HF.out.1 Tryz.underlying27 rfl size27) rfl ⟨⟨⟨oA, on, oc⟩, ⟨A4, pn + 1, d4⟩, x1, y1 + 1⟩, rfl, ⟨_, by have := HF.out.2.1; rw [HG.out] at this; exact this.step ((Below.refl _ _).drew)⟩, HF.out.2.2.drew⟩

set_option maxRecDepth 100000 in
set_option maxHeartbeats 4000000 in
theorem rlink_any (c0 c1 c2 c3 c4 : Int) (v : Gv) (G R : GL) (a b id er : Int) (w : World) (S : Sees w w.heap.size v G) (HS : Small G) (hr : Hid (linkR c4 G a b = (id, er, R))) :
    Calls Tryz.prog 33 #[.agg #[.int .i64 c0, .int .i64 c1, .int .i64 c2, .int .i64 c3, .int .i64 c4], v.val, .int .i64 a, .int .i64 b] w fun e w' => ∃ v', e = .returned (.tuple #[Gv.val v', .int .i64 id, .int .i64 er]) ∧ Hid (Mine w w' v' R) ∧ Hid (Below w.heap.size w w') := by
  obtain ⟨⟨nA, nn, nc⟩, ⟨eA, en, ec⟩, x, y⟩ := v
  show Calls Tryz.prog 33 #[.agg #[.int .i64 c0, .int .i64 c1, .int .i64 c2, .int .i64 c3, .int .i64 c4], .agg #[.slice nA nn nc, .slice eA en ec, .int .i64 x, .int .i64 y], .int .i64 a, .int .i64 b] w _
  obtain ⟨i0, hi0, hz0, hz1, hz2⟩ := info_parts info80
  have H1 := hide hi0
  have H2 := hide hz0
  have H3 := hide hz1
  have H4 := hide hz2
  clear hi0 hz0 hz1 hz2
  have SW := hide S
  have HSM := hide HS
  have ey := S.y
  have ln := S.nodes.1
  have le := edges_len S.edges
  have hb := HS.y
  dsimp only at ey ln le
  have hby : -1000000 ≤ y ∧ y ≤ 1000000 := by rw [ey]; exact hb
  have hnn : nn ≤ 1000 := by have := HS.n; omega
  have hen : en ≤ 1000 := by have := HS.e; omega
  have EY := hide ey
  clear S HS ey ln le hb
  obtain ⟨W, hW⟩ : ∃ W, Hid (((w.alloc (.cells #[.int .i64 c0, .int .i64 c1, .int .i64 c2, .int .i64 c3, .int .i64 c4] 23)).alloc (.cells #[.slice nA nn nc, .slice eA en ec, .int .i64 x, .int .i64 y] 27)).alloc (.cells #[.slice none 0 0, .slice none 0 0, .int .i64 0, .int .i64 0] 27) = W) := ⟨_, rfl⟩
  have BW : Hid (Below w.heap.size w W) := by show Below _ _ _; rw [← hW.out]; exact boxed3 w _ _ _
  have HZ : Hid (W.heap.size = w.heap.size + 3) := by show _ = _; rw [← hW.out]; simp
  have Hcfg : Hid (W.heap[w.heap.size]? = some (.cells #[.int .i64 c0, .int .i64 c1, .int .i64 c2, .int .i64 c3, .int .i64 c4] 23 (0, 0))) := by show _ = _; rw [← hW.out]; exact bx_alloc (heap_alloc2_old w _ _) _
  have Harg : Hid (W.heap[w.heap.size + 1]? = some (.cells #[.slice nA nn nc, .slice eA en ec, .int .i64 x, .int .i64 y] 27 (0, 0))) := by show _ = _; rw [← hW.out]; exact bx_alloc (heap_alloc2_new w _ _) _
  have Hres : Hid (W.heap[w.heap.size + 2]? = some (.cells #[.slice none 0 0, .slice none 0 0, .int .i64 0, .int .i64 0] 27 (0, 0))) := by show _ = _; rw [← hW.out]; exact heap_alloc3_new w _ _ _
  have SW := hide ((SW.out.below BW.out (Nat.le_refl _)).more BW.out.size)
  go_enter Tryz.func33, Tryz.ntmps33
  go_wp2_with fail
  have hW' := hW.out
  rw [hW']
  clear hW hW'
  obtain ⟨qa, Ha⟩ : ∃ q, Hid (atI G.N a = q) := ⟨_, rfl⟩
  refine (at_any ⟨⟨nA, nn, nc⟩, ⟨eA, en, ec⟩, x, y⟩ G a qa _ SW.out (by dsimp only; omega) Ha).mono ?_
  rintro e u1 ⟨rfl, hb1⟩
  have Hcfg := hide (bx_step Hcfg.out hb1)
  have Harg := hide (bx_step Harg.out hb1)
  have Hres := hide (bx_step Hres.out hb1)
  have SW := hide ((SW.out.below hb1 (Nat.le_refl _)).more (hb1).size)
  have BW := hide (BW.out.trans (hb1.mono BW.out.size))
  clear hb1
  obtain ⟨carg, farg, larg⟩ := bx_all Harg.out
  by_cases hqa : qa < 0
  ·
    have t1 : decide (qa < 0) = true := by simpa using hqa
    have HR : Hid ((0, 2, noG) = (id, er, R)) := by show _ = _; rw [← hr.out]; exact (linkR_none (.inl (by rw [isN_at, Ha.out]; simpa using hqa))).symm
    obtain ⟨rfl, rfl, rfl⟩ : 0 = id ∧ 2 = er ∧ noG = R := by have := HR.out; simp only [Prod.mk.injEq] at this; exact this
    have HF := hide (fin4 (Own.none _ w.heap.size) Hres.out BW.out (by omega))
    clear carg farg larg
    obtain ⟨cres, fres, lres⟩ := bx_all Hres.out
    go_wp2
    exact bodyPost_ret (row_three rfl _ _ (w.heap.size + 2) 27 _ (0, 0) _ rfl HF.out.1 Tryz.underlying27 rfl size27) rfl ⟨noGv, rfl, ⟨_, HF.out.2.1⟩, HF.out.2.2⟩
  ·
    have t1 : decide (qa < 0) = false := by simpa using hqa
    go_wp2_with fail
    obtain ⟨qb, Hb⟩ : ∃ q, Hid (atI G.N b = q) := ⟨_, rfl⟩
    refine (at_any ⟨⟨nA, nn, nc⟩, ⟨eA, en, ec⟩, x, y⟩ G b qb _ SW.out (by dsimp only; omega) Hb).mono ?_
    rintro e u2 ⟨rfl, hb1⟩
    clear carg farg larg
    have Hcfg := hide (bx_step Hcfg.out hb1)
    have Harg := hide (bx_step Harg.out hb1)
    have Hres := hide (bx_step Hres.out hb1)
    have SW := hide ((SW.out.below hb1 (Nat.le_refl _)).more (hb1).size)
    have BW := hide (BW.out.trans (hb1.mono BW.out.size))
    clear hb1
    obtain ⟨carg, farg, larg⟩ := bx_all Harg.out
    by_cases hqb : qb < 0
    ·
      have t2 : decide (qb < 0) = true := by simpa using hqb
      have HR : Hid ((0, 2, noG) = (id, er, R)) := by show _ = _; rw [← hr.out]; exact (linkR_none (.inr (by rw [isN_at, Hb.out]; simpa using hqb))).symm
      obtain ⟨rfl, rfl, rfl⟩ : 0 = id ∧ 2 = er ∧ noG = R := by have := HR.out; simp only [Prod.mk.injEq] at this; exact this
      have HF := hide (fin4 (Own.none _ w.heap.size) Hres.out BW.out (by omega))
      clear carg farg larg
      obtain ⟨cres, fres, lres⟩ := bx_all Hres.out
      go_wp2
      exact bodyPost_ret (row_three rfl _ _ (w.heap.size + 2) 27 _ (0, 0) _ rfl HF.out.1 Tryz.underlying27 rfl size27) rfl ⟨noGv, rfl, ⟨_, HF.out.2.1⟩, HF.out.2.2⟩
    ·
      have t2 : decide (qb < 0) = false := by simpa using hqb
      obtain ⟨ccfg, fcfg, lcfg⟩ := bx_all Hcfg.out
      by_cases t : c4 < y
      ·
        have t3 : decide (c4 < y) = true := by simpa using t
        have HR : Hid ((0, 4, noG) = (id, er, R)) := by show _ = _; rw [← hr.out]; exact (linkR_ids (by rw [isN_at, Ha.out]; simpa using hqa) (by rw [isN_at, Hb.out]; simpa using hqb) (by rw [← EY.out]; exact t)).symm
        obtain ⟨rfl, rfl, rfl⟩ : 0 = id ∧ 4 = er ∧ noG = R := by have := HR.out; simp only [Prod.mk.injEq] at this; exact this
        have HF := hide (fin4 (Own.none _ w.heap.size) Hres.out BW.out (by omega))
        obtain ⟨cres, fres, lres⟩ := bx_all Hres.out
        go_wp2
        exact bodyPost_ret (row_three rfl _ _ (w.heap.size + 2) 27 _ (0, 0) _ rfl HF.out.1 Tryz.underlying27 rfl size27) rfl ⟨noGv, rfl, ⟨_, HF.out.2.1⟩, HF.out.2.2⟩
      ·
        have t3 : decide (c4 < y) = false := by simpa using t
        have HR : Hid ((y, 0, linkG a b G) = (id, er, R)) := by show _ = _; rw [← hr.out, EY.out]; exact (linkR_ok (by rw [isN_at, Ha.out]; simpa using hqa) (by rw [isN_at, Hb.out]; simpa using hqb) (by rw [← EY.out]; exact t)).symm
        obtain ⟨rfl, rfl, rfl⟩ : y = id ∧ 0 = er ∧ linkG a b G = R := by have := HR.out; simp only [Prod.mk.injEq] at this; exact this
        clear t HR hr
        go_wp2_with fail
        refine (copy_any ⟨⟨nA, nn, nc⟩, ⟨eA, en, ec⟩, x, y⟩ G _ SW.out hnn hen (fun j hj => by have := HSM.out.p j hj; omega)).mono ?_
        rintro e u3 ⟨⟨⟨oA, on, oc⟩, ⟨pA, pn, pc⟩, x1, y1⟩, L, rfl, O1, B1⟩
        have e1 : y1 = y := by have := O1.out.y; dsimp only at this; rw [this]; exact EY.out.symm
        subst e1
        have HX1 : Hid (x1 = G.x) := O1.out.x
        have hpn : pn ≤ 1000 := by have := edges_len (own_edges O1.out.edg); have := HSM.out.e; dsimp only at *; omega
        have OU := hide (O1.out.less BW.out.size)
        clear carg farg larg ccfg fcfg lcfg
        have Hcfg := hide (bx_step Hcfg.out B1.out)
        have Harg := hide (bx_step Harg.out B1.out)
        have Hres := hide (bx_step Hres.out B1.out)
        have SW := hide ((SW.out.below B1.out (Nat.le_refl _)).more (B1.out).size)
        have BW := hide (BW.out.trans (B1.out.mono BW.out.size))
        obtain ⟨carg, farg, larg⟩ := bx_all Harg.out
        obtain ⟨cres, fres, lres⟩ := bx_all Hres.out
        clear O1 B1
        go_wp2_with (at_builtin; refine wpList_append_own _ rfl _ _ 25 rfl w.heap.size 79 i0 (.agg #[.int .i64 0, .int .i64 0, .int .i64 0]) 3 24 Tryz.underlying25 H1.out H2.out H3.out H4.out rfl (by decide) _ pn _ rfl ((OU.out.edg.alloc _).alloc _) ⟨u3.heap.size + 1, 0, none⟩ 1 1 [.int .i64 y1, .int .i64 a, .int .i64 b] rfl rfl (cells_new _ _ _ _ (by simp)) (three_cells y1 a b) (by simp only [maxLen]; omega) (by omega) (by have := BW.out.size; simp; omega) ?_; intro v' w2 hown hg _; obtain ⟨A4, d4, rfl, hA4⟩ := own_form hown; have OX := hide ((OU.out.step ((Below.refl _ u3).alloc (Nat.le_refl _) (.cells #[.slice oA on oc, .slice pA pn pc, .int .i64 x1, .int .i64 y1] 27))).step ((Below.refl _ _).alloc (Nat.le_refl _) (.cells #[.int .i64 y1, .int .i64 a, .int .i64 b] 79))); have OA := hide (OX.out.appE (d := (y1, a, b)) hown hg); have m1 := hide (bx_grown (bx_alloc (bx_alloc Harg.out _) _) OX.out.edg hg (by decide)); have m2 := hide (bx_grown (bx_alloc (bx_alloc Hres.out _) _) OX.out.edg hg (by decide)); have m3 := hide (bx_grown (bx_alloc (heap_alloc_new u3 (.cells #[.slice oA on oc, .slice pA pn pc, .int .i64 x1, .int .i64 y1] 27)) _) OX.out.edg hg (by decide)); have BX := hide (((BW.out.alloc BW.out.size _).alloc (by have := BW.out.size; simp; omega) _).grown hg (by have := BW.out.size; simp; omega) (fun j ej => (OX.out.edg.lt j ej).1)); have hlt := lres; clear hown hg OX OU BW Hcfg Harg Hres carg farg larg cres fres lres; obtain ⟨c3', f3', l3'⟩ := bx_all m3.out; obtain ⟨g, hg⟩ : ∃ g, u3.heap.size = g := ⟨_, rfl⟩; rw [hg] at m3 c3' f3' l3' hlt ⊢)
        have q3 := hide (heap_setCell_same _ g 3 _ 27 (.int .i64 (y1 + 1)) (heap_setCell_same w2 g 1 _ 27 (.slice A4 (pn + 1) d4) m3.out))
        have q1 := hide (bx_other (k := g) (i := 3) (x := (.int .i64 (y1 + 1))) (bx_other (k := g) (i := 1) (x := (.slice A4 (pn + 1) d4)) m1.out (by omega)) (by omega))
        have q2 := hide (bx_other (k := g) (i := 3) (x := (.int .i64 (y1 + 1))) (bx_other (k := g) (i := 1) (x := (.slice A4 (pn + 1) d4)) m2.out (by omega)) (by omega))
        have OV := hide (((OA.out.cell m3.out (by decide) (by decide) (by decide) 1 (.slice A4 (pn + 1) d4)).cell (heap_setCell_same w2 g 1 _ 27 (.slice A4 (pn + 1) d4) m3.out) (by decide) (by decide) (by decide) 3 (.int .i64 (y1 + 1))).nums x1 (y1 + 1))
        have BV := hide ((BX.out.setCell (p := ⟨g, 1, none⟩) (by dsimp only; omega) (.slice A4 (pn + 1) d4)).setCell (p := ⟨g, 3, none⟩) (by dsimp only; omega) (.int .i64 (y1 + 1)))
        clear m1 m2 m3 OA BX c3' f3' l3'
        generalize (w2.setCell ⟨g, 1, none⟩ (.slice A4 (pn + 1) d4)).setCell ⟨g, 3, none⟩ (.int .i64 (y1 + 1)) = V at q1 q2 q3 OV BV ⊢
        obtain ⟨c3', f3', l3'⟩ := bx_all q3.out
        obtain ⟨c1', f1', l1'⟩ := bx_all q1.out
        obtain ⟨c2', f2', l2'⟩ := bx_all q2.out
        have HF := hide (fin4 OV.out q2.out BV.out (by omega))
        have HG : Hid ((⟨G.N, G.E ++ [(y1, a, b)], x1, y1 + 1⟩ : GL) = linkG a b G) := by show _ = _; unfold linkG; rw [HX1.out, ← EY.out]
        clear q1 q2 q3 OV BV EY
        go_region
        all_goals
          go_wp2
          exact bodyPost_ret (row_three rfl _ _ (w.heap.size + 2) 27 _ (0, 0) _ rfl HF.out.1 Tryz.underlying27 rfl size27) rfl ⟨⟨⟨oA, on, oc⟩, ⟨A4, pn + 1, d4⟩, x1, y1 + 1⟩, rfl, ⟨_, by have := HF.out.2.1; rw [HG.out] at this; exact this.step ((Below.refl _ _).drew)⟩, HF.out.2.2.drew⟩

end Go.Proofs.YtiiadkjiofkonaaGreat
