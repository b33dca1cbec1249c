/- A node added: the code and the document's answer. -/
import Derived.Test.YtiiadkjiofkonaaGreatCFin
import Derived.Test.YtiiadkjiofkonaaGreatGCopy
import Derived.WalkKit
import Derived.Below
import Derived.Deep.QuietTactic
import Derived.BigQuiet
import Derived.Laws.Rows
import Derived.Shelf.Abstract
namespace Go.Proofs.YtiiadkjiofkonaaGreat
open Go.RowKit
set_option linter.unusedVariables false

def addR (ids : Int) (G : GL) : Int × Int × GL := if ids < G.x then (0, 4, noG) else (G.x, 0, addG G)

set_option maxRecDepth 100000 in
set_option maxHeartbeats 4000000 in
theorem add_any (c0 c1 c2 c3 c4 : Int) (v : Gv) (G R : GL) (id er : Int) (w : World) (S : Sees w w.heap.size v G) (HS : Small G) (hr : Hid (addR c3 G = (id, er, R))) :
    Calls Tryz.prog 55 #[.agg #[.int .i64 c0, .int .i64 c1, .int .i64 c2, .int .i64 c3, .int .i64 c4], v.val] w fun e w' => ∃ v', e = .returned (.tuple #[Gv.val v', .int .i64 id, .int .i64 er]) ∧ Hid (Mine w w' v' R) ∧ Hid (Below w.heap.size w w') := by
  obtain ⟨⟨nA, nn, nc⟩, ⟨eA, en, ec⟩, x, y⟩ := v
  show Calls Tryz.prog 55 #[.agg #[.int .i64 c0, .int .i64 c1, .int .i64 c2, .int .i64 c3, .int .i64 c4], .agg #[.slice nA nn nc, .slice eA en ec, .int .i64 x, .int .i64 y]] w _
  obtain ⟨i0, hi0, hz0, hz1, hz2⟩ := info_parts info58
  have H1 := hide hi0
  have H2 := hide hz0
  have H3 := hide hz1
  have H4 := hide hz2
  clear hi0 hz0 hz1 hz2
  have SW := hide S
  have HSM := hide HS
  have ex := S.x
  have ln := S.nodes.1
  have le := edges_len S.edges
  have hb := HS.x
  dsimp only at ex ln le
  have hbx : -1000000 ≤ x ∧ x ≤ 1000000 := by rw [ex]; exact hb
  have hnn : nn ≤ 1000 := by have := HS.n; omega
  have hen : en ≤ 1000 := by have := HS.e; omega
  have EX := hide ex
  clear S HS ex ln le hb
  obtain ⟨W, hW⟩ : ∃ W, Hid (((w.alloc (.cells #[.int .i64 c0, .int .i64 c1, .int .i64 c2, .int .i64 c3, .int .i64 c4] 23)).alloc (.cells #[.slice nA nn nc, .slice eA en ec, .int .i64 x, .int .i64 y] 27)).alloc (.cells #[.slice none 0 0, .slice none 0 0, .int .i64 0, .int .i64 0] 27) = W) := ⟨_, rfl⟩
  have BW : Hid (Below w.heap.size w W) := by show Below _ _ _; rw [← hW.out]; exact (boxed2 w _ _).alloc (by simp; omega) _
  have hz : Hid (W.heap.size = w.heap.size + 3) := by show _ = _; rw [← hW.out]; simp
  have h0 : Hid (W.heap[w.heap.size]? = some (.cells #[.int .i64 c0, .int .i64 c1, .int .i64 c2, .int .i64 c3, .int .i64 c4] 23 (0, 0))) := by show _ = _; rw [← hW.out]; exact bx_alloc (heap_alloc2_old w _ _) _
  have h1 : Hid (W.heap[w.heap.size + 1]? = some (.cells #[.slice nA nn nc, .slice eA en ec, .int .i64 x, .int .i64 y] 27 (0, 0))) := by show _ = _; rw [← hW.out]; exact bx_alloc (heap_alloc2_new w _ _) _
  have h2 : Hid (W.heap[w.heap.size + 2]? = some (.cells #[.slice none 0 0, .slice none 0 0, .int .i64 0, .int .i64 0] 27 (0, 0))) := by show _ = _; rw [← hW.out]; exact heap_alloc3_new w _ _ _
  by_cases t : c3 < x
  · have t1 : decide (c3 < x) = true := by simpa using t
    have hr' : Hid ((0, 4, noG) = (id, er, R)) := by show _ = _; rw [← hr.out]; unfold addR; rw [if_pos (by rw [← EX.out]; exact t)]
    clear t
    obtain ⟨rfl, rfl, rfl⟩ : 0 = id ∧ 4 = er ∧ noG = R := by have := hr'.out; simp only [Prod.mk.injEq] at this; exact this
    go_enter Tryz.func55, Tryz.ntmps55
    go_wp2_with fail
    exact bodyPost_ret (row_three rfl _ _ (w.heap.size + 2) 27 _ (0, 0) _ rfl (heap_alloc3_new w _ _ #[.slice none 0 0, .slice none 0 0, .int .i64 0, .int .i64 0]) Tryz.underlying27 rfl size27) rfl ⟨noGv, rfl, Mine.none _ _, by have := BW.out; rw [← hW.out] at this; exact this⟩
  · have t1 : decide (c3 < x) = false := by simpa using t
    have hr' : Hid ((x, 0, addG G) = (id, er, R)) := by show _ = _; rw [← hr.out]; unfold addR; rw [if_neg (by rw [← EX.out]; exact t), EX.out]
    clear t
    obtain ⟨rfl, rfl, rfl⟩ : x = id ∧ 0 = er ∧ addG G = R := by have := hr'.out; simp only [Prod.mk.injEq] at this; exact this
    go_enter Tryz.func55, Tryz.ntmps55
    go_wp2_with fail
    have hW' := hW.out
    rw [hW']
    clear hW hW' hr hr'
    refine (fresh_any ⟨⟨nA, nn, nc⟩, ⟨eA, en, ec⟩, x, y⟩ G W ((SW.out.below BW.out (Nat.le_refl _)).more BW.out.size) hnn hen (fun j hj => by have := HSM.out.p j hj; omega)).mono ?_
    rintro e u1 ⟨⟨⟨oA, on, oc⟩, ⟨pA, pn, pc⟩, x1, y1⟩, L, rfl, O1, B1⟩
    have e1 : x1 = x := by have := O1.out.x; dsimp only at this; rw [this]; exact EX.out.symm
    subst e1
    have k0 := hide (bx_step h0.out B1.out)
    have k1 := hide (bx_step h1.out B1.out)
    have k2 := hide (bx_step h2.out B1.out)
    have hon : on ≤ 1000 := by have := O1.out.many; have := HSM.out.n; dsimp only at *; omega
    have BU := hide (BW.out.trans (B1.out.mono BW.out.size))
    have OU := hide (O1.out.less BW.out.size)
    have hlt : w.heap.size + 2 < u1.heap.size := (bx_all k2.out).2.2
    obtain ⟨a1, -, b1⟩ := bx_all k1.out
    have HY1 : Hid (y1 = G.y) := O1.out.y
    clear O1 B1 h0 h1 h2 BW hz SW
    go_wp2_with (at_builtin; refine wpList_append_own _ rfl _ _ 24 rfl w.heap.size 61 i0 (.agg #[.int .i64 0, .slice none 0 0]) 2 32 Tryz.underlying24 H1.out H2.out H3.out H4.out rfl (by decide) _ on _ rfl ((OU.out.rows.alloc _).alloc _) ⟨u1.heap.size + 1, 0, none⟩ 1 1 [.int .i64 x1, .slice none 0 0] rfl rfl (cells_new _ _ _ _ (by simp)) (node_one x1 none 0 0) (by simp only [maxLen]; omega) (by omega) (by have := BU.out.size; simp; omega) ?_; intro v' w2 hown hg _; obtain ⟨A4, d4, rfl, hA4⟩ := own_form hown; have OX := hide ((OU.out.step ((Below.refl _ u1).alloc (Nat.le_refl _) (.cells #[.slice oA on oc, .slice pA pn pc, .int .i64 x1, .int .i64 y1] 27))).step ((Below.refl _ _).alloc (Nat.le_refl _) (.cells #[.int .i64 x1, .slice none 0 0] 61))); have OA := hide (OX.out.app (l := []) (World.ownsRow_nil _ _ _ _) hown hg); have m1 := hide (bx_grown (bx_alloc (bx_alloc k1.out _) _) OX.out.rows hg (by decide)); have m2 := hide (bx_grown (bx_alloc (bx_alloc k2.out _) _) OX.out.rows hg (by decide)); have m3 := hide (bx_grown (bx_alloc (heap_alloc_new u1 (.cells #[.slice oA on oc, .slice pA pn pc, .int .i64 x1, .int .i64 y1] 27)) _) OX.out.rows hg (by decide)); have BX := hide (((BU.out.alloc BU.out.size _).alloc (by have := BU.out.size; simp; omega) _).grown hg (by have := BU.out.size; simp; omega) (fun j ej => (OX.out.rows.lt j ej).1)); clear hown hg OX OU BU k0 k1 k2 a1 b1; obtain ⟨c3', f3', l3'⟩ := bx_all m3.out; obtain ⟨g, hg⟩ : ∃ g, u1.heap.size = g := ⟨_, rfl⟩; rw [hg] at m3 c3' f3' l3' hlt ⊢)
    have q3 := hide (heap_setCell_same _ g 2 _ 27 (.int .i64 (x1 + 1)) (heap_setCell_same w2 g 0 _ 27 (.slice A4 (on + 1) d4) m3.out))
    have q1 := hide (bx_other (k := g) (i := 2) (x := .int .i64 (x1 + 1)) (bx_other (k := g) (i := 0) (x := .slice A4 (on + 1) d4) m1.out (by omega)) (by omega))
    have q2 := hide (bx_other (k := g) (i := 2) (x := .int .i64 (x1 + 1)) (bx_other (k := g) (i := 0) (x := .slice A4 (on + 1) d4) m2.out (by omega)) (by omega))
    have OV := hide (((OA.out.cell m3.out (by decide) (by decide) (by decide) 0 (.slice A4 (on + 1) d4)).cell (heap_setCell_same w2 g 0 _ 27 (.slice A4 (on + 1) d4) m3.out) (by decide) (by decide) (by decide) 2 (.int .i64 (x1 + 1))).nums (x1 + 1) y1)
    have BV := hide ((BX.out.setCell (p := ⟨g, 0, none⟩) (by dsimp only; omega) (.slice A4 (on + 1) d4)).setCell (p := ⟨g, 2, none⟩) (by dsimp only; omega) (.int .i64 (x1 + 1)))
    clear m1 m2 m3 OA BX c3' f3' l3'
    generalize (w2.setCell ⟨g, 0, none⟩ (.slice A4 (on + 1) d4)).setCell ⟨g, 2, none⟩ (.int .i64 (x1 + 1)) = V at q1 q2 q3 OV BV ⊢
    obtain ⟨c3', f3', l3'⟩ := bx_all q3.out
    obtain ⟨c1', f1', l1'⟩ := bx_all q1.out
    obtain ⟨c2', f2', l2'⟩ := bx_all q2.out
    have HY : Hid (y1 = G.y) := HY1
    have HF := hide (fin4 OV.out q2.out BV.out (by omega))
    have HG : Hid ((⟨G.N ++ [(x1, [])], G.E, x1 + 1, y1⟩ : GL) = addG G) := by show _ = _; unfold addG; rw [HY.out, ← EX.out]
    clear q1 q2 q3 OV BV HY EX
    go_region
    all_goals
      go_wp2
      exact bodyPost_ret (row_three rfl _ _ (w.heap.size + 2) 27 _ (0, 0) _ rfl HF.out.1 Tryz.underlying27 rfl size27) rfl ⟨⟨⟨A4, on + 1, d4⟩, ⟨pA, pn, pc⟩, x1 + 1, y1⟩, rfl, ⟨_, by have := HF.out.2.1; rw [HG.out] at this; exact this.step ((Below.refl _ _).drew)⟩, HF.out.2.2.drew⟩

set_option maxRecDepth 100000 in
set_option maxHeartbeats 4000000 in
theorem radd_any (c0 c1 c2 c3 c4 : Int) (v : Gv) (G R : GL) (id er : Int) (w : World) (S : Sees w w.heap.size v G) (HS : Small G) (hr : Hid (addR c3 G = (id, er, R))) :
    Calls Tryz.prog 32 #[.agg #[.int .i64 c0, .int .i64 c1, .int .i64 c2, .int .i64 c3, .int .i64 c4], v.val] w fun e w' => ∃ v', e = .returned (.tuple #[Gv.val v', .int .i64 id, .int .i64 er]) ∧ Hid (Mine w w' v' R) ∧ Hid (Below w.heap.size w w') := by
  obtain ⟨⟨nA, nn, nc⟩, ⟨eA, en, ec⟩, x, y⟩ := v
  show Calls Tryz.prog 32 #[.agg #[.int .i64 c0, .int .i64 c1, .int .i64 c2, .int .i64 c3, .int .i64 c4], .agg #[.slice nA nn nc, .slice eA en ec, .int .i64 x, .int .i64 y]] w _
  obtain ⟨i0, hi0, hz0, hz1, hz2⟩ := info_parts info58
  have H1 := hide hi0
  have H2 := hide hz0
  have H3 := hide hz1
  have H4 := hide hz2
  clear hi0 hz0 hz1 hz2
  have SW := hide S
  have HSM := hide HS
  have ex := S.x
  have ln := S.nodes.1
  have le := edges_len S.edges
  have hb := HS.x
  dsimp only at ex ln le
  have hbx : -1000000 ≤ x ∧ x ≤ 1000000 := by rw [ex]; exact hb
  have hnn : nn ≤ 1000 := by have := HS.n; omega
  have hen : en ≤ 1000 := by have := HS.e; omega
  have EX := hide ex
  clear S HS ex ln le hb
  obtain ⟨W, hW⟩ : ∃ W, Hid (((w.alloc (.cells #[.int .i64 c0, .int .i64 c1, .int .i64 c2, .int .i64 c3, .int .i64 c4] 23)).alloc (.cells #[.slice nA nn nc, .slice eA en ec, .int .i64 x, .int .i64 y] 27)).alloc (.cells #[.slice none 0 0, .slice none 0 0, .int .i64 0, .int .i64 0] 27) = W) := ⟨_, rfl⟩
  have BW : Hid (Below w.heap.size w W) := by show Below _ _ _; rw [← hW.out]; exact (boxed2 w _ _).alloc (by simp; omega) _
  have hz : Hid (W.heap.size = w.heap.size + 3) := by show _ = _; rw [← hW.out]; simp
  have h0 : Hid (W.heap[w.heap.size]? = some (.cells #[.int .i64 c0, .int .i64 c1, .int .i64 c2, .int .i64 c3, .int .i64 c4] 23 (0, 0))) := by show _ = _; rw [← hW.out]; exact bx_alloc (heap_alloc2_old w _ _) _
  have h1 : Hid (W.heap[w.heap.size + 1]? = some (.cells #[.slice nA nn nc, .slice eA en ec, .int .i64 x, .int .i64 y] 27 (0, 0))) := by show _ = _; rw [← hW.out]; exact bx_alloc (heap_alloc2_new w _ _) _
  have h2 : Hid (W.heap[w.heap.size + 2]? = some (.cells #[.slice none 0 0, .slice none 0 0, .int .i64 0, .int .i64 0] 27 (0, 0))) := by show _ = _; rw [← hW.out]; exact heap_alloc3_new w _ _ _
  by_cases t : c3 < x
  · have t1 : decide (c3 < x) = true := by simpa using t
    have hr' : Hid ((0, 4, noG) = (id, er, R)) := by show _ = _; rw [← hr.out]; unfold addR; rw [if_pos (by rw [← EX.out]; exact t)]
    clear t
    obtain ⟨rfl, rfl, rfl⟩ : 0 = id ∧ 4 = er ∧ noG = R := by have := hr'.out; simp only [Prod.mk.injEq] at this; exact this
    go_enter Tryz.func32, Tryz.ntmps32
    go_wp2_with fail
    exact bodyPost_ret (row_three rfl _ _ (w.heap.size + 2) 27 _ (0, 0) _ rfl (heap_alloc3_new w _ _ #[.slice none 0 0, .slice none 0 0, .int .i64 0, .int .i64 0]) Tryz.underlying27 rfl size27) rfl ⟨noGv, rfl, Mine.none _ _, by have := BW.out; rw [← hW.out] at this; exact this⟩
  · have t1 : decide (c3 < x) = false := by simpa using t
    have hr' : Hid ((x, 0, addG G) = (id, er, R)) := by show _ = _; rw [← hr.out]; unfold addR; rw [if_neg (by rw [← EX.out]; exact t), EX.out]
    clear t
    obtain ⟨rfl, rfl, rfl⟩ : x = id ∧ 0 = er ∧ addG G = R := by have := hr'.out; simp only [Prod.mk.injEq] at this; exact this
    go_enter Tryz.func32, Tryz.ntmps32
    go_wp2_with fail
    have hW' := hW.out
    rw [hW']
    clear hW hW' hr hr'
    refine (copy_any ⟨⟨nA, nn, nc⟩, ⟨eA, en, ec⟩, x, y⟩ G W ((SW.out.below BW.out (Nat.le_refl _)).more BW.out.size) hnn hen (fun j hj => by have := HSM.out.p j hj; omega)).mono ?_
    rintro e u1 ⟨⟨⟨oA, on, oc⟩, ⟨pA, pn, pc⟩, x1, y1⟩, L, rfl, O1, B1⟩
    have e1 : x1 = x := by have := O1.out.x; dsimp only at this; rw [this]; exact EX.out.symm
    subst e1
    have k0 := hide (bx_step h0.out B1.out)
    have k1 := hide (bx_step h1.out B1.out)
    have k2 := hide (bx_step h2.out B1.out)
    have hon : on ≤ 1000 := by have := O1.out.many; have := HSM.out.n; dsimp only at *; omega
    have BU := hide (BW.out.trans (B1.out.mono BW.out.size))
    have OU := hide (O1.out.less BW.out.size)
    have hlt : w.heap.size + 2 < u1.heap.size := (bx_all k2.out).2.2
    obtain ⟨a1, -, b1⟩ := bx_all k1.out
    have HY1 : Hid (y1 = G.y) := O1.out.y
    clear O1 B1 h0 h1 h2 BW hz SW
    go_wp2_with (at_builtin; refine wpList_append_own _ rfl _ _ 24 rfl w.heap.size 61 i0 (.agg #[.int .i64 0, .slice none 0 0]) 2 32 Tryz.underlying24 H1.out H2.out H3.out H4.out rfl (by decide) _ on _ rfl ((OU.out.rows.alloc _).alloc _) ⟨u1.heap.size + 1, 0, none⟩ 1 1 [.int .i64 x1, .slice none 0 0] rfl rfl (cells_new _ _ _ _ (by simp)) (node_one x1 none 0 0) (by simp only [maxLen]; omega) (by omega) (by have := BU.out.size; simp; omega) ?_; intro v' w2 hown hg _; obtain ⟨A4, d4, rfl, hA4⟩ := own_form hown; have OX := hide ((OU.out.step ((Below.refl _ u1).alloc (Nat.le_refl _) (.cells #[.slice oA on oc, .slice pA pn pc, .int .i64 x1, .int .i64 y1] 27))).step ((Below.refl _ _).alloc (Nat.le_refl _) (.cells #[.int .i64 x1, .slice none 0 0] 61))); have OA := hide (OX.out.app (l := []) (World.ownsRow_nil _ _ _ _) hown hg); have m1 := hide (bx_grown (bx_alloc (bx_alloc k1.out _) _) OX.out.rows hg (by decide)); have m2 := hide (bx_grown (bx_alloc (bx_alloc k2.out _) _) OX.out.rows hg (by decide)); have m3 := hide (bx_grown (bx_alloc (heap_alloc_new u1 (.cells #[.slice oA on oc, .slice pA pn pc, .int .i64 x1, .int .i64 y1] 27)) _) OX.out.rows hg (by decide)); have BX := hide (((BU.out.alloc BU.out.size _).alloc (by have := BU.out.size; simp; omega) _).grown hg (by have := BU.out.size; simp; omega) (fun j ej => (OX.out.rows.lt j ej).1)); clear hown hg OX OU BU k0 k1 k2 a1 b1; obtain ⟨c3', f3', l3'⟩ := bx_all m3.out; obtain ⟨g, hg⟩ : ∃ g, u1.heap.size = g := ⟨_, rfl⟩; rw [hg] at m3 c3' f3' l3' hlt ⊢)
    have q3 := hide (heap_setCell_same _ g 2 _ 27 (.int .i64 (x1 + 1)) (heap_setCell_same w2 g 0 _ 27 (.slice A4 (on + 1) d4) m3.out))
    have q1 := hide (bx_other (k := g) (i := 2) (x := .int .i64 (x1 + 1)) (bx_other (k := g) (i := 0) (x := .slice A4 (on + 1) d4) m1.out (by omega)) (by omega))
    have q2 := hide (bx_other (k := g) (i := 2) (x := .int .i64 (x1 + 1)) (bx_other (k := g) (i := 0) (x := .slice A4 (on + 1) d4) m2.out (by omega)) (by omega))
    have OV := hide (((OA.out.cell m3.out (by decide) (by decide) (by decide) 0 (.slice A4 (on + 1) d4)).cell (heap_setCell_same w2 g 0 _ 27 (.slice A4 (on + 1) d4) m3.out) (by decide) (by decide) (by decide) 2 (.int .i64 (x1 + 1))).nums (x1 + 1) y1)
    have BV := hide ((BX.out.setCell (p := ⟨g, 0, none⟩) (by dsimp only; omega) (.slice A4 (on + 1) d4)).setCell (p := ⟨g, 2, none⟩) (by dsimp only; omega) (.int .i64 (x1 + 1)))
    clear m1 m2 m3 OA BX c3' f3' l3'
    generalize (w2.setCell ⟨g, 0, none⟩ (.slice A4 (on + 1) d4)).setCell ⟨g, 2, none⟩ (.int .i64 (x1 + 1)) = V at q1 q2 q3 OV BV ⊢
    obtain ⟨c3', f3', l3'⟩ := bx_all q3.out
    obtain ⟨c1', f1', l1'⟩ := bx_all q1.out
    obtain ⟨c2', f2', l2'⟩ := bx_all q2.out
    have HY : Hid (y1 = G.y) := HY1
    have HF := hide (fin4 OV.out q2.out BV.out (by omega))
    have HG : Hid ((⟨G.N ++ [(x1, [])], G.E, x1 + 1, y1⟩ : GL) = addG G) := by show _ = _; unfold addG; rw [HY.out, ← EX.out]
    clear q1 q2 q3 OV BV HY EX
    go_region
    all_goals
      go_wp2
      exact bodyPost_ret (row_three rfl _ _ (w.heap.size + 2) 27 _ (0, 0) _ rfl HF.out.1 Tryz.underlying27 rfl size27) rfl ⟨⟨⟨A4, on + 1, d4⟩, ⟨pA, pn, pc⟩, x1 + 1, y1⟩, rfl, ⟨_, by have := HF.out.2.1; rw [HG.out] at this; exact this.step ((Below.refl _ _).drew)⟩, HF.out.2.2.drew⟩

end Go.Proofs.YtiiadkjiofkonaaGreat
