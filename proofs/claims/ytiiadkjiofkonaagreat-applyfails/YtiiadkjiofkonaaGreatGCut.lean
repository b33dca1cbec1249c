/- An edge cut, a node dropped: the code. -/
import Derived.Test.YtiiadkjiofkonaaGreatCFin
import Derived.Test.YtiiadkjiofkonaaGreatGFind
import Derived.Test.YtiiadkjiofkonaaGreatGNodes
import Derived.WalkKit
import Derived.Below
import Derived.Deep.QuietTactic
import Derived.BigQuiet
import Derived.Shelf.Abstract
namespace Go.Proofs.YtiiadkjiofkonaaGreat
open Go.RowKit
set_option linter.unusedVariables false

def cutR (G : GL) (e : Int) : Int × GL := if atf (fun z : Ed => z.1) G.E e < 0 then (2, noG) else (0, cutG e G)
theorem cutR_none {G : GL} {e : Int} (h : atf (fun z : Ed => z.1) G.E e < 0) : cutR G e = (2, noG) := if_pos h
theorem cutR_ok {G : GL} {e : Int} (h : ¬ atf (fun z : Ed => z.1) G.E e < 0) : cutR G e = (0, cutG e G) := if_neg h
def dropR (G : GL) (n : Int) : Int × GL := if isN G n = false then (2, noG) else (0, dropG n G)
theorem dropR_none {G : GL} {n : Int} (h : isN G n = false) : dropR G n = (2, noG) := if_pos h
theorem dropR_ok {G : GL} {n : Int} (h : isN G n = true) : dropR G n = (0, dropG n G) := if_neg (by simp [h])
/-- The edges are others. -/
theorem Own.edges {u : World} {B n c : Nat} {A : Option Addr} {v : Gv} {G : GL} {L : List (Int × Sl)} {E : List Ed} (o : Own u B v G L) (R : u.ownsRow B 79 3 (.slice A n c) n (ints (flat3 E))) : Own u B ⟨v.N, ⟨A, n, c⟩, v.x, v.y⟩ ⟨G.N, E, G.x, G.y⟩ L := ⟨o.rows, o.len, o.ids, o.prs, R, o.x, o.y⟩

set_option maxRecDepth 100000 in
set_option maxHeartbeats 4000000 in
theorem cut_any (v : Gv) (G R : GL) (a er : Int) (w : World) (S : Sees w w.heap.size v G) (HS : Small G) (hr : Hid (cutR G a = (er, R))) :
    Calls Tryz.prog 60 #[v.val, .int .i64 a] w fun e w' => ∃ v', e = .returned (.tuple #[Gv.val v', .int .i64 er]) ∧ Hid (Mine w w' v' R) ∧ Hid (Below w.heap.size w w') := by
  obtain ⟨⟨nA, nn, nc⟩, ⟨eA, en, ec⟩, x, y⟩ := v
  show Calls Tryz.prog 60 #[.agg #[.slice nA nn nc, .slice eA en ec, .int .i64 x, .int .i64 y], .int .i64 a] w _
  have SW := hide S
  have HSM := hide HS
  have ln := S.nodes.1
  have le := edges_len S.edges
  dsimp only at ln le
  have hnn : nn ≤ 1000 := by have := HS.n; omega
  have hen : en ≤ 1000 := by have := HS.e; omega
  have LN := hide ln
  clear S HS ln le
  obtain ⟨r, Hr⟩ : ∃ r, Hid (atf (fun z : Ed => z.1) G.E a = r) := ⟨_, rfl⟩
  obtain ⟨W, hW⟩ : ∃ W, Hid (((w.alloc (.cells #[.slice nA nn nc, .slice eA en ec, .int .i64 x, .int .i64 y] 27)).alloc (.cells #[.int .i64 a] 3)).alloc (.cells #[.slice none 0 0, .slice none 0 0, .int .i64 0, .int .i64 0] 27) = W) := ⟨_, rfl⟩
  have BW : Hid (Below w.heap.size w W) := by show Below _ _ _; rw [← hW.out]; exact boxed3 w _ _ _
  have HZ : Hid (W.heap.size = w.heap.size + 3) := by show _ = _; rw [← hW.out]; simp
  have Harg : Hid (W.heap[w.heap.size]? = some (.cells #[.slice nA nn nc, .slice eA en ec, .int .i64 x, .int .i64 y] 27 (0, 0))) := by show _ = _; rw [← hW.out]; exact bx_alloc (heap_alloc2_old w _ _) _
  have Hnum : Hid (W.heap[w.heap.size + 1]? = some (.cells #[.int .i64 a] 3 (0, 0))) := by show _ = _; rw [← hW.out]; exact bx_alloc (heap_alloc2_new w _ _) _
  have Hres : Hid (W.heap[w.heap.size + 2]? = some (.cells #[.slice none 0 0, .slice none 0 0, .int .i64 0, .int .i64 0] 27 (0, 0))) := by show _ = _; rw [← hW.out]; exact heap_alloc3_new w _ _ _
  have SW := hide ((SW.out.below BW.out (Nat.le_refl _)).more BW.out.size)
  go_enter Tryz.func60, Tryz.ntmps60
  go_wp2_with fail
  have hW' := hW.out
  rw [hW']
  clear hW hW'
  refine (findE_any eA en ec G.E a r _ SW.out.edges hen Hr).mono ?_
  rintro e u1 ⟨rfl, hb1⟩
  have Harg := hide (bx_step Harg.out hb1)
  have Hnum := hide (bx_step Hnum.out hb1)
  have Hres := hide (bx_step Hres.out hb1)
  have SW := hide ((SW.out.below hb1 (Nat.le_refl _)).more (hb1).size)
  have BW := hide (BW.out.trans (hb1.mono BW.out.size))
  clear hb1
  by_cases t : r < 0
  ·
    have t1 : decide (r < 0) = true := by simpa using t
    have HR : Hid ((2, noG) = (er, R)) := by show _ = _; rw [← hr.out]; exact (cutR_none (by rw [Hr.out]; exact t)).symm
    obtain ⟨rfl, rfl⟩ : 2 = er ∧ noG = R := by have := HR.out; simp only [Prod.mk.injEq] at this; exact this
    clear HR hr
    have HF := hide (fin4 (Own.none _ w.heap.size) Hres.out BW.out (by omega))
    obtain ⟨cres, fres, lres⟩ := bx_all Hres.out
    go_wp2
    exact bodyPost_ret (row_two rfl _ _ (w.heap.size + 2) 27 _ (0, 0) _ rfl HF.out.1 Tryz.underlying27 rfl size27) rfl ⟨noGv, rfl, ⟨_, HF.out.2.1⟩, HF.out.2.2⟩
  ·
    have t1 : decide (r < 0) = false := by simpa using t
    have HR : Hid ((0, cutG a G) = (er, R)) := by show _ = _; rw [← hr.out]; exact (cutR_ok (by rw [Hr.out]; exact t)).symm
    obtain ⟨rfl, rfl⟩ : 0 = er ∧ cutG a G = R := by have := HR.out; simp only [Prod.mk.injEq] at this; exact this
    clear HR hr
    clear t
    obtain ⟨carg, farg, larg⟩ := bx_all Harg.out
    go_wp2_with fail
    refine (fresh_any ⟨⟨nA, nn, nc⟩, ⟨eA, en, ec⟩, x, y⟩ G _ SW.out hnn hen (fun j hj => by have := HSM.out.p j hj; omega)).mono ?_
    rintro e u2 ⟨⟨⟨oA, on, oc⟩, ⟨pA, pn, pc⟩, x1, y1⟩, L, rfl, O1, B1⟩
    have hon : on ≤ 1000 := by have := O1.out.many; have := HSM.out.n; dsimp only at *; omega
    have OU := hide (O1.out.less BW.out.size)
    clear carg farg larg
    have Harg := hide (bx_step Harg.out B1.out)
    have Hnum := hide (bx_step Hnum.out B1.out)
    have Hres := hide (bx_step Hres.out B1.out)
    have SW := hide ((SW.out.below B1.out (Nat.le_refl _)).more (B1.out).size)
    have BW := hide (BW.out.trans (B1.out.mono BW.out.size))
    clear O1 B1
    have hmf : ∀ (fn : Fn) (first cap : Array Value) (w : World), (Instr.makeFunc fn first cap).run Tryz.prog w = .ok (.func fn first cap) w := fun _ _ _ _ => rfl
    obtain ⟨carg, farg, larg⟩ := bx_all Harg.out
    obtain ⟨cnum, fnum, lnum⟩ := bx_all Hnum.out
    go_wp2_with fail
    obtain ⟨X, hX⟩ : ∃ X, Hid (u2.alloc (.cells #[.slice oA on oc, .slice pA pn pc, .int .i64 x1, .int .i64 y1] 27) = X) := ⟨_, rfl⟩
    obtain ⟨g, hg⟩ : ∃ g, Hid (u2.heap.size = g) := ⟨_, rfl⟩
    have hltg : w.heap.size + 2 < g := by rw [← hg.out]; exact (bx_all Hres.out).2.2
    have BXX : Hid (Below u2.heap.size u2 X) := by show Below _ _ _; rw [← hX.out]; exact (Below.refl _ _).alloc (Nat.le_refl _) _
    have Hout : Hid (X.heap[g]? = some (.cells #[.slice oA on oc, .slice pA pn pc, .int .i64 x1, .int .i64 y1] 27 (0, 0))) := by show _ = _; rw [← hX.out, ← hg.out]; exact heap_alloc_new _ _
    clear carg farg larg cnum fnum lnum
    have Harg := hide (bx_step Harg.out BXX.out)
    have Hnum := hide (bx_step Hnum.out BXX.out)
    have Hres := hide (bx_step Hres.out BXX.out)
    have SW := hide ((SW.out.below BXX.out (Nat.le_refl _)).more (BXX.out).size)
    have OU := hide (OU.out.step BXX.out)
    have BW := hide (BW.out.trans (BXX.out.mono BW.out.size))
    have hX' := hX.out
    have hg' := hg.out
    rw [hX', hg']
    clear hX hg hX' hg' BXX
    have eg : ∀ args w, (callFunc 85 args).run Tryz.prog w = .ok (.enter 85 args) w := enters_of Tryz.func85 (by kernel_rfl) rfl
    refine (stayE_any 85 (w.heap.size + 1) (fun d => d.1 != a) eA en ec G.E X SW.out.edges hen eg (fun u x' y' z' q hu hq => cutP_any x' y' z' a q (w.heap.size + 1) u (bx_all (bx_step Hnum.out hu)).2.2 ((bx_all (bx_step Hnum.out hu)).1 0) hq)).mono ?_
    clear eg
    rintro e u3 ⟨A3, n3, c3, rfl, hA3, hr3, hu3⟩
    have R3 := hide (own_less hr3 BW.out.size)
    have Harg := hide (bx_step Harg.out hu3)
    have Hnum := hide (bx_step Hnum.out hu3)
    have Hres := hide (bx_step Hres.out hu3)
    have Hout := hide (bx_step Hout.out hu3)
    have SW := hide ((SW.out.below hu3 (Nat.le_refl _)).more (hu3).size)
    have OU := hide (OU.out.step hu3)
    have BW := hide (BW.out.trans (hu3.mono BW.out.size))
    clear hr3 hu3
    have OE := hide (OU.out.edges R3.out)
    obtain ⟨cout, fout, lout⟩ := bx_all Hout.out
    have Parg := hide (bx_other (k := g) (i := 1) (x := .slice A3 n3 c3) Harg.out (by omega))
    have Pnum := hide (bx_other (k := g) (i := 1) (x := .slice A3 n3 c3) Hnum.out (by omega))
    have Pres := hide (bx_other (k := g) (i := 1) (x := .slice A3 n3 c3) Hres.out (by omega))
    have Pout := hide (heap_setCell_same u3 (g) 1 _ 27 (.slice A3 n3 c3) Hout.out)
    have OE := hide (OE.out.cell Hout.out (by decide) (by decide) (by decide) 1 (.slice A3 n3 c3))
    have BV := hide (BW.out.setCell (p := ⟨g, 1, none⟩) (by dsimp only; omega) (.slice A3 n3 c3))
    obtain ⟨dout, eout, kout⟩ := bx_all Pout.out
    obtain ⟨dres, eres, kres⟩ := bx_all Pres.out
    have HF := hide (fin4 OE.out Pres.out BV.out (by omega))
    clear Hout Harg Hnum Hres BW SW OU
    go_wp2
    exact bodyPost_ret (row_two rfl _ _ (w.heap.size + 2) 27 _ (0, 0) _ rfl HF.out.1 Tryz.underlying27 rfl size27) rfl ⟨⟨⟨oA, on, oc⟩, ⟨A3, n3, c3⟩, x1, y1⟩, rfl, ⟨_, HF.out.2.1⟩, HF.out.2.2⟩

set_option maxRecDepth 100000 in
set_option maxHeartbeats 4000000 in
theorem drop_any (v : Gv) (G R : GL) (a er : Int) (w : World) (S : Sees w w.heap.size v G) (HS : Small G) (hr : Hid (dropR G a = (er, R))) :
    Calls Tryz.prog 70 #[v.val, .int .i64 a] w fun e w' => ∃ v', e = .returned (.tuple #[Gv.val v', .int .i64 er]) ∧ Hid (Mine w w' v' R) ∧ Hid (Below w.heap.size w w') := by
  obtain ⟨⟨nA, nn, nc⟩, ⟨eA, en, ec⟩, x, y⟩ := v
  show Calls Tryz.prog 70 #[.agg #[.slice nA nn nc, .slice eA en ec, .int .i64 x, .int .i64 y], .int .i64 a] w _
  have SW := hide S
  have HSW := hide S
  have HSM := hide HS
  have ln := S.nodes.1
  have le := edges_len S.edges
  dsimp only at ln le
  have hnn : nn ≤ 1000 := by have := HS.n; omega
  have hen : en ≤ 1000 := by have := HS.e; omega
  have LN := hide ln
  clear S HS ln le
  obtain ⟨q, Hq⟩ : ∃ q, Hid (isN G a = q) := ⟨_, rfl⟩
  obtain ⟨W, hW⟩ : ∃ W, Hid (((w.alloc (.cells #[.slice nA nn nc, .slice eA en ec, .int .i64 x, .int .i64 y] 27)).alloc (.cells #[.int .i64 a] 3)).alloc (.cells #[.slice none 0 0, .slice none 0 0, .int .i64 0, .int .i64 0] 27) = W) := ⟨_, rfl⟩
  have BW : Hid (Below w.heap.size w W) := by show Below _ _ _; rw [← hW.out]; exact boxed3 w _ _ _
  have HZ : Hid (W.heap.size = w.heap.size + 3) := by show _ = _; rw [← hW.out]; simp
  have Harg : Hid (W.heap[w.heap.size]? = some (.cells #[.slice nA nn nc, .slice eA en ec, .int .i64 x, .int .i64 y] 27 (0, 0))) := by show _ = _; rw [← hW.out]; exact bx_alloc (heap_alloc2_old w _ _) _
  have Hnum : Hid (W.heap[w.heap.size + 1]? = some (.cells #[.int .i64 a] 3 (0, 0))) := by show _ = _; rw [← hW.out]; exact bx_alloc (heap_alloc2_new w _ _) _
  have Hres : Hid (W.heap[w.heap.size + 2]? = some (.cells #[.slice none 0 0, .slice none 0 0, .int .i64 0, .int .i64 0] 27 (0, 0))) := by show _ = _; rw [← hW.out]; exact heap_alloc3_new w _ _ _
  have SW := hide ((SW.out.below BW.out (Nat.le_refl _)).more BW.out.size)
  go_enter Tryz.func70, Tryz.ntmps70
  go_wp2_with fail
  have hW' := hW.out
  rw [hW']
  clear hW hW'
  refine (isNode_any ⟨⟨nA, nn, nc⟩, ⟨eA, en, ec⟩, x, y⟩ G a q _ SW.out hnn Hq).mono ?_
  rintro e u1 ⟨rfl, hb1⟩
  have Harg := hide (bx_step Harg.out hb1)
  have Hnum := hide (bx_step Hnum.out hb1)
  have Hres := hide (bx_step Hres.out hb1)
  have SW := hide ((SW.out.below hb1 (Nat.le_refl _)).more (hb1).size)
  have BW := hide (BW.out.trans (hb1.mono BW.out.size))
  clear hb1
  cases q
  ·
    have HR : Hid ((2, noG) = (er, R)) := by show _ = _; rw [← hr.out]; exact (dropR_none Hq.out).symm
    obtain ⟨rfl, rfl⟩ : 2 = er ∧ noG = R := by have := HR.out; simp only [Prod.mk.injEq] at this; exact this
    clear HR hr
    have HF := hide (fin4 (Own.none _ w.heap.size) Hres.out BW.out (by omega))
    obtain ⟨cres, fres, lres⟩ := bx_all Hres.out
    go_wp2
    exact bodyPost_ret (row_two rfl _ _ (w.heap.size + 2) 27 _ (0, 0) _ rfl HF.out.1 Tryz.underlying27 rfl size27) rfl ⟨noGv, rfl, ⟨_, HF.out.2.1⟩, HF.out.2.2⟩
  ·
    have HR : Hid ((0, dropG a G) = (er, R)) := by show _ = _; rw [← hr.out]; exact (dropR_ok Hq.out).symm
    obtain ⟨rfl, rfl⟩ : 0 = er ∧ dropG a G = R := by have := HR.out; simp only [Prod.mk.injEq] at this; exact this
    clear HR hr
    obtain ⟨carg, farg, larg⟩ := bx_all Harg.out
    go_wp2_with fail
    refine (fresh_any ⟨⟨nA, nn, nc⟩, ⟨eA, en, ec⟩, x, y⟩ G _ SW.out hnn hen (fun j hj => by have := HSM.out.p j hj; omega)).mono ?_
    rintro e u2 ⟨⟨⟨oA, on, oc⟩, ⟨pA, pn, pc⟩, x1, y1⟩, L, rfl, O1, B1⟩
    have hon : on ≤ 1000 := by have := O1.out.many; have := HSM.out.n; dsimp only at *; omega
    have OU := hide (O1.out.less BW.out.size)
    clear carg farg larg
    have Harg := hide (bx_step Harg.out B1.out)
    have Hnum := hide (bx_step Hnum.out B1.out)
    have Hres := hide (bx_step Hres.out B1.out)
    have SW := hide ((SW.out.below B1.out (Nat.le_refl _)).more (B1.out).size)
    have BW := hide (BW.out.trans (B1.out.mono BW.out.size))
    clear O1 B1
    have hmf : ∀ (fn : Fn) (first cap : Array Value) (w : World), (Instr.makeFunc fn first cap).run Tryz.prog w = .ok (.func fn first cap) w := fun _ _ _ _ => rfl
    obtain ⟨carg, farg, larg⟩ := bx_all Harg.out
    obtain ⟨cnum, fnum, lnum⟩ := bx_all Hnum.out
    go_wp2_with fail
    obtain ⟨X, hX⟩ : ∃ X, Hid (u2.alloc (.cells #[.slice oA on oc, .slice pA pn pc, .int .i64 x1, .int .i64 y1] 27) = X) := ⟨_, rfl⟩
    obtain ⟨g, hg⟩ : ∃ g, Hid (u2.heap.size = g) := ⟨_, rfl⟩
    have hltg : w.heap.size + 2 < g := by rw [← hg.out]; exact (bx_all Hres.out).2.2
    have BXX : Hid (Below u2.heap.size u2 X) := by show Below _ _ _; rw [← hX.out]; exact (Below.refl _ _).alloc (Nat.le_refl _) _
    have Hout : Hid (X.heap[g]? = some (.cells #[.slice oA on oc, .slice pA pn pc, .int .i64 x1, .int .i64 y1] 27 (0, 0))) := by show _ = _; rw [← hX.out, ← hg.out]; exact heap_alloc_new _ _
    clear carg farg larg cnum fnum lnum
    have Harg := hide (bx_step Harg.out BXX.out)
    have Hnum := hide (bx_step Hnum.out BXX.out)
    have Hres := hide (bx_step Hres.out BXX.out)
    have SW := hide ((SW.out.below BXX.out (Nat.le_refl _)).more (BXX.out).size)
    have OU := hide (OU.out.step BXX.out)
    have BW := hide (BW.out.trans (BXX.out.mono BW.out.size))
    have hX' := hX.out
    have hg' := hg.out
    rw [hX', hg']
    clear hX hg hX' hg' BXX
    refine (without_any ⟨⟨oA, on, oc⟩, ⟨pA, pn, pc⟩, x1, y1⟩ G L w.heap.size a X OU.out BW.out.size hon).mono ?_
    rintro e u3 ⟨⟨A3, n3, c3⟩, rfl, L3, O3, hu3⟩
    have Harg := hide (bx_step Harg.out hu3.out)
    have Hnum := hide (bx_step Hnum.out hu3.out)
    have Hres := hide (bx_step Hres.out hu3.out)
    have Hout := hide (bx_step Hout.out hu3.out)
    have SW := hide ((SW.out.below hu3.out (Nat.le_refl _)).more (hu3.out).size)
    have BW := hide (BW.out.trans (hu3.out.mono BW.out.size))
    clear hu3
    obtain ⟨cout, fout, lout⟩ := bx_all Hout.out
    have Parg := hide (bx_other (k := g) (i := 0) (x := .slice A3 n3 c3) Harg.out (by omega))
    have Pnum := hide (bx_other (k := g) (i := 0) (x := .slice A3 n3 c3) Hnum.out (by omega))
    have Pres := hide (bx_other (k := g) (i := 0) (x := .slice A3 n3 c3) Hres.out (by omega))
    have Pout := hide (heap_setCell_same u3 (g) 0 _ 27 (.slice A3 n3 c3) Hout.out)
    have O3 := hide (O3.out.cell Hout.out (by decide) (by decide) (by decide) 0 (.slice A3 n3 c3))
    have BV := hide (BW.out.setCell (p := ⟨g, 0, none⟩) (by dsimp only; omega) (.slice A3 n3 c3))
    obtain ⟨darg, earg, karg⟩ := bx_all Parg.out
    obtain ⟨dnum, enum, knum⟩ := bx_all Pnum.out
    go_wp2_with fail
    clear cout fout lout darg earg karg dnum enum knum
    clear Harg Hnum Hres Hout BW
    generalize u3.setCell ⟨g, 0, none⟩ (.slice A3 n3 c3) = V at Parg Pnum Pres Pout BV O3 ⊢
    have Harg : Hid (V.heap[w.heap.size]? = some (.cells #[.slice nA nn nc, .slice eA en ec, .int .i64 x, .int .i64 y] 27 (0, 0))) := Parg.out
    have Hnum : Hid (V.heap[w.heap.size + 1]? = some (.cells #[.int .i64 a] 3 (0, 0))) := Pnum.out
    have Hres : Hid (V.heap[w.heap.size + 2]? = some (.cells #[.slice none 0 0, .slice none 0 0, .int .i64 0, .int .i64 0] 27 (0, 0))) := Pres.out
    have Hout : Hid (V.heap[g]? = some (.cells #[.slice A3 n3 c3, .slice pA pn pc, .int .i64 x1, .int .i64 y1] 27 (0, 0))) := Pout.out
    have BW := BV
    clear BV Parg Pnum Pres Pout
    have SV := hide ((HSW.out.below BW.out (Nat.le_refl _)).more BW.out.size)
    have eg : ∀ args w, (callFunc 99 args).run Tryz.prog w = .ok (.enter 99 args) w := enters_of Tryz.func99 (by kernel_rfl) rfl
    refine (stayE_any 99 (w.heap.size + 1) (fun d => d.2.1 != a && d.2.2 != a) eA en ec G.E V SV.out.edges hen eg (fun u x' y' z' q hu hq => dropP_any x' y' z' a q (w.heap.size + 1) u (bx_all (bx_step Hnum.out hu)).2.2 ((bx_all (bx_step Hnum.out hu)).1 0) hq)).mono ?_
    clear eg SV
    rintro e u4 ⟨A4, n4, c4, rfl, hA4, hr4, hu4⟩
    have R4 := hide (own_less hr4 BW.out.size)
    have Harg := hide (bx_step Harg.out hu4)
    have Hnum := hide (bx_step Hnum.out hu4)
    have Hres := hide (bx_step Hres.out hu4)
    have Hout := hide (bx_step Hout.out hu4)
    have O3 := hide (O3.out.step hu4)
    have BW := hide (BW.out.trans (hu4.mono BW.out.size))
    clear hr4 hu4
    have OE := hide (O3.out.edges R4.out)
    obtain ⟨cout, fout, lout⟩ := bx_all Hout.out
    have Parg := hide (bx_other (k := g) (i := 1) (x := .slice A4 n4 c4) Harg.out (by omega))
    have Pnum := hide (bx_other (k := g) (i := 1) (x := .slice A4 n4 c4) Hnum.out (by omega))
    have Pres := hide (bx_other (k := g) (i := 1) (x := .slice A4 n4 c4) Hres.out (by omega))
    have Pout := hide (heap_setCell_same u4 (g) 1 _ 27 (.slice A4 n4 c4) Hout.out)
    have OE := hide (OE.out.cell Hout.out (by decide) (by decide) (by decide) 1 (.slice A4 n4 c4))
    have BV := hide (BW.out.setCell (p := ⟨g, 1, none⟩) (by dsimp only; omega) (.slice A4 n4 c4))
    obtain ⟨dout, eout, kout⟩ := bx_all Pout.out
    obtain ⟨dres, eres, kres⟩ := bx_all Pres.out
    have HF := hide (fin4 OE.out Pres.out BV.out (by omega))
    clear Hout Harg Hnum Hres BW O3
    go_wp2
    exact bodyPost_ret (row_two rfl _ _ (w.heap.size + 2) 27 _ (0, 0) _ rfl HF.out.1 Tryz.underlying27 rfl size27) rfl ⟨⟨⟨A3, n3, c3⟩, ⟨A4, n4, c4⟩, x1, y1⟩, rfl, ⟨_, HF.out.2.1⟩, HF.out.2.2⟩

end Go.Proofs.YtiiadkjiofkonaaGreat
