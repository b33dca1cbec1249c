/- A property set, and deleted: the code. -/
import Derived.Test.YtiiadkjiofkonaaGreatGCut
import Derived.Test.YtiiadkjiofkonaaGreatGJoin
import Derived.Test.YtiiadkjiofkonaaGreatGNear
import Derived.WalkKit
import Derived.Below
import Derived.Deep.QuietTactic
import Derived.BigQuiet
import Derived.Deep.RegionHeld3
import Derived.Shelf.Abstract
namespace Go.Proofs.YtiiadkjiofkonaaGreat
open Go.RowKit
set_option linter.unusedVariables false

/-- The boxes as they stand while a node's properties are changed. -/
structure Mid (w u : World) (ga gr g : Nat) (ca cr cg : Array Value) : Prop where
  bel : Below w.heap.size w u
  arg : u.heap[ga]? = some (.cells ca 27 (0, 0))
  res : u.heap[gr]? = some (.cells cr 27 (0, 0))
  out : u.heap[g]? = some (.cells cg 27 (0, 0))
section
variable {w u u1 : World} {ga gr g : Nat} {ca cr cg : Array Value}
theorem Mid.step (m : Mid w u ga gr g ca cr cg) (b : Below u.heap.size u u1) : Mid w u1 ga gr g ca cr cg := ⟨m.bel.trans (b.mono m.bel.size), bx_step m.arg b, bx_step m.res b, bx_step m.out b⟩
/-- A cell of a row of nodes is written. -/
theorem Mid.row {k t i : Nat} {cs : Array Value} {x : Value} (m : Mid w u ga gr g ca cr cg) (hk : u.heap[k]? = some (.cells cs t (0, 0))) (ht : t ≠ 27) (hB : w.heap.size ≤ k) : Mid w (u.setCell ⟨k, i, none⟩ x) ga gr g ca cr cg :=
  ⟨m.bel.setCell (p := ⟨k, i, none⟩) hB x, bx_other m.arg (type_ne m.arg hk (Ne.symm ht)), bx_other m.res (type_ne m.res hk (Ne.symm ht)), bx_other m.out (type_ne m.out hk (Ne.symm ht))⟩
theorem Own.block {B : Nat} {v : Gv} {G : GL} {L : List (Int × Sl)} (o : Own u B v G L) {k : Nat} (h : v.N.A = some ⟨k, 0, Option.none⟩) : ∃ cs, u.heap[k]? = some (.cells cs 61 (0, 0)) := by
  rcases o.rows.2 with ⟨h1, _⟩ | ⟨k', cap, cur, hv, _, hk, _⟩
  · injection h1 with h2
    rw [h] at h2
    cases h2
  · injection hv with e1
    rw [h] at e1
    simp only [Option.some.injEq, Addr.mk.injEq, and_true] at e1
    subst e1
    exact ⟨cur, hk⟩
/-- The cell of a node's properties in the row: it may be written. -/
theorem Own.cellAt {B : Nat} {v : Gv} {G : GL} {L : List (Int × Sl)} (o : Own u B v G L) {k p : Nat} (h : v.N.A = some ⟨k, 0, Option.none⟩) (hp : p < v.N.n) : u.cell? ⟨k, p * 2 + 1, Option.none⟩ = some (.slice (L.getD p (0, noSl)).2.A (L.getD p (0, noSl)).2.n (L.getD p (0, noSl)).2.c) ∧ u.frozen? ⟨k, p * 2 + 1, Option.none⟩ = false ∧ k < u.heap.size ∧ B ≤ k := by
  obtain ⟨k', e, hB, hl, _, h2⟩ := o.at_ hp
  rw [h] at e
  simp only [Option.some.injEq, Addr.mk.injEq, and_true] at e
  subst e
  obtain ⟨cs, hc⟩ := o.block h
  exact ⟨h2, frozen_of_row _ _ _ _ 61 hc, hl, hB⟩
end

def setR (G : GL) (n k v : Int) : Int × GL := if atf (fun z : Nd => z.1) G.N n < 0 then (2, noG) else (0, setN G (posN G n) (putP (prsAt G (posN G n)) k v))
theorem setR_none {G : GL} {n k v : Int} (h : atf (fun z : Nd => z.1) G.N n < 0) : setR G n k v = (2, noG) := if_pos h
theorem setR_ok {G : GL} {n k v : Int} (h : ¬ atf (fun z : Nd => z.1) G.N n < 0) : setR G n k v = (0, setN G (posN G n) (putP (prsAt G (posN G n)) k v)) := if_neg h
def delR (G : GL) (n k : Int) : Int × GL := if atf (fun z : Nd => z.1) G.N n < 0 ∨ atf (fun z : Pr => z.1) (prsAt G (posN G n)) k < 0 then (2, noG) else (0, setN G (posN G n) ((prsAt G (posN G n)).filter fun q => q.1 != k))
theorem delR_none {G : GL} {n k : Int} (h : atf (fun z : Nd => z.1) G.N n < 0 ∨ atf (fun z : Pr => z.1) (prsAt G (posN G n)) k < 0) : delR G n k = (2, noG) := if_pos h
theorem delR_ok {G : GL} {n k : Int} (h : ¬ atf (fun z : Nd => z.1) G.N n < 0) (h2 : ¬ atf (fun z : Pr => z.1) (prsAt G (posN G n)) k < 0) : delR G n k = (0, setN G (posN G n) ((prsAt G (posN G n)).filter fun q => q.1 != k)) := if_neg (by rintro (x | x); exact h x; exact h2 x)
/-- What the call that tells the new properties leaves, and what stands behind the store of them. -/
theorem laid_call {w X u4 : World} {ga gr g p gN on oc n4 c4 : Nat} {A4 : Option Addr} {ca cr cg : Array Value} {e : Sl} {x y : Int} {G : GL} {L : List (Int × Sl)} {l : List Pr} (M : Mid w X ga gr g ca cr cg) (O : Own X w.heap.size ⟨⟨some ⟨gN, 0, none⟩, on, oc⟩, e, x, y⟩ G L) (hp : p < on)
    (hr : u4.ownsRow X.drew.heap.size 83 2 (.slice A4 n4 c4) n4 (ints (flat2 l))) (hu : Below X.drew.heap.size X.drew u4) :
    Hid (Mid w u4 ga gr g ca cr cg) ∧ Hid (u4.ownsRow w.heap.size 83 2 (.slice A4 n4 c4) n4 (ints (flat2 l))) ∧ Hid (Own u4 w.heap.size ⟨⟨some ⟨gN, 0, none⟩, on, oc⟩, e, x, y⟩ G L) ∧
    u4.cell? ⟨gN, p * 2 + 1, none⟩ = some (.slice (L.getD p (0, noSl)).2.A (L.getD p (0, noSl)).2.n (L.getD p (0, noSl)).2.c) ∧ u4.frozen? ⟨gN, p * 2 + 1, none⟩ = false ∧
    Hid (Mid w (u4.setCell ⟨gN, p * 2 + 1, none⟩ (.slice A4 n4 c4)) ga gr g ca cr cg) := by
  have b1 : Below X.heap.size X u4 := (Below.refl _ X).drew.trans hu
  have O4 := O.step b1
  obtain ⟨y4, f4, l4, hB⟩ := O4.cellAt rfl hp
  obtain ⟨cs, hc⟩ := O4.block rfl
  exact ⟨M.step b1, own_less hr M.bel.size, O4, y4, f4, (M.step b1).row hc (by decide) hB⟩

set_option maxRecDepth 100000 in
set_option maxHeartbeats 4000000 in
theorem set_any (v : Gv) (G R : GL) (a ky vl er : Int) (w : World) (S : Sees w w.heap.size v G) (HS : Small G) (hr : Hid (setR G a ky vl = (er, R))) :
    Calls Tryz.prog 62 #[v.val, .int .i64 a, .int .i64 ky, .int .i64 vl] w fun e w' => ∃ v', e = .returned (.tuple #[Gv.val v', .int .i64 er]) ∧ Hid (Mine w w' v' R) ∧ Hid (Below w.heap.size w w') := by
  obtain ⟨⟨nA, nn, nc⟩, ⟨eA, en, ec⟩, x, y⟩ := v
  show Calls Tryz.prog 62 #[.agg #[.slice nA nn nc, .slice eA en ec, .int .i64 x, .int .i64 y], .int .i64 a, .int .i64 ky, .int .i64 vl] w _
  have SW := hide S
  have HSW := hide S
  have HSM := hide HS
  have ln := S.nodes.1
  have le := edges_len S.edges
  dsimp only at ln le
  have hnn : nn ≤ 1000 := by have := HS.n; omega
  have hen : en ≤ 1000 := by have := HS.e; omega
  have LN := hide ln
  clear S HS ln le
  obtain ⟨r, Hr⟩ : ∃ r, Hid (atf (fun z : Nd => z.1) G.N a = r) := ⟨_, rfl⟩
  obtain ⟨W, hW⟩ : ∃ W, Hid ((w.alloc (.cells #[.slice nA nn nc, .slice eA en ec, .int .i64 x, .int .i64 y] 27)).alloc (.cells #[.slice none 0 0, .slice none 0 0, .int .i64 0, .int .i64 0] 27) = W) := ⟨_, rfl⟩
  have BW : Hid (Below w.heap.size w W) := by show Below _ _ _; rw [← hW.out]; exact boxed2 w _ _
  have HZ : Hid (W.heap.size = w.heap.size + 2) := by show _ = _; rw [← hW.out]; simp
  have Harg : Hid (W.heap[w.heap.size]? = some (.cells #[.slice nA nn nc, .slice eA en ec, .int .i64 x, .int .i64 y] 27 (0, 0))) := by show _ = _; rw [← hW.out]; exact heap_alloc2_old w _ _
  have Hres : Hid (W.heap[w.heap.size + 1]? = some (.cells #[.slice none 0 0, .slice none 0 0, .int .i64 0, .int .i64 0] 27 (0, 0))) := by show _ = _; rw [← hW.out]; exact heap_alloc2_new w _ _
  have SW := hide ((SW.out.below BW.out (Nat.le_refl _)).more BW.out.size)
  go_enter Tryz.func62, Tryz.ntmps62
  go_wp2_with fail
  have hW' := hW.out
  rw [hW']
  clear hW hW'
  refine (findN_any ⟨nA, nn, nc⟩ G.N a r _ SW.out.nodes hnn Hr).mono ?_
  rintro e u1 ⟨rfl, hb1⟩
  have Harg := hide (bx_step Harg.out hb1)
  have Hres := hide (bx_step Hres.out hb1)
  have SW := hide ((SW.out.below hb1 (Nat.le_refl _)).more (hb1).size)
  have BW := hide (BW.out.trans (hb1.mono BW.out.size))
  clear hb1
  by_cases t : r < 0
  ·
    have t1 : decide (r < 0) = true := by simpa using t
    have HR : Hid ((2, noG) = (er, R)) := by show _ = _; rw [← hr.out]; exact (setR_none (by rw [Hr.out]; exact t)).symm
    obtain ⟨rfl, rfl⟩ : 2 = er ∧ noG = R := by have := HR.out; simp only [Prod.mk.injEq] at this; exact this
    clear HR hr
    have HF := hide (fin4 (Own.none _ w.heap.size) Hres.out BW.out (by omega))
    obtain ⟨cres, fres, lres⟩ := bx_all Hres.out
    go_wp2
    exact bodyPost_ret (row_two rfl _ _ (w.heap.size + 1) 27 _ (0, 0) _ rfl HF.out.1 Tryz.underlying27 rfl size27) rfl ⟨noGv, rfl, ⟨_, HF.out.2.1⟩, HF.out.2.2⟩
  ·
    have t1 : decide (r < 0) = false := by simpa using t
    have HT := hide t
    obtain ⟨p, hp0, hp1, hp2⟩ := atf_pos Hr.out t
    subst hp0
    have HPp : Hid (posN G a = p) := hp2
    have hp : p < nn := by have := LN.out; omega
    have ip : (0 : Int) ≤ (p : Int) := by omega
    have jp : (p : Int) < (nn : Int) := by omega
    clear hp2 hp1
    clear t
    obtain ⟨b0, off, e0, hb0, d0, ⟨hA, hh, hcc⟩, d1, hP⟩ := HSW.out.nodes.at_ (k := p) hp
    dsimp only at e0 d1
    subst e0
    have HB0 := hide hb0
    have HD := hide d1
    have HP := hide hP
    have hhb : hh ≤ 300 := by have := HSM.out.p p (by have := LN.out; omega); have := hP.len; dsimp only at this; omega
    have HRW : Hid (prsAt G (posN G a) = (G.N.getD p (0, [])).2) := by show _ = _; rw [HPp.out]; rfl
    clear hP d0 d1 hb0
    have HR : Hid ((0, setN G (posN G a) (putP (prsAt G (posN G a)) ky vl)) = (er, R)) := by show _ = _; rw [← hr.out]; exact (setR_ok (by rw [Hr.out]; omega)).symm
    obtain ⟨rfl, rfl⟩ : 0 = er ∧ setN G (posN G a) (putP (prsAt G (posN G a)) ky vl) = R := by have := HR.out; simp only [Prod.mk.injEq] at this; exact this
    clear HR hr
    obtain ⟨carg, farg, larg⟩ := bx_all Harg.out
    go_wp2_with fail
    refine (fresh_any ⟨⟨some ⟨b0, off, none⟩, nn, nc⟩, ⟨eA, en, ec⟩, x, y⟩ G _ SW.out hnn hen (fun j hj => by have := HSM.out.p j hj; omega)).mono ?_
    rintro e u3 ⟨⟨⟨oA, on, oc⟩, ⟨pA, pn, pc⟩, x1, y1⟩, L, rfl, O1, B1⟩
    have hon : on ≤ 1000 := by have := O1.out.many; have := HSM.out.n; dsimp only at *; omega
    have OU := hide (O1.out.less BW.out.size)
    clear carg farg larg
    have Harg := hide (bx_step Harg.out B1.out)
    have Hres := hide (bx_step Hres.out B1.out)
    have SW := hide ((SW.out.below B1.out (Nat.le_refl _)).more (B1.out).size)
    have BW := hide (BW.out.trans (B1.out.mono BW.out.size))
    clear O1 B1
    have hpo : p < on := by have h1 : on = G.N.length := OU.out.many; have h2 := LN.out; omega
    have jo : (p : Int) < (on : Int) := by omega
    obtain ⟨gN, eN⟩ : ∃ gN, oA = some ⟨gN, 0, none⟩ := by obtain ⟨g, e, _⟩ := OU.out.at_ (k := p) hpo; exact ⟨g, e⟩
    subst eN
    obtain ⟨carg, farg, larg⟩ := bx_all Harg.out
    obtain ⟨X, hX⟩ : ∃ X, Hid (u3.alloc (.cells #[.slice (some ⟨gN, 0, none⟩) on oc, .slice pA pn pc, .int .i64 x1, .int .i64 y1] 27) = X) := ⟨_, rfl⟩
    obtain ⟨g, hg⟩ : ∃ g, Hid (u3.heap.size = g) := ⟨_, rfl⟩
    have BXX : Hid (Below u3.heap.size u3 X) := by show Below _ _ _; rw [← hX.out]; exact (Below.refl _ _).alloc (Nat.le_refl _) _
    have MX : Hid (Mid w X (w.heap.size) (w.heap.size + 1) g #[.slice (some ⟨b0, off, none⟩) nn nc, .slice eA en ec, .int .i64 x, .int .i64 y] #[.slice none 0 0, .slice none 0 0, .int .i64 0, .int .i64 0] #[.slice (some ⟨gN, 0, none⟩) on oc, .slice pA pn pc, .int .i64 x1, .int .i64 y1]) := ⟨BW.out.trans (BXX.out.mono BW.out.size), bx_step Harg.out BXX.out, bx_step Hres.out BXX.out, by rw [← hX.out, ← hg.out]; exact heap_alloc_new _ _⟩
    have HPX := hide ((HP.out.below (BW.out.trans (BXX.out.mono BW.out.size)) (Nat.le_refl _)).more (BW.out.trans (BXX.out.mono BW.out.size)).size)
    have OX := hide (OU.out.step BXX.out)
    go_wp2
    have hX' := hX.out
    have hg' := hg.out
    rw [hX', hg']
    clear hX hg hX' hg'
    clear carg farg larg
    clear Harg Hres BW SW OU BXX
    have D0 := hide ((Below.refl X.heap.size X).drew)
    have M0 := hide (MX.out.step D0.out)
    have RD : Hid (∀ u, Hid (Mid w u (w.heap.size) (w.heap.size + 1) g #[.slice (some ⟨b0, off, none⟩) nn nc, .slice eA en ec, .int .i64 x, .int .i64 y] #[.slice none 0 0, .slice none 0 0, .int .i64 0, .int .i64 0] #[.slice (some ⟨gN, 0, none⟩) on oc, .slice pA pn pc, .int .i64 x1, .int .i64 y1]) → (fun u => u.cell? ⟨g, 0, none⟩ = some (.slice (some ⟨gN, 0, none⟩) on oc) ∧ u.cell? ⟨w.heap.size, 0, none⟩ = some (.slice (some ⟨b0, off, none⟩) nn nc) ∧ u.cell? ⟨b0, off + p * 2 + 1, none⟩ = some (.slice hA hh hcc) ∧ Hid (Mid w u (w.heap.size) (w.heap.size + 1) g #[.slice (some ⟨b0, off, none⟩) nn nc, .slice eA en ec, .int .i64 x, .int .i64 y] #[.slice none 0 0, .slice none 0 0, .int .i64 0, .int .i64 0] #[.slice (some ⟨gN, 0, none⟩) on oc, .slice pA pn pc, .int .i64 x1, .int .i64 y1])) u) := fun u hu => ⟨(bx_all hu.out.out).1 0, (bx_all hu.out.arg).1 0, (hu.out.bel.cell (p := ⟨b0, _, none⟩) HB0.out).trans HD.out, hu⟩
    go_region_held3 (fun u => u.cell? ⟨g, 0, none⟩ = some (.slice (some ⟨gN, 0, none⟩) on oc) ∧ u.cell? ⟨w.heap.size, 0, none⟩ = some (.slice (some ⟨b0, off, none⟩) nn nc) ∧ u.cell? ⟨b0, off + p * 2 + 1, none⟩ = some (.slice hA hh hcc) ∧ Hid (Mid w u (w.heap.size) (w.heap.size + 1) g #[.slice (some ⟨b0, off, none⟩) nn nc, .slice eA en ec, .int .i64 x, .int .i64 y] #[.slice none 0 0, .slice none 0 0, .int .i64 0, .int .i64 0] #[.slice (some ⟨gN, 0, none⟩) on oc, .slice pA pn pc, .int .i64 x1, .int .i64 y1])) (first | exact RD.out _ M0 | exact RD.out _ M5 | exact RD.out _ (by assumption))
      ((go_at_call 88; refine (withPair_any hA hh hcc (G.N.getD p (0, [])).2 ky vl X.drew ((HPX.out.below D0.out (Nat.le_refl _)).more D0.out.size) (by omega)).mono ?_; rintro r' u4 ⟨A4, n4, c4, rfl, hA4, hr4, hu4⟩; have LAY := hide (laid_call MX.out OX.out hpo hr4 hu4); obtain ⟨M4, R4, O4, y4, f4, M5⟩ := LAY.out; clear hr4 hu4))
    clear RD D0 M0
    have OS := hide (O4.out.setP (by have h2 := LN.out; omega : p < G.N.length) R4.out)
    have HG : Hid (setN G p (putP (G.N.getD p (0, [])).2 ky vl) = setN G (posN G a) (putP (prsAt G (posN G a)) ky vl)) := by show _ = _; rw [HRW.out, HPp.out]
    generalize u4.setCell ⟨gN, p * 2 + 1, none⟩ (.slice A4 n4 c4) = V at M5 OS ⊢
    obtain ⟨cg, fg, lg⟩ := bx_all M5.out.out
    obtain ⟨cr, fr, lr⟩ := bx_all M5.out.res
    have HF := hide (fin4 OS.out M5.out.res M5.out.bel (by omega))
    clear M4 R4 O4 LAY y4 f4 M5 OS OX MX HP HPX HD HB0
    go_wp2
    exact bodyPost_ret (row_two rfl _ _ (w.heap.size + 1) 27 _ (0, 0) _ rfl HF.out.1 Tryz.underlying27 rfl size27) rfl ⟨⟨⟨some ⟨gN, 0, none⟩, on, oc⟩, ⟨pA, pn, pc⟩, x1, y1⟩, rfl, ⟨_, by have := HF.out.2.1; rw [HG.out] at this; exact this⟩, HF.out.2.2⟩

set_option maxRecDepth 100000 in
set_option maxHeartbeats 4000000 in
theorem del_any (v : Gv) (G R : GL) (a ky er : Int) (w : World) (S : Sees w w.heap.size v G) (HS : Small G) (hr : Hid (delR G a ky = (er, R))) :
    Calls Tryz.prog 64 #[v.val, .int .i64 a, .int .i64 ky] w fun e w' => ∃ v', e = .returned (.tuple #[Gv.val v', .int .i64 er]) ∧ Hid (Mine w w' v' R) ∧ Hid (Below w.heap.size w w') := by
  obtain ⟨⟨nA, nn, nc⟩, ⟨eA, en, ec⟩, x, y⟩ := v
  show Calls Tryz.prog 64 #[.agg #[.slice nA nn nc, .slice eA en ec, .int .i64 x, .int .i64 y], .int .i64 a, .int .i64 ky] w _
  have SW := hide S
  have HSW := hide S
  have HSM := hide HS
  have ln := S.nodes.1
  have le := edges_len S.edges
  dsimp only at ln le
  have hnn : nn ≤ 1000 := by have := HS.n; omega
  have hen : en ≤ 1000 := by have := HS.e; omega
  have LN := hide ln
  clear S HS ln le
  obtain ⟨r, Hr⟩ : ∃ r, Hid (atf (fun z : Nd => z.1) G.N a = r) := ⟨_, rfl⟩
  obtain ⟨W, hW⟩ : ∃ W, Hid (((w.alloc (.cells #[.slice nA nn nc, .slice eA en ec, .int .i64 x, .int .i64 y] 27)).alloc (.cells #[.int .i64 ky] 3)).alloc (.cells #[.slice none 0 0, .slice none 0 0, .int .i64 0, .int .i64 0] 27) = W) := ⟨_, rfl⟩
  have BW : Hid (Below w.heap.size w W) := by show Below _ _ _; rw [← hW.out]; exact boxed3 w _ _ _
  have HZ : Hid (W.heap.size = w.heap.size + 3) := by show _ = _; rw [← hW.out]; simp
  have Harg : Hid (W.heap[w.heap.size]? = some (.cells #[.slice nA nn nc, .slice eA en ec, .int .i64 x, .int .i64 y] 27 (0, 0))) := by show _ = _; rw [← hW.out]; exact bx_alloc (heap_alloc2_old w _ _) _
  have Hnum : Hid (W.heap[w.heap.size + 1]? = some (.cells #[.int .i64 ky] 3 (0, 0))) := by show _ = _; rw [← hW.out]; exact bx_alloc (heap_alloc2_new w _ _) _
  have Hres : Hid (W.heap[w.heap.size + 2]? = some (.cells #[.slice none 0 0, .slice none 0 0, .int .i64 0, .int .i64 0] 27 (0, 0))) := by show _ = _; rw [← hW.out]; exact heap_alloc3_new w _ _ _
  have SW := hide ((SW.out.below BW.out (Nat.le_refl _)).more BW.out.size)
  go_enter Tryz.func64, Tryz.ntmps64
  go_wp2_with fail
  have hW' := hW.out
  rw [hW']
  clear hW hW'
  refine (findN_any ⟨nA, nn, nc⟩ G.N a r _ SW.out.nodes hnn Hr).mono ?_
  rintro e u1 ⟨rfl, hb1⟩
  have Harg := hide (bx_step Harg.out hb1)
  have Hnum := hide (bx_step Hnum.out hb1)
  have Hres := hide (bx_step Hres.out hb1)
  have SW := hide ((SW.out.below hb1 (Nat.le_refl _)).more (hb1).size)
  have BW := hide (BW.out.trans (hb1.mono BW.out.size))
  clear hb1
  by_cases t : r < 0
  ·
    have t1 : decide (r < 0) = true := by simpa using t
    have HR : Hid ((2, noG) = (er, R)) := by show _ = _; rw [← hr.out]; exact (delR_none (.inl (by rw [Hr.out]; exact t))).symm
    obtain ⟨rfl, rfl⟩ : 2 = er ∧ noG = R := by have := HR.out; simp only [Prod.mk.injEq] at this; exact this
    clear HR hr
    obtain ⟨carg, farg, larg⟩ := bx_all Harg.out
    obtain ⟨cnum, fnum, lnum⟩ := bx_all Hnum.out
    obtain ⟨cres, fres, lres⟩ := bx_all Hres.out
    go_wp2
    go_quiet (fail)
    go_wp2
    have HF := hide (fin4 (V := u1.drewN nq) (g := w.heap.size + 2) (Own.none _ w.heap.size) Hres.out (Below.drewN BW.out nq) (by omega))
    exact bodyPost_ret (row_two rfl _ _ (w.heap.size + 2) 27 _ (0, 0) _ rfl HF.out.1 Tryz.underlying27 rfl size27) rfl ⟨noGv, rfl, ⟨_, HF.out.2.1⟩, HF.out.2.2⟩
  ·
    have t1 : decide (r < 0) = false := by simpa using t
    have HT := hide t
    obtain ⟨p, hp0, hp1, hp2⟩ := atf_pos Hr.out t
    subst hp0
    have HPp : Hid (posN G a = p) := hp2
    have hp : p < nn := by have := LN.out; omega
    have ip : (0 : Int) ≤ (p : Int) := by omega
    have jp : (p : Int) < (nn : Int) := by omega
    clear hp2 hp1
    clear t
    obtain ⟨b0, off, e0, hb0, d0, ⟨hA, hh, hcc⟩, d1, hP⟩ := HSW.out.nodes.at_ (k := p) hp
    dsimp only at e0 d1
    subst e0
    have HB0 := hide hb0
    have HD := hide d1
    have HP := hide hP
    have hhb : hh ≤ 300 := by have := HSM.out.p p (by have := LN.out; omega); have := hP.len; dsimp only at this; omega
    have HRW : Hid (prsAt G (posN G a) = (G.N.getD p (0, [])).2) := by show _ = _; rw [HPp.out]; rfl
    clear hP d0 d1 hb0
    obtain ⟨r2, Hr2⟩ : ∃ r2, Hid (atf (fun z : Pr => z.1) (G.N.getD p (0, [])).2 ky = r2) := ⟨_, rfl⟩
    obtain ⟨carg, farg, larg⟩ := bx_all Harg.out
    obtain ⟨cnum, fnum, lnum⟩ := bx_all Hnum.out
    have d1 := (BW.out.cell (p := ⟨b0, _, none⟩) HB0.out).trans HD.out
    have hb1 := Nat.lt_of_lt_of_le HB0.out BW.out.size
    have D0 := hide ((Below.refl u1.heap.size u1).drew)
    have RD : Hid (∀ u, Hid (Below u1.heap.size u1 u) → (fun u => u.cell? ⟨w.heap.size, 0, none⟩ = some (.slice (some ⟨b0, off, none⟩) nn nc) ∧ u.cell? ⟨b0, off + p * 2 + 1, none⟩ = some (.slice hA hh hcc) ∧ u.cell? ⟨w.heap.size + 1, 0, none⟩ = some (.int .i64 ky) ∧ Hid (Below u1.heap.size u1 u)) u) := fun u hu => ⟨(hu.out.cell (p := ⟨_, _, none⟩) larg).trans (carg 0), (hu.out.cell (p := ⟨_, _, none⟩) hb1).trans d1, (hu.out.cell (p := ⟨_, _, none⟩) lnum).trans (cnum 0), hu⟩
    by_cases t2 : r2 < 0
    ·
      have t3 : decide (r2 < 0) = true := by simpa using t2
      have HR : Hid ((2, noG) = (er, R)) := by show _ = _; rw [← hr.out]; exact (delR_none (.inr (by rw [HRW.out, Hr2.out]; exact t2))).symm
      obtain ⟨rfl, rfl⟩ : 2 = er ∧ noG = R := by have := HR.out; simp only [Prod.mk.injEq] at this; exact this
      clear HR hr
      clear t2
      go_wp2
      go_region_held3 (fun u => u.cell? ⟨w.heap.size, 0, none⟩ = some (.slice (some ⟨b0, off, none⟩) nn nc) ∧ u.cell? ⟨b0, off + p * 2 + 1, none⟩ = some (.slice hA hh hcc) ∧ u.cell? ⟨w.heap.size + 1, 0, none⟩ = some (.int .i64 ky) ∧ Hid (Below u1.heap.size u1 u)) (first | exact RD.out _ D0 | exact RD.out _ (by assumption))
        ((go_at_call 89; refine (findP_any hA hh hcc _ ky r2 u1.drew (((HP.out.below BW.out (Nat.le_refl _)).more BW.out.size).1.step D0.out) (by omega) Hr2).mono ?_; rintro r' u2 ⟨rfl, hu2⟩; have BU := hide (D0.out.trans hu2); clear hu2))
      clear RD D0 d1 hb1
      clear carg farg larg cnum fnum lnum
      have Harg := hide (bx_step Harg.out BU.out)
      have Hnum := hide (bx_step Hnum.out BU.out)
      have Hres := hide (bx_step Hres.out BU.out)
      have SW := hide ((SW.out.below BU.out (Nat.le_refl _)).more (BU.out).size)
      have BW := hide (BW.out.trans (BU.out.mono BW.out.size))
      clear BU
      have HF := hide (fin4 (Own.none _ w.heap.size) Hres.out BW.out (by omega))
      obtain ⟨cres, fres, lres⟩ := bx_all Hres.out
      go_wp2
      exact bodyPost_ret (row_two rfl _ _ (w.heap.size + 2) 27 _ (0, 0) _ rfl HF.out.1 Tryz.underlying27 rfl size27) rfl ⟨noGv, rfl, ⟨_, HF.out.2.1⟩, HF.out.2.2⟩
    ·
      have t3 : decide (r2 < 0) = false := by simpa using t2
      have T2 : Hid (¬ r2 < 0) := t2
      have HR : Hid ((0, setN G (posN G a) ((prsAt G (posN G a)).filter fun q => q.1 != ky)) = (er, R)) := by show _ = _; rw [← hr.out]; exact (delR_ok (by rw [Hr.out]; omega) (by rw [HRW.out, Hr2.out]; exact T2.out)).symm
      obtain ⟨rfl, rfl⟩ : 0 = er ∧ setN G (posN G a) ((prsAt G (posN G a)).filter fun q => q.1 != ky) = R := by have := HR.out; simp only [Prod.mk.injEq] at this; exact this
      clear HR hr
      clear t2 T2
      go_wp2
      go_region_held3 (fun u => u.cell? ⟨w.heap.size, 0, none⟩ = some (.slice (some ⟨b0, off, none⟩) nn nc) ∧ u.cell? ⟨b0, off + p * 2 + 1, none⟩ = some (.slice hA hh hcc) ∧ u.cell? ⟨w.heap.size + 1, 0, none⟩ = some (.int .i64 ky) ∧ Hid (Below u1.heap.size u1 u)) (first | exact RD.out _ D0 | exact RD.out _ (by assumption))
        ((go_at_call 89; refine (findP_any hA hh hcc _ ky r2 u1.drew (((HP.out.below BW.out (Nat.le_refl _)).more BW.out.size).1.step D0.out) (by omega) Hr2).mono ?_; rintro r' u2 ⟨rfl, hu2⟩; have BU := hide (D0.out.trans hu2); clear hu2))
      clear RD D0 d1 hb1
      clear carg farg larg cnum fnum lnum
      have Harg := hide (bx_step Harg.out BU.out)
      have Hnum := hide (bx_step Hnum.out BU.out)
      have Hres := hide (bx_step Hres.out BU.out)
      have SW := hide ((SW.out.below BU.out (Nat.le_refl _)).more (BU.out).size)
      have BW := hide (BW.out.trans (BU.out.mono BW.out.size))
      clear BU
      obtain ⟨carg, farg, larg⟩ := bx_all Harg.out
      go_wp2_with fail
      refine (fresh_any ⟨⟨some ⟨b0, off, none⟩, nn, nc⟩, ⟨eA, en, ec⟩, x, y⟩ G _ SW.out hnn hen (fun j hj => by have := HSM.out.p j hj; omega)).mono ?_
      rintro e u3 ⟨⟨⟨oA, on, oc⟩, ⟨pA, pn, pc⟩, x1, y1⟩, L, rfl, O1, B1⟩
      have hon : on ≤ 1000 := by have := O1.out.many; have := HSM.out.n; dsimp only at *; omega
      have OU := hide (O1.out.less BW.out.size)
      clear carg farg larg
      have Harg := hide (bx_step Harg.out B1.out)
      have Hnum := hide (bx_step Hnum.out B1.out)
      have Hres := hide (bx_step Hres.out B1.out)
      have SW := hide ((SW.out.below B1.out (Nat.le_refl _)).more (B1.out).size)
      have BW := hide (BW.out.trans (B1.out.mono BW.out.size))
      clear O1 B1
      have hpo : p < on := by have h1 : on = G.N.length := OU.out.many; have h2 := LN.out; omega
      have jo : (p : Int) < (on : Int) := by omega
      obtain ⟨gN, eN⟩ : ∃ gN, oA = some ⟨gN, 0, none⟩ := by obtain ⟨g, e, _⟩ := OU.out.at_ (k := p) hpo; exact ⟨g, e⟩
      subst eN
      obtain ⟨carg, farg, larg⟩ := bx_all Harg.out
      obtain ⟨X, hX⟩ : ∃ X, Hid (u3.alloc (.cells #[.slice (some ⟨gN, 0, none⟩) on oc, .slice pA pn pc, .int .i64 x1, .int .i64 y1] 27) = X) := ⟨_, rfl⟩
      obtain ⟨g, hg⟩ : ∃ g, Hid (u3.heap.size = g) := ⟨_, rfl⟩
      have BXX : Hid (Below u3.heap.size u3 X) := by show Below _ _ _; rw [← hX.out]; exact (Below.refl _ _).alloc (Nat.le_refl _) _
      have MX : Hid (Mid w X (w.heap.size) (w.heap.size + 2) g #[.slice (some ⟨b0, off, none⟩) nn nc, .slice eA en ec, .int .i64 x, .int .i64 y] #[.slice none 0 0, .slice none 0 0, .int .i64 0, .int .i64 0] #[.slice (some ⟨gN, 0, none⟩) on oc, .slice pA pn pc, .int .i64 x1, .int .i64 y1]) := ⟨BW.out.trans (BXX.out.mono BW.out.size), bx_step Harg.out BXX.out, bx_step Hres.out BXX.out, by rw [← hX.out, ← hg.out]; exact heap_alloc_new _ _⟩
      have HPX := hide ((HP.out.below (BW.out.trans (BXX.out.mono BW.out.size)) (Nat.le_refl _)).more (BW.out.trans (BXX.out.mono BW.out.size)).size)
      have OX := hide (OU.out.step BXX.out)
      have HNm := hide (bx_step Hnum.out BXX.out)
      go_wp2
      have hX' := hX.out
      have hg' := hg.out
      rw [hX', hg']
      clear hX hg hX' hg'
      clear carg farg larg
      clear Harg Hres BW SW OU BXX Hnum
      have D0 := hide ((Below.refl X.heap.size X).drew)
      have M0 := hide (MX.out.step D0.out)
      have RD : Hid (∀ u, Hid (Mid w u (w.heap.size) (w.heap.size + 2) g #[.slice (some ⟨b0, off, none⟩) nn nc, .slice eA en ec, .int .i64 x, .int .i64 y] #[.slice none 0 0, .slice none 0 0, .int .i64 0, .int .i64 0] #[.slice (some ⟨gN, 0, none⟩) on oc, .slice pA pn pc, .int .i64 x1, .int .i64 y1]) → (fun u => u.cell? ⟨g, 0, none⟩ = some (.slice (some ⟨gN, 0, none⟩) on oc) ∧ u.cell? ⟨w.heap.size, 0, none⟩ = some (.slice (some ⟨b0, off, none⟩) nn nc) ∧ u.cell? ⟨b0, off + p * 2 + 1, none⟩ = some (.slice hA hh hcc) ∧ Hid (Mid w u (w.heap.size) (w.heap.size + 2) g #[.slice (some ⟨b0, off, none⟩) nn nc, .slice eA en ec, .int .i64 x, .int .i64 y] #[.slice none 0 0, .slice none 0 0, .int .i64 0, .int .i64 0] #[.slice (some ⟨gN, 0, none⟩) on oc, .slice pA pn pc, .int .i64 x1, .int .i64 y1])) u) := fun u hu => ⟨(bx_all hu.out.out).1 0, (bx_all hu.out.arg).1 0, (hu.out.bel.cell (p := ⟨b0, _, none⟩) HB0.out).trans HD.out, hu⟩
      have hmf : ∀ (fn : Fn) (first cap : Array Value) (w : World), (Instr.makeFunc fn first cap).run Tryz.prog w = .ok (.func fn first cap) w := fun _ _ _ _ => rfl
      have eg : ∀ args w, (callFunc 92 args).run Tryz.prog w = .ok (.enter 92 args) w := enters_of Tryz.func92 (by kernel_rfl) rfl
      have HCD := hide (stayP_any 92 (w.heap.size + 1) (fun q => q.1 != ky) hA hh hcc (G.N.getD p (0, [])).2 X.drew (HPX.out.1.step D0.out) (by omega) eg (fun u x' y' q hu hq => delP_any x' y' ky q (w.heap.size + 1) u (bx_all (bx_step (bx_step HNm.out D0.out) hu)).2.2 ((bx_all (bx_step (bx_step HNm.out D0.out) hu)).1 0) hq))
      clear eg
      go_region_held3 (fun u => u.cell? ⟨g, 0, none⟩ = some (.slice (some ⟨gN, 0, none⟩) on oc) ∧ u.cell? ⟨w.heap.size, 0, none⟩ = some (.slice (some ⟨b0, off, none⟩) nn nc) ∧ u.cell? ⟨b0, off + p * 2 + 1, none⟩ = some (.slice hA hh hcc) ∧ Hid (Mid w u (w.heap.size) (w.heap.size + 2) g #[.slice (some ⟨b0, off, none⟩) nn nc, .slice eA en ec, .int .i64 x, .int .i64 y] #[.slice none 0 0, .slice none 0 0, .int .i64 0, .int .i64 0] #[.slice (some ⟨gN, 0, none⟩) on oc, .slice pA pn pc, .int .i64 x1, .int .i64 y1])) (first | exact RD.out _ M0 | exact RD.out _ M5 | exact RD.out _ (by assumption))
        ((go_at_call 91; refine HCD.out.mono ?_; rintro r' u4 ⟨A4, n4, c4, rfl, hA4, hr4, hu4⟩; have LAY := hide (laid_call MX.out OX.out hpo hr4 hu4); obtain ⟨M4, R4, O4, y4, f4, M5⟩ := LAY.out; clear hr4 hu4))
      clear RD D0 M0
      have OS := hide (O4.out.setP (by have h2 := LN.out; omega : p < G.N.length) R4.out)
      have HG : Hid (setN G p ((G.N.getD p (0, [])).2.filter fun q => q.1 != ky) = setN G (posN G a) ((prsAt G (posN G a)).filter fun q => q.1 != ky)) := by show _ = _; rw [HRW.out, HPp.out]
      generalize u4.setCell ⟨gN, p * 2 + 1, none⟩ (.slice A4 n4 c4) = V at M5 OS ⊢
      obtain ⟨cg, fg, lg⟩ := bx_all M5.out.out
      obtain ⟨cr, fr, lr⟩ := bx_all M5.out.res
      have HF := hide (fin4 OS.out M5.out.res M5.out.bel (by omega))
      clear M4 R4 O4 LAY y4 f4 M5 OS OX MX HP HPX HD HB0
      go_wp2
      exact bodyPost_ret (row_two rfl _ _ (w.heap.size + 2) 27 _ (0, 0) _ rfl HF.out.1 Tryz.underlying27 rfl size27) rfl ⟨⟨⟨some ⟨gN, 0, none⟩, on, oc⟩, ⟨pA, pn, pc⟩, x1, y1⟩, rfl, ⟨_, by have := HF.out.2.1; rw [HG.out] at this; exact this⟩, HF.out.2.2⟩

end Go.Proofs.YtiiadkjiofkonaaGreat
