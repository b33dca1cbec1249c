/- A property deleted: the document's answer. -/
import Derived.Test.YtiiadkjiofkonaaGreatRLaws
import Derived.Test.YtiiadkjiofkonaaGreatRSet
import Derived.Test.YtiiadkjiofkonaaGreatAB8
import Derived.WalkKit
import Derived.Below
import Derived.Deep.QuietTactic
import Derived.BigQuiet
import Derived.Deep.AppendLies
import Derived.Deep.RegionHeld3
import Derived.Deep.DeepCutAuto
import Derived.Shelf.Abstract
namespace Go.Proofs.YtiiadkjiofkonaaGreat
open Go.RowKit
set_option linter.unusedVariables false

/-- A graph that is the call's own, but for one node's properties. -/
structure OwnX (u : World) (B : Nat) (v : Gv) (G : GL) (L : List (Int × Sl)) (p : Nat) : Prop where
  rows : u.ownsRow B 61 2 (.slice v.N.A v.N.n v.N.c) v.N.n (cellsN L)
  len : L.length = G.N.length
  ids : ∀ i, i < G.N.length → (L.getD i (0, noSl)).1 = (G.N.getD i (0, [])).1
  prs : ∀ i, i < G.N.length → i ≠ p → u.ownsRow B 83 2 (.slice (L.getD i (0, noSl)).2.A (L.getD i (0, noSl)).2.n (L.getD i (0, noSl)).2.c) (L.getD i (0, noSl)).2.n (ints (flat2 (G.N.getD i (0, [])).2))
  edg : u.ownsRow B 79 3 (.slice v.E.A v.E.n v.E.c) v.E.n (ints (flat3 G.E))
  x : v.x = G.x
  y : v.y = G.y
  many : v.N.n = G.N.length
section
variable {X U w2 : World} {B : Nat} {L : List (Int × Sl)}
theorem Own.toX {v : Gv} {G : GL} (o : Own X B v G L) (p : Nat) : OwnX X B v G L p := ⟨o.rows, o.len, o.ids, fun i hi _ => o.prs i hi, o.edg, o.x, o.y, o.many⟩
/-- The properties of node p are apart from those of the others. -/
def AptAll (s : Sl) (G : GL) (L : List (Int × Sl)) (p : Nat) : Prop := ∀ j, j < G.N.length → j ≠ p → Apt (.slice s.A s.n s.c) (.slice (L.getD j (0, noSl)).2.A (L.getD j (0, noSl)).2.n (L.getD j (0, noSl)).2.c)
theorem OwnX.grow {v : Gv} {G : GL} {p n c B' : Nat} {A : Option Addr} {xs : List Value} {ob : Obj} (o : OwnX U B v G L p) (R : U.ownsRow B' 83 2 (.slice A n c) n xs) (hg : (U.alloc ob).grownBy w2 (Value.slice A n c).ownBlock) (AP : AptAll ⟨A, n, c⟩ G L p) : OwnX w2 B v G L p :=
  ⟨grow_row R hg o.rows (by decide), o.len, o.ids, fun i hi hp => grow_same hg (o.prs i hi hp) (AP i hi hp), grow_row R hg o.edg (by decide), o.x, o.y, o.many⟩
theorem OwnX.setP {g nn cc n' c' : Nat} {A' : Option Addr} {e : Sl} {x y : Int} {G : GL} {l : List Pr} {i : Nat} (o : OwnX X B ⟨⟨some ⟨g, 0, none⟩, nn, cc⟩, e, x, y⟩ G L i) (hi : i < G.N.length) (R : X.ownsRow B 83 2 (.slice A' n' c') n' (ints (flat2 l))) :
    Own (X.setCell ⟨g, i * 2 + 1, none⟩ (.slice A' n' c')) B ⟨⟨some ⟨g, 0, none⟩, nn, cc⟩, e, x, y⟩ (setN G i l) (L.set i ((L.getD i (0, noSl)).1, ⟨A', n', c'⟩)) := by
  have hl := o.len
  have hm := o.many
  dsimp only at hm
  obtain ⟨cur, hg⟩ : ∃ cur, X.heap[g]? = some (.cells cur 61 (0, 0)) := by
    rcases o.rows.2 with ⟨h1, _⟩ | ⟨k, cap, cur, hv, _, hk, _⟩
    · cases h1
    · injection hv with e1
      simp only [Option.some.injEq, Addr.mk.injEq, and_true] at e1
      subst e1
      exact ⟨cur, hk⟩
  have hlen : (setN G i l).N.length = G.N.length := by simp [setN]
  have h0 := (o.rows.stored (i * 2 + 1) (.slice A' n' c')).1
  have e1 : (cellsN L).set (i * 2 + 1) (.slice A' n' c') = cellsN (L.set i ((L.getD i (0, noSl)).1, ⟨A', n', c'⟩)) := by
    apply List.ext_getElem?
    intro k
    by_cases hk : k < L.length * 2
    · have a1 := cellsN_at L (k / 2) (by omega)
      have a2 := cellsN_at (L.set i ((L.getD i (0, noSl)).1, ⟨A', n', c'⟩)) (k / 2) (by simp; omega)
      have hj : k / 2 < L.length := by omega
      have hg2 : (L.set i ((L.getD i (0, noSl)).1, (⟨A', n', c'⟩ : Sl))).getD (k / 2) (0, noSl) = if k / 2 = i then ((L.getD i (0, noSl)).1, ⟨A', n', c'⟩) else L.getD (k / 2) (0, noSl) := by
        by_cases e : k / 2 = i
        · rw [if_pos e, e]; simp [List.getD_eq_getElem?_getD, hl, hi]
        · rw [if_neg e]; simp [List.getD_eq_getElem?_getD, Ne.symm e]
      rw [hg2] at a2
      rw [List.getElem?_set]
      by_cases e : i * 2 + 1 = k
      · have e2 : k / 2 = i := by omega
        have e3 : k = k / 2 * 2 + 1 := by omega
        rw [if_pos e, if_pos (by rw [cellsN_len]; omega), e3, a2.2, if_pos e2]
      · rw [if_neg e]
        by_cases e2 : k / 2 = i
        · have e3 : k = k / 2 * 2 := by omega
          rw [e3, a1.1, a2.1, if_pos e2, e2]
        · rw [if_neg e2] at a2
          rcases Nat.mod_two_eq_zero_or_one k with hm2 | hm2
          · have e3 : k = k / 2 * 2 := by omega
            rw [e3, a1.1, a2.1]
          · have e3 : k = k / 2 * 2 + 1 := by omega
            rw [e3, a1.2, a2.2]
    · rw [List.getElem?_eq_none (by simp [cellsN_len]; omega), List.getElem?_eq_none (by rw [cellsN_len]; simp; omega)]
  refine ⟨?_, by simp [hlen, hl], fun j hj => ?_, fun j hj => ?_, own_cell o.edg hg (by decide) _ _, o.x, o.y⟩
  · rw [← e1]
    exact h0
  · rw [hlen] at hj
    have := o.ids j hj
    by_cases e : j = i
    · subst e
      simp [setN, List.getD_eq_getElem?_getD, hl, hj] at this ⊢
      exact this
    · simp [setN, List.getD_eq_getElem?_getD, Ne.symm e] at this ⊢
      exact this
  · rw [hlen] at hj
    by_cases e : j = i
    · subst e
      have a : (L.set j ((L.getD j (0, noSl)).1, (⟨A', n', c'⟩ : Sl))).getD j (0, noSl) = ((L.getD j (0, noSl)).1, ⟨A', n', c'⟩) := by simp [List.getD_eq_getElem?_getD, hl, hj]
      have b : ((setN G j l).N.getD j (0, [])).2 = l := by simp [setN, List.getD_eq_getElem?_getD, hj]
      rw [a, b]
      exact own_cell R hg (by decide) _ _
    · have a : (L.set i ((L.getD i (0, noSl)).1, (⟨A', n', c'⟩ : Sl))).getD j (0, noSl) = L.getD j (0, noSl) := by simp [List.getD_eq_getElem?_getD, Ne.symm e]
      have b : ((setN G i l).N.getD j (0, [])).2 = (G.N.getD j (0, [])).2 := by simp [setN, List.getD_eq_getElem?_getD, Ne.symm e]
      rw [a, b]
      exact own_cell (o.prs j hj e) hg (by decide) _ _
theorem setN_twice (G : GL) (p : Nat) (F F' : List Pr) : setN (setN G p F) p F' = setN G p F' := by
  unfold setN
  by_cases h : p < G.N.length
  · simp [List.getD_eq_getElem?_getD, h]
  · simp [List.set_eq_of_length_le (Nat.le_of_not_lt h)]
theorem setN_len (G : GL) (p : Nat) (F : List Pr) : (setN G p F).N.length = G.N.length := by simp [setN]
theorem set_hdr {L : List (Int × Sl)} {p : Nat} {z : Int} {s : Sl} (h : p < L.length) : ((L.set p (z, s)).getD p (0, noSl)).2 = s := by simp [List.getD_eq_getElem?_getD, h]
theorem set_hdr_ne {L : List (Int × Sl)} {p j : Nat} {d : Int × Sl} (h : j ≠ p) : (L.set p d).getD j (0, noSl) = L.getD j (0, noSl) := by simp [List.getD_eq_getElem?_getD, Ne.symm h]
/-- One property more. -/
theorem OwnX.next {G : GL} {F : List Pr} {p gN on oc m c g1 q1 H : Nat} {A : Option Addr} {e : Sl} {x y a b : Int} {ob : Obj} (o : Own U B ⟨⟨some ⟨gN, 0, none⟩, on, oc⟩, e, x, y⟩ (setN G p F) L) (hp : p < G.N.length) (hh : (L.getD p (0, noSl)).2 = ⟨A, m, c⟩) (AP : AptAll ⟨A, m, c⟩ (setN G p F) L p)
    (R : U.ownsRow B 83 2 (.slice A m c) m (ints (flat2 F))) (hg : (U.alloc ob).grownBy w2 (Value.slice A m c).ownBlock) (hown : w2.ownsRow B 83 2 (.slice (some ⟨g1, 0, none⟩) (m + 1) q1) (m + 1) (ints (flat2 F) ++ [.int .i64 a, .int .i64 b])) (hat : (Value.slice A m c).ownBlock = some g1 ∨ g1 = H) (hH : U.heap.size ≤ H) :
    ∃ L', Own (w2.setCell ⟨gN, p * 2 + 1, none⟩ (.slice (some ⟨g1, 0, none⟩) (m + 1) q1)) B ⟨⟨some ⟨gN, 0, none⟩, on, oc⟩, e, x, y⟩ (setN G p (F ++ [(a, b)])) L' ∧ (L'.getD p (0, noSl)).2 = ⟨some ⟨g1, 0, none⟩, m + 1, q1⟩ ∧ AptAll ⟨some ⟨g1, 0, none⟩, m + 1, q1⟩ (setN G p (F ++ [(a, b)])) L' p := by
  have e1 : ints (flat2 F) ++ [.int .i64 a, .int .i64 b] = ints (flat2 (F ++ [(a, b)])) := by rw [flat2_append]; simp [flat2]
  rw [e1] at hown
  have hp' : p < (setN G p F).N.length := by rw [setN_len]; exact hp
  have h1 := ((o.toX p).grow R hg AP).setP (l := F ++ [(a, b)]) hp' hown
  rw [setN_twice] at h1
  refine ⟨_, h1, set_hdr (by rw [o.len]; exact hp'), fun j hj hjp => ?_⟩
  rw [set_hdr_ne hjp]
  rw [setN_len] at hj
  have hj' : j < (setN G p F).N.length := by rw [setN_len]; exact hj
  exact apt_new (o.prs j hj') (AP j hj' hjp) hat hH
end
theorem del_keep {P : List Pr} {k : Nat} {a b ky : Int} (hk : k < P.length) (hx : P.getD k (0, 0) = (a, b)) (hq : (a != ky) = true) : (P.take (k + 1)).filter (fun q => q.1 != ky) = (P.take k).filter (fun q => q.1 != ky) ++ [(a, b)] := by
  rw [getD_take (d := (0, 0)) hk, hx]
  simp [hq]
theorem del_drop {P : List Pr} {k : Nat} {a b ky : Int} (hk : k < P.length) (hx : P.getD k (0, 0) = (a, b)) (hq : (a != ky) = false) : (P.take (k + 1)).filter (fun q => q.1 != ky) = (P.take k).filter (fun q => q.1 != ky) := by
  rw [getD_take (d := (0, 0)) hk, hx]
  simp [hq]

set_option maxRecDepth 100000 in
set_option maxHeartbeats 8000000 in
theorem rdel_any (v : Gv) (G R : GL) (a ky er : Int) (w : World) (S : Sees w w.heap.size v G) (HS : Small G) (hr : Hid (delR G a ky = (er, R))) :
    Calls Tryz.prog 36 #[v.val, .int .i64 a, .int .i64 ky] w fun e w' => ∃ v', e = .returned (.tuple #[Gv.val v', .int .i64 er]) ∧ Hid (Mine w w' v' R) ∧ Hid (Below w.heap.size w w') := by
  have HSS := hide HS
  obtain ⟨i0, hi0, hz0, hz1, hz2⟩ := info_parts info54
  have H1 := hide hi0
  have H2 := hide hz0
  have H3 := hide hz1
  have H4 := hide hz2
  clear hi0 hz0 hz1 hz2
  obtain ⟨⟨nA, nn, nc⟩, ⟨eA, en, ec⟩, x, y⟩ := v
  show Calls Tryz.prog 36 #[.agg #[.slice nA nn nc, .slice eA en ec, .int .i64 x, .int .i64 y], .int .i64 a, .int .i64 ky] w _
  have SW := hide S
  have HSM := hide HS
  have ln := S.nodes.1
  have le := edges_len S.edges
  dsimp only at ln le
  have hnn : nn ≤ 1000 := by have := HS.n; omega
  have hen : en ≤ 1000 := by have := HS.e; omega
  have LE := hide le
  clear S HS ln le
  obtain ⟨W, hW⟩ : ∃ W, Hid ((w.alloc (.cells #[.slice nA nn nc, .slice eA en ec, .int .i64 x, .int .i64 y] 27)).alloc (.cells #[.slice none 0 0, .slice none 0 0, .int .i64 0, .int .i64 0] 27) = W) := ⟨_, rfl⟩
  have BW : Hid (Below w.heap.size w W) := by show Below _ _ _; rw [← hW.out]; exact boxed2 w _ _
  have HA : Hid (W.heap[w.heap.size]? = some (.cells #[.slice nA nn nc, .slice eA en ec, .int .i64 x, .int .i64 y] 27 (0, 0))) := by show _ = _; rw [← hW.out]; exact heap_alloc2_old w _ _
  have HR : Hid (W.heap[w.heap.size + 1]? = some (.cells #[.slice none 0 0, .slice none 0 0, .int .i64 0, .int .i64 0] 27 (0, 0))) := by show _ = _; rw [← hW.out]; exact heap_alloc2_new w _ _
  go_enter Tryz.func36, Tryz.ntmps36
  go_wp2_with fail
  have hW' := hW.out
  rw [hW']
  clear hW hW'
  obtain ⟨q, HQ⟩ : ∃ q, Hid (hasR G a ky = q) := ⟨_, rfl⟩
  refine (has_any ⟨⟨nA, nn, nc⟩, ⟨eA, en, ec⟩, x, y⟩ G a ky q _ ((SW.out.below BW.out (Nat.le_refl _)).more BW.out.size) HSS.out HQ).mono ?_
  rintro e u1 ⟨rfl, hb1⟩
  have HA := hide (bx_step HA.out hb1)
  have HR := hide (bx_step HR.out hb1)
  have BW := hide (BW.out.trans (hb1.mono BW.out.size))
  clear hb1
  obtain ⟨r, Hr0⟩ : ∃ r, Hid (atI G.N a = r) := ⟨_, rfl⟩
  have Hr : Hid (atf (fun z : Nd => z.1) G.N a = r) := by show _ = _; rw [← atI_eq]; exact Hr0.out
  cases q
  · have HN : Hid (atf (fun z : Nd => z.1) G.N a < 0 ∨ atf (fun z : Pr => z.1) (prsAt G (posN G a)) ky < 0) := by
      have h := HQ.out
      unfold hasR isN at h
      simp only [Bool.and_eq_false_iff, decide_eq_false_iff_not, Int.not_le] at h
      exact h
    have HRR : Hid ((2, noG) = (er, R)) := by show _ = _; rw [← hr.out]; exact (delR_none HN.out).symm
    obtain ⟨rfl, rfl⟩ : 2 = er ∧ noG = R := by have := HRR.out; simp only [Prod.mk.injEq] at this; exact this
    clear HRR
    have HF := hide (fin4 (Own.none _ w.heap.size) HR.out BW.out (by omega))
    obtain ⟨cr, fr, lr⟩ := bx_all HR.out
    go_wp2
    exact bodyPost_ret (row_two rfl _ _ (w.heap.size + 1) 27 _ (0, 0) _ rfl HF.out.1 Tryz.underlying27 rfl size27) rfl ⟨noGv, rfl, ⟨_, HF.out.2.1⟩, HF.out.2.2⟩
  · have HY : Hid (0 ≤ atf (fun z : Nd => z.1) G.N a ∧ 0 ≤ atf (fun z : Pr => z.1) (prsAt G (posN G a)) ky) := by
      have h := HQ.out
      unfold hasR isN at h
      simp only [Bool.and_eq_true, decide_eq_true_iff] at h
      exact h
    have t : ¬ r < 0 := by have := HY.out.1; rw [Hr.out] at this; omega
    have HRR : Hid ((0, setN G (posN G a) ((prsAt G (posN G a)).filter fun q => q.1 != ky)) = (er, R)) := by show _ = _; rw [← hr.out]; exact (delR_ok (by have := HY.out.1; omega) (by have := HY.out.2; omega)).symm
    obtain ⟨rfl, rfl⟩ : 0 = er ∧ setN G (posN G a) ((prsAt G (posN G a)).filter fun q => q.1 != ky) = R := by have := HRR.out; simp only [Prod.mk.injEq] at this; exact this
    clear HRR
    obtain ⟨p, hp0, hp1, hp2⟩ := atf_pos (f := fun z : Nd => z.1) Hr.out t
    subst hp0
    have HPp : Hid (posN G a = p) := hp2
    have HPL : Hid (p < G.N.length) := hp1
    clear hp2 hp1
    clear t hr HY HQ
    obtain ⟨ca, -, la⟩ := bx_all HA.out
    go_wp2_with fail
    clear ca la
    refine (copy_any ⟨⟨nA, nn, nc⟩, ⟨eA, en, ec⟩, x, y⟩ G _ ((SW.out.below BW.out (Nat.le_refl _)).more BW.out.size) hnn hen (fun j hj => by have := HSM.out.p j hj; omega)).mono ?_
    rintro e u2 ⟨⟨⟨oA, on, oc⟩, ⟨pA, pn, pc⟩, x1, y1⟩, LL, rfl, O1, B1⟩
    have OU := hide (O1.out.less BW.out.size)
    have HA := hide (bx_step HA.out B1.out)
    have HR := hide (bx_step HR.out B1.out)
    have BW := hide (BW.out.trans (B1.out.mono BW.out.size))
    clear O1 B1
    have hpo : p < on := by have h1 : on = G.N.length := OU.out.many; have h2 := HPL.out; omega
    have hon : on ≤ 1000 := by have h1 : on = G.N.length := OU.out.many; have := HSM.out.n; omega
    have jo : (p : Int) < (on : Int) := by omega
    have ip : (0 : Int) ≤ (p : Int) := by omega
    obtain ⟨gN, eN⟩ : ∃ gN, oA = some ⟨gN, 0, none⟩ := by obtain ⟨g, e, _⟩ := OU.out.at_ (k := p) hpo; exact ⟨g, e⟩
    subst eN
    obtain ⟨X, hX⟩ : ∃ X, Hid (u2.alloc (.cells #[.slice (some ⟨gN, 0, none⟩) on oc, .slice pA pn pc, .int .i64 x1, .int .i64 y1] 27) = X) := ⟨_, rfl⟩
    obtain ⟨g, hg⟩ : ∃ g, Hid (u2.heap.size = g) := ⟨_, rfl⟩
    have BXX : Hid (Below u2.heap.size u2 X) := by show Below _ _ _; rw [← hX.out]; exact (Below.refl _ _).alloc (Nat.le_refl _) _
    have MX : Hid (Mid w X (w.heap.size) (w.heap.size + 1) g #[.slice nA nn nc, .slice eA en ec, .int .i64 x, .int .i64 y] #[.slice none 0 0, .slice none 0 0, .int .i64 0, .int .i64 0] #[.slice (some ⟨gN, 0, none⟩) on oc, .slice pA pn pc, .int .i64 x1, .int .i64 y1]) := ⟨BW.out.trans (BXX.out.mono BW.out.size), bx_step HA.out BXX.out, bx_step HR.out BXX.out, by rw [← hX.out, ← hg.out]; exact heap_alloc_new _ _⟩
    have OX := hide (OU.out.step BXX.out)
    go_upto_region 4 with fail
    have hX' := hX.out
    have hg' := hg.out
    rw [hX', hg']
    clear hX hg hX' hg' BXX HA HR BW OU
    obtain ⟨ca, -, la⟩ := bx_all MX.out.arg
    go_wp2_with fail
    clear ca la
    refine (at_any ⟨⟨nA, nn, nc⟩, ⟨eA, en, ec⟩, x, y⟩ G a (p : Int) X ((SW.out.below MX.out.bel (Nat.le_refl _)).more MX.out.bel.size) (by dsimp only; omega) Hr0).mono ?_
    rintro e u3 ⟨rfl, hb3⟩
    have MX := hide (MX.out.step hb3)
    have OX := hide (OX.out.step hb3)
    clear hb3
    obtain ⟨y0, f0, l0, hB0⟩ := OX.out.cellAt rfl hpo
    obtain ⟨csN, hcN⟩ := OX.out.block rfl
    have OV := hide ((OX.out.toX p).setP (l := []) (A' := none) (n' := 0) (c' := 0) HPL.out (World.ownsRow_nil _ _ _ _))
    have MV := hide (MX.out.row (i := p * 2 + 1) (x := .slice none 0 0) hcN (by decide) hB0)
    have LN : G.N.length = nn := SW.out.nodes.1
    have hpn : p < nn := by have := HPL.out; omega
    have jn : (p : Int) < (nn : Int) := by omega
    obtain ⟨nb, noff, e0, hb0, d0, ⟨hA, hh, hcc⟩, d1, hP⟩ := SW.out.nodes.at_ (k := p) hpn
    dsimp only at e0 d1
    subst e0
    obtain ⟨PS, hPS⟩ : ∃ l, Hid ((G.N.getD p (0, [])).2 = l) := ⟨_, rfl⟩
    have HP : Hid (Nums w w.heap.size 2 hA hh (flat2 PS)) := by
      have h := hP.1
      rw [hPS.out] at h
      exact h
    have HLP : Hid (hh = PS.length) := pairs_len HP.out
    have hhb : hh ≤ 300 := by have := HSM.out.p p HPL.out; rw [hPS.out] at this; have := HLP.out; omega
    have k1 := (MV.out.bel.cell (p := ⟨nb, _, none⟩) hb0).trans d1
    obtain ⟨cg, -, lg⟩ := bx_all MX.out.out
    obtain ⟨ca, -, la⟩ := bx_all MV.out.arg
    have AV : Hid (AptAll noSl (setN G p []) (LL.set p ((LL.getD p (0, noSl)).1, noSl)) p) := fun j hj hjp => apt_none _
    have HV : Hid (((LL.set p ((LL.getD p (0, noSl)).1, noSl)).getD p (0, noSl)).2 = noSl) := set_hdr (by rw [OX.out.len]; exact HPL.out)
    go_wp2
    clear cg lg ca la k1 y0 f0 l0 hB0 hcN d0 d1 hP OX MX
    go_loopw [35] (fun i wr => ∃ (k m : Nat) (A' : Option Addr) (c' : Nat) (L' : List (Int × Sl)), k ≤ hh ∧ i = .int .i64 k ∧ m ≤ k ∧ Hid ((L'.getD p (0, noSl)).2 = ⟨A', m, c'⟩) ∧ Hid (AptAll ⟨A', m, c'⟩ (setN G p ((PS.take k).filter fun q => q.1 != ky)) L' p) ∧ Hid (Own wr w.heap.size ⟨⟨some ⟨gN, 0, none⟩, on, oc⟩, ⟨pA, pn, pc⟩, x1, y1⟩ (setN G p ((PS.take k).filter fun q => q.1 != ky)) L') ∧ Hid (Mid w wr (w.heap.size) (w.heap.size + 1) g #[.slice (some ⟨nb, noff, none⟩) nn nc, .slice eA en ec, .int .i64 x, .int .i64 y] #[.slice none 0 0, .slice none 0 0, .int .i64 0, .int .i64 0] #[.slice (some ⟨gN, 0, none⟩) on oc, .slice pA pn pc, .int .i64 x1, .int .i64 y1])) (fun i _ => hh - (intOf i).toNat)
    case atStart => exact ⟨0, 0, none, 0, _, by omega, rfl, by omega, HV, AV, OV, MV⟩
    case round =>
      clear OV MV AV HV
      obtain ⟨k, m, A', c', L', hk, rfl, hm, HH, AR, OR, MR⟩ := hrel
      by_cases hlt : k < hh
      · obtain ⟨b0, off, e0, hb1, d0, d1⟩ := pair_at (HP.out.below MR.out.bel (Nat.le_refl _)) hlt
        subst e0
        obtain ⟨xa, hx⟩ : ∃ z, Hid ((PS.getD k (0, 0)).1 = z) := ⟨_, rfl⟩
        obtain ⟨yb, hy⟩ : ∃ z, Hid ((PS.getD k (0, 0)).2 = z) := ⟨_, rfl⟩
        rw [hx.out] at d0
        rw [hy.out] at d1
        have HX0 : Hid (PS.getD k (0, 0) = (xa, yb)) := Prod.ext hx.out hy.out
        have HK : Hid (k < PS.length) := by have := HLP.out; show _ < _; omega
        clear hx hy
        obtain ⟨U, hU⟩ : ∃ U, Hid (wr.alloc (.cells #[.int .i64 xa, .int .i64 yb] 83) = U) := ⟨_, rfl⟩
        obtain ⟨gn, hgn⟩ : ∃ g, Hid (wr.heap.size = g) := ⟨_, rfl⟩
        have BU : Hid (Below wr.heap.size wr U) := by show Below _ _ _; rw [← hU.out]; exact (Below.refl _ _).alloc (Nat.le_refl _) _
        have HX : Hid (U.heap[gn]? = some (.cells #[.int .i64 xa, .int .i64 yb] 83 (0, 0))) := by show _ = _; rw [← hU.out, ← hgn.out]; exact heap_alloc_new _ _
        have OU := hide (OR.out.step BU.out)
        have MU := hide (MR.out.step BU.out)
        go_upto_region 9 with fail
        have hU' := hU.out
        have hg' := hgn.out
        rw [hU', hg']
        clear hU hgn hU' hg' d0 d1 OR MR BU
        obtain ⟨m0, -, n0⟩ := bx_all HX.out
        by_cases e1 : xa = ky
        · have t1 : (xa != ky) = false := by simpa using e1
          clear e1
          have HF := hide (del_drop HK.out HX0.out t1)
          have ON : Hid (Own U w.heap.size ⟨⟨some ⟨gN, 0, none⟩, on, oc⟩, ⟨pA, pn, pc⟩, x1, y1⟩ (setN G p ((PS.take (k + 1)).filter fun q => q.1 != ky)) L') := by show Own _ _ _ _ _; rw [HF.out]; exact OU.out
          have AN : Hid (AptAll ⟨A', m, c'⟩ (setN G p ((PS.take (k + 1)).filter fun q => q.1 != ky)) L' p) := by show AptAll _ _ _ _; rw [HF.out]; exact AR.out
          go_wp2
          go_roundw
          case rel => exact ⟨k + 1, m, A', c', L', by omega, by go_num, by omega, HH, AN, ON, MU⟩
          case measure => simp [intOf]; omega
        · have t1 : (xa != ky) = true := by simpa using e1
          clear e1
          have HF := hide (del_keep HK.out HX0.out t1)
          have hp' : p < (setN G p ((PS.take k).filter fun q => q.1 != ky)).N.length := by rw [setN_len]; exact HPL.out
          have RU : Hid (U.ownsRow w.heap.size 83 2 (.slice A' m c') m (ints (flat2 ((PS.take k).filter fun q => q.1 != ky)))) := by
            have h := OU.out.prs p hp'
            rw [HH.out] at h
            have e : ((setN G p ((PS.take k).filter fun q => q.1 != ky)).N.getD p (0, [])).2 = ((PS.take k).filter fun q => q.1 != ky) := by simp [setN, List.getD_eq_getElem?_getD, HPL.out]
            rw [e] at h
            exact h
          obtain ⟨y0, f0, l0, hB0⟩ := OU.out.cellAt rfl hpo
          have HH' := HH.out
          rw [HH'] at y0
          clear HH'
          dsimp only at y0
          obtain ⟨csN, hcN⟩ := OU.out.block rfl
          obtain ⟨cg, fg, lg⟩ := bx_all MU.out.out
          have UA : ∀ o, Below U.heap.size U (U.alloc o) := fun o => (Below.refl _ _).alloc (Nat.le_refl _) o
          have xg : ∀ o, (U.alloc o).cell? ⟨g, 0, none⟩ = some (.slice (some ⟨gN, 0, none⟩) on oc) := fun o => ((UA o).cell (p := ⟨g, 0, none⟩) lg).trans (cg 0)
          have xN : ∀ o, (U.alloc o).cell? ⟨gN, p * 2 + 1, none⟩ = some (.slice A' m c') := fun o => ((UA o).cell (p := ⟨gN, _, none⟩) l0).trans y0
          have OW : Hid ((U.alloc (.cells #[.int .i64 xa, .int .i64 yb] 83)).drew.ownsRow w.heap.size 83 2 (.slice A' m c') m (ints (flat2 ((PS.take k).filter fun q => q.1 != ky)))) := (own_below RU.out ((Below.refl U.heap.size U).drew)).alloc (.cells #[.int .i64 xa, .int .i64 yb] 83)
          have NW := hide (World.news_of_block (w := (U.alloc (.cells #[.int .i64 xa, .int .i64 yb] 83)).drew) (heap_alloc_new U (.cells #[.int .i64 xa, .int .i64 yb] 83)))
          have SZ : Hid (w.heap.size ≤ (U.alloc (.cells #[.int .i64 xa, .int .i64 yb] 83)).drew.heap.size) := by show _ ≤ _; have := MU.out.bel.size; simp; omega
          have K3 : Hid (m + 1 ≤ maxLen) := by show _ ≤ _; simp only [maxLen]; omega
          have K4 : Hid ((m + 1) * 16 ≤ 140737488355328) := by show _ ≤ _; omega
          have NX : Hid (∀ (w2 : World) (g1 q1 H : Nat), (U.alloc (.cells #[.int .i64 xa, .int .i64 yb] 83)).drew.grownBy w2 (Value.slice A' m c').ownBlock → w2.ownsRow w.heap.size 83 2 (.slice (some ⟨g1, 0, none⟩) (m + 1) q1) (m + 1) (ints (flat2 ((PS.take k).filter fun q => q.1 != ky)) ++ [.int .i64 xa, .int .i64 yb]) → ((Value.slice A' m c').ownBlock = some g1 ∨ g1 = H) → U.heap.size ≤ H →
              Hid (∃ L'', Hid ((L''.getD p (0, noSl)).2 = ⟨some ⟨g1, 0, none⟩, m + 1, q1⟩) ∧ Hid (AptAll ⟨some ⟨g1, 0, none⟩, m + 1, q1⟩ (setN G p ((PS.take (k + 1)).filter fun q => q.1 != ky)) L'' p) ∧ Hid (Own (w2.setCell ⟨gN, p * 2 + 1, none⟩ (.slice (some ⟨g1, 0, none⟩) (m + 1) q1)) w.heap.size ⟨⟨some ⟨gN, 0, none⟩, on, oc⟩, ⟨pA, pn, pc⟩, x1, y1⟩ (setN G p ((PS.take (k + 1)).filter fun q => q.1 != ky)) L'')) ∧ Hid (Mid w (w2.setCell ⟨gN, p * 2 + 1, none⟩ (.slice (some ⟨g1, 0, none⟩) (m + 1) q1)) (w.heap.size) (w.heap.size + 1) g #[.slice (some ⟨nb, noff, none⟩) nn nc, .slice eA en ec, .int .i64 x, .int .i64 y] #[.slice none 0 0, .slice none 0 0, .int .i64 0, .int .i64 0] #[.slice (some ⟨gN, 0, none⟩) on oc, .slice pA pn pc, .int .i64 x1, .int .i64 y1]) ∧ w2.cell? ⟨g, 0, none⟩ = some (.slice (some ⟨gN, 0, none⟩) on oc) ∧ w2.cell? ⟨gN, p * 2 + 1, none⟩ = some (.slice A' m c') ∧ w2.frozen? ⟨gN, p * 2 + 1, none⟩ = false) := fun w2 g1 q1 H hg0 hown hat hH => by
            have hg : (U.drew.alloc (.cells #[.int .i64 xa, .int .i64 yb] 83)).grownBy w2 (Value.slice A' m c').ownBlock := hg0
            have UD := (Below.refl U.heap.size U).drew
            have OD := OU.out.step UD
            have RD := own_below RU.out UD
            have MD := MU.out.step UD
            obtain ⟨L'', h1, h2, h3⟩ := OwnX.next OD HPL.out HH.out AR.out RD hg hown hat hH
            rw [← HF.out] at h1 h3
            have MG := MD.grow RD hg (by decide)
            have hcD : U.drew.heap[gN]? = some (.cells csN 61 (0, 0)) := bx_step hcN UD
            have hc2 := grow_box RD hg hcD (by decide)
            have yD : U.drew.cell? ⟨gN, p * 2 + 1, none⟩ = some (.slice A' m c') := y0
            have c2 := (bx_all hc2).1 (p * 2 + 1)
            have cD := (bx_all hcD).1 (p * 2 + 1)
            exact ⟨⟨L'', h2, h3, h1⟩, MG.row hc2 (by decide) hB0, (bx_all MG.out).1 0, c2.trans (cD.symm.trans yD), (bx_all hc2).2.1 _⟩
          go_wp2_with fail
          refine wp_region_noPanic ?_
          go_region_law ((refine step_append_lies _ (by rfl) _ _ 34 (by rfl) w.heap.size 83 i0 (.agg #[.int .i64 0, .int .i64 0]) 2 16 Tryz.underlying34 H1.out H2.out H3.out H4.out (by rfl) (by decide) (.slice A' m c') m _ (by rfl) OW.out ⟨U.heap.size, 0, none⟩ 1 1 [.int .i64 xa, .int .i64 yb] (by rfl) (by rfl) NW.out (two_cells xa yb) (by decide) K3.out K4.out SZ.out _ (by rfl) ?_; intro g1 q1 w2 hown hg hat hlt3; have NN := hide (NX.out w2 g1 q1 _ hg hown hat (by simp)); have N1 := NN.out.2.2.1; have N2 := NN.out.2.2.2.1; have N3 := NN.out.2.2.2.2; clear hown hg hat))
          all_goals (refine NoPanic.normal ?_)
          all_goals (obtain ⟨L'', Q1, Q2, Q3⟩ := NN.out.1.out; have QM := NN.out.2.1; clear N1 N2 N3 NX NN OW NW SZ K3 K4 xg xN y0 f0 l0 cg fg lg m0 n0 UA; go_wp2_with fail; go_roundw; (case rel => exact ⟨k + 1, m + 1, some ⟨g1, 0, none⟩, q1, L'', by omega, by go_num, by omega, Q1, Q2, Q3, QM⟩); (case measure => simp [intOf]; omega))
      · obtain rfl : hh = k := by omega
        rw [List.take_of_length_le (show PS.length ≤ hh by have := HLP.out; omega)] at OR
        have HG : Hid (setN G p (PS.filter fun q => q.1 != ky) = setN G (posN G a) ((prsAt G (posN G a)).filter fun q => q.1 != ky)) := by show _ = _; rw [HPp.out, ← hPS.out]; rfl
        have HF := hide (fin4 OR.out MR.out.res MR.out.bel (by omega))
        obtain ⟨cr, fr, lr⟩ := bx_all MR.out.res
        obtain ⟨cg, fg, lg⟩ := bx_all MR.out.out
        go_wp2
        exact bodyPost_ret (row_two rfl _ _ (w.heap.size + 1) 27 _ (0, 0) _ rfl HF.out.1 Tryz.underlying27 rfl size27) rfl ⟨⟨⟨some ⟨gN, 0, none⟩, on, oc⟩, ⟨pA, pn, pc⟩, x1, y1⟩, rfl, ⟨_, by have := HF.out.2.1; rw [HG.out] at this; exact this⟩, HF.out.2.2⟩

end Go.Proofs.YtiiadkjiofkonaaGreat
