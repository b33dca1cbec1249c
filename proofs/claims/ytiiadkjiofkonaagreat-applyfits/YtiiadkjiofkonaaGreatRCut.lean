/- An edge cut, a node dropped: the document's answer. -/
import Derived.Test.YtiiadkjiofkonaaGreatRLaws
import Derived.Test.YtiiadkjiofkonaaGreatGLink
import Derived.Test.YtiiadkjiofkonaaGreatAB8
import Derived.WalkKit
import Derived.Below
import Derived.Deep.QuietTactic
import Derived.BigQuiet
import Derived.Deep.AppendLies
import Derived.Deep.RegionHeld3
import Derived.Deep.DeepCutAuto
import Derived.Shelf.Abstract
namespace Go.Proofs.YtiiadkjiofkonaaGreat
open Go.RowKit
set_option linter.unusedVariables false

section
variable {u U w2 : World} {B : Nat} {v : Gv} {N : List Nd} {E : List Ed} {a b : Int} {L : List (Int × Sl)} {p : Ed → Bool} {x : Ed} {k : Nat}
theorem Own.filt_yes (hk : k < E.length) (hx : E.getD k (0, 0, 0) = x) (hq : p x = true) (o : Own u B v ⟨N, (E.take k).filter p ++ [x], a, b⟩ L) : Hid (Own u B v ⟨N, (E.take (k + 1)).filter p, a, b⟩ L) := by
  have e : (E.take (k + 1)).filter p = (E.take k).filter p ++ [x] := by
    rw [getD_take (d := (0, 0, 0)) hk, hx]
    simp [hq]
  show Own _ _ _ _ _
  rw [e]
  exact o
theorem Own.filt_no (hk : k < E.length) (hx : E.getD k (0, 0, 0) = x) (hq : p x = false) (o : Own u B v ⟨N, (E.take k).filter p, a, b⟩ L) : Hid (Own u B v ⟨N, (E.take (k + 1)).filter p, a, b⟩ L) := by
  have e : (E.take (k + 1)).filter p = (E.take k).filter p := by
    rw [getD_take (d := (0, 0, 0)) hk, hx]
    simp [hq]
  show Own _ _ _ _ _
  rw [e]
  exact o
theorem Own.growE {A A4 : Option Addr} {n c c4 : Nat} {s : Sl} {x y x' y' : Int} {d : Ed} {o : Obj} (h : Own U B ⟨s, ⟨A, n, c⟩, x, y⟩ ⟨N, E, x', y'⟩ L) (O4 : w2.ownsRow B 79 3 (.slice A4 (n + 1) c4) (n + 1) (ints (flat3 E) ++ [.int .i64 d.1, .int .i64 d.2.1, .int .i64 d.2.2])) (hg : (U.alloc o).grownBy w2 (Value.slice A n c).ownBlock) :
    Own w2 B ⟨s, ⟨A4, n + 1, c4⟩, x, y⟩ ⟨N, E ++ [d], x', y'⟩ L := (h.step ((Below.refl _ _).alloc (Nat.le_refl _) o)).appE O4 hg
end
theorem filter_all {E : List Ed} {a : Int} : (E.filter fun d => d.1 != a).length = E.length ↔ atf (fun z : Ed => z.1) E a < 0 := by
  rw [← Int.not_le, atf_mem, List.length_filter_eq_length_iff]
  simp only [bne_iff_ne, List.mem_map, not_exists, not_and]

set_option maxRecDepth 100000 in
set_option maxHeartbeats 4000000 in
theorem rcut_any (v : Gv) (G R : GL) (a er : Int) (w : World) (S : Sees w w.heap.size v G) (HS : Small G) (hr : Hid (cutR G a = (er, R))) :
    Calls Tryz.prog 34 #[v.val, .int .i64 a] w fun e w' => ∃ v', e = .returned (.tuple #[Gv.val v', .int .i64 er]) ∧ Hid (Mine w w' v' R) ∧ Hid (Below w.heap.size w w') := by
  obtain ⟨i0, hi0, hz0, hz1, hz2⟩ := info_parts info80
  have H1 := hide hi0
  have H2 := hide hz0
  have H3 := hide hz1
  have H4 := hide hz2
  clear hi0 hz0 hz1 hz2
  obtain ⟨⟨nA, nn, nc⟩, ⟨eA, en, ec⟩, x, y⟩ := v
  show Calls Tryz.prog 34 #[.agg #[.slice nA nn nc, .slice eA en ec, .int .i64 x, .int .i64 y], .int .i64 a] w _
  have SW := hide S
  have HSM := hide HS
  have ln := S.nodes.1
  have le := edges_len S.edges
  dsimp only at ln le
  have hnn : nn ≤ 1000 := by have := HS.n; omega
  have hen : en ≤ 1000 := by have := HS.e; omega
  have LE := hide le
  clear S HS ln le
  obtain ⟨W, hW⟩ : ∃ W, Hid ((w.alloc (.cells #[.slice nA nn nc, .slice eA en ec, .int .i64 x, .int .i64 y] 27)).alloc (.cells #[.slice none 0 0, .slice none 0 0, .int .i64 0, .int .i64 0] 27) = W) := ⟨_, rfl⟩
  have BW : Hid (Below w.heap.size w W) := by show Below _ _ _; rw [← hW.out]; exact boxed2 w _ _
  have HA : Hid (W.heap[w.heap.size]? = some (.cells #[.slice nA nn nc, .slice eA en ec, .int .i64 x, .int .i64 y] 27 (0, 0))) := by show _ = _; rw [← hW.out]; exact heap_alloc2_old w _ _
  have HR : Hid (W.heap[w.heap.size + 1]? = some (.cells #[.slice none 0 0, .slice none 0 0, .int .i64 0, .int .i64 0] 27 (0, 0))) := by show _ = _; rw [← hW.out]; exact heap_alloc2_new w _ _
  go_enter Tryz.func34, Tryz.ntmps34
  go_wp2_with fail
  have hW' := hW.out
  rw [hW']
  clear hW hW'
  refine (copy_any ⟨⟨nA, nn, nc⟩, ⟨eA, en, ec⟩, x, y⟩ G _ ((SW.out.below BW.out (Nat.le_refl _)).more BW.out.size) hnn hen (fun j hj => by have := HSM.out.p j hj; omega)).mono ?_
  rintro e u1 ⟨⟨⟨oA, on, oc⟩, ⟨pA, pn, pc⟩, x1, y1⟩, LL, rfl, O1, B1⟩
  have OU := hide (O1.out.less BW.out.size)
  have HA := hide (bx_step HA.out B1.out)
  have HR := hide (bx_step HR.out B1.out)
  have BW := hide (BW.out.trans (B1.out.mono BW.out.size))
  clear O1 B1
  obtain ⟨NN, hNN⟩ : ∃ n, n = G.N := ⟨_, rfl⟩
  ·
    obtain ⟨X, hX⟩ : ∃ X, Hid (u1.alloc (.cells #[.slice oA on oc, .slice pA pn pc, .int .i64 x1, .int .i64 y1] 27) = X) := ⟨_, rfl⟩
    obtain ⟨g, hg⟩ : ∃ g, Hid (u1.heap.size = g) := ⟨_, rfl⟩
    have BXX : Hid (Below u1.heap.size u1 X) := by show Below _ _ _; rw [← hX.out]; exact (Below.refl _ _).alloc (Nat.le_refl _) _
    have MX : Hid (Mid w X (w.heap.size) (w.heap.size + 1) g #[.slice nA nn nc, .slice eA en ec, .int .i64 x, .int .i64 y] #[.slice none 0 0, .slice none 0 0, .int .i64 0, .int .i64 0] #[.slice oA on oc, .slice pA pn pc, .int .i64 x1, .int .i64 y1]) := ⟨BW.out.trans (BXX.out.mono BW.out.size), bx_step HA.out BXX.out, bx_step HR.out BXX.out, by rw [← hX.out, ← hg.out]; exact heap_alloc_new _ _⟩
    have hlt : w.heap.size + 1 < g := by rw [← hg.out]; exact (bx_all HR.out).2.2
    have NE1 : Hid (w.heap.size ≠ g) := by show _ ≠ _; omega
    have NE2 : Hid (w.heap.size + 1 ≠ g) := by show _ ≠ _; omega
    have NE3 : Hid (w.heap.size ≤ g) := by show _ ≤ _; omega
    have OX := hide (OU.out.step BXX.out)
    go_upto_region 2 with fail
    have hX' := hX.out
    have hg' := hg.out
    rw [hX', hg']
    clear hX hg hX' hg' BXX HA HR BW OU hlt
    have MV : Hid (Mid w (X.setCell ⟨g, 1, none⟩ (.slice none 0 0)) (w.heap.size) (w.heap.size + 1) g #[.slice nA nn nc, .slice eA en ec, .int .i64 x, .int .i64 y] #[.slice none 0 0, .slice none 0 0, .int .i64 0, .int .i64 0] #[.slice oA on oc, .slice none 0 0, .int .i64 x1, .int .i64 y1]) := MX.out.put NE1.out NE2.out NE3.out
    have OV : Hid (Own (X.setCell ⟨g, 1, none⟩ (.slice none 0 0)) w.heap.size ⟨⟨oA, on, oc⟩, ⟨none, 0, 0⟩, x1, y1⟩ ⟨NN, (G.E.take 0).filter fun d => d.1 != a, G.x, G.y⟩ LL) := by subst hNN; exact (OX.out.edges (World.ownsRow_nil _ _ _ _)).cell MX.out.out (by decide) (by decide) (by decide) 1 _
    obtain ⟨cg, fg, lg⟩ := bx_all MX.out.out
    obtain ⟨ca, -, la⟩ := bx_all MV.out.arg
    go_wp2
    clear cg fg lg ca la OX MX
    go_loopw [15] (fun i wr => ∃ (k m : Nat) (A' : Option Addr) (c' : Nat), k ≤ en ∧ i = .int .i64 k ∧ m ≤ k ∧ Hid (Own wr w.heap.size ⟨⟨oA, on, oc⟩, ⟨A', m, c'⟩, x1, y1⟩ ⟨NN, (G.E.take k).filter (fun d => d.1 != a), G.x, G.y⟩ LL) ∧ Hid (Mid w wr (w.heap.size) (w.heap.size + 1) g #[.slice nA nn nc, .slice eA en ec, .int .i64 x, .int .i64 y] #[.slice none 0 0, .slice none 0 0, .int .i64 0, .int .i64 0] #[.slice oA on oc, .slice A' m c', .int .i64 x1, .int .i64 y1])) (fun i _ => en - (intOf i).toNat)
    case atStart => exact ⟨0, 0, none, 0, by omega, rfl, by omega, OV, MV⟩
    case round =>
      clear OV MV
      obtain ⟨k, m, A', c', hk, rfl, hm, OR, MR⟩ := hrel
      by_cases hlt : k < en
      · obtain ⟨b0, off, e0, hb0, d0, d1, d2⟩ := edge_at (SW.out.edges.below MR.out.bel (Nat.le_refl _)) hlt
        dsimp only at e0
        subst e0
        obtain ⟨z, hz⟩ : ∃ z, Hid ((G.E.getD k (0, 0, 0)).1 = z) := ⟨_, rfl⟩
        obtain ⟨f, hf⟩ : ∃ z, Hid ((G.E.getD k (0, 0, 0)).2.1 = z) := ⟨_, rfl⟩
        obtain ⟨t, ht⟩ : ∃ z, Hid ((G.E.getD k (0, 0, 0)).2.2 = z) := ⟨_, rfl⟩
        rw [hz.out] at d0
        rw [hf.out] at d1
        rw [ht.out] at d2
        have HX0 : Hid (G.E.getD k (0, 0, 0) = (z, f, t)) := Prod.ext hz.out (Prod.ext hf.out ht.out)
        have HK : Hid (k < G.E.length) := by have := LE.out; show _ < _; omega
        clear hz hf ht
        obtain ⟨U, hU⟩ : ∃ U, Hid (wr.alloc (.cells #[.int .i64 z, .int .i64 f, .int .i64 t] 79) = U) := ⟨_, rfl⟩
        obtain ⟨gn, hgn⟩ : ∃ g, Hid (wr.heap.size = g) := ⟨_, rfl⟩
        have BU : Hid (Below wr.heap.size wr U) := by show Below _ _ _; rw [← hU.out]; exact (Below.refl _ _).alloc (Nat.le_refl _) _
        have HX : Hid (U.heap[gn]? = some (.cells #[.int .i64 z, .int .i64 f, .int .i64 t] 79 (0, 0))) := by show _ = _; rw [← hU.out, ← hgn.out]; exact heap_alloc_new _ _
        have OU := hide (OR.out.step BU.out)
        have MU := hide (MR.out.step BU.out)
        have RE : Hid (U.ownsRow w.heap.size 79 3 (.slice A' m c') m (ints (flat3 ((G.E.take k).filter (fun d => d.1 != a))))) := OU.out.edg
        go_upto_region 6 with fail
        have hU' := hU.out
        have hg' := hgn.out
        rw [hU', hg']
        clear hU hgn hU' hg' d0 d1 d2 OR MR BU
        obtain ⟨m0, -, n0⟩ := bx_all HX.out
        obtain ⟨cg, fg, lg⟩ := bx_all MU.out.out
        by_cases e1 : z = a
        ·
          have t1 : (z != a) = false := by simpa using e1
          have HQ : (fun d : Ed => d.1 != a) (z, f, t) = false := t1
          clear e1
          have ON := hide (OU.out.filt_no HK.out HX0.out HQ)
          clear cg fg lg m0 n0
          obtain ⟨m0, -, n0⟩ := bx_all HX.out
          go_wp2
          go_roundw
          case rel => exact ⟨k + 1, m, A', c', by omega, by go_num, by omega, ON.out, MU⟩
          case measure => simp [intOf]; omega
        ·
          have t1 : (z != a) = true := by simpa using e1
          have HQ : (fun d : Ed => d.1 != a) (z, f, t) = true := t1
          clear e1
          go_wp2_with (at_builtin; refine wpList_append_lies _ rfl _ _ 25 rfl w.heap.size 79 i0 (.agg #[.int .i64 0, .int .i64 0, .int .i64 0]) 3 24 Tryz.underlying25 H1.out H2.out H3.out H4.out rfl (by decide) (.slice A' m c') m _ rfl (RE.out.alloc _) ⟨U.heap.size, 0, none⟩ 1 1 [.int .i64 z, .int .i64 f, .int .i64 t] rfl rfl (cells_new _ _ _ _ (by simp)) (three_cells z f t) (by decide) (by simp only [maxLen]; omega) (by omega) (by have := MU.out.bel.size; simp; omega) _ rfl ?_; intro g1 q1 w2 hown hg hat hlt2; have MG := hide (MU.out.grow (o := .cells #[.int .i64 z, .int .i64 f, .int .i64 t] 79) RE.out hg (by decide)); have OG : Hid (Own w2 w.heap.size ⟨⟨oA, on, oc⟩, ⟨some ⟨g1, 0, none⟩, m + 1, q1⟩, x1, y1⟩ ⟨NN, (G.E.take k).filter (fun d => d.1 != a) ++ [(z, f, t)], G.x, G.y⟩ LL) := Own.growE (d := (z, f, t)) (o := .cells #[.int .i64 z, .int .i64 f, .int .i64 t] 79) OU.out hown hg; have OF := OG.out.filt_yes HK.out HX0.out HQ; obtain ⟨c9, f9, l9⟩ := bx_all MG.out.out; clear hown hg hat cg fg lg m0 n0 OG)
          have MP : Hid (Mid w (w2.setCell ⟨g, 1, none⟩ (.slice (some ⟨g1, 0, none⟩) (m + 1) q1)) (w.heap.size) (w.heap.size + 1) g #[.slice nA nn nc, .slice (some ⟨b0, off, none⟩) en ec, .int .i64 x, .int .i64 y] #[.slice none 0 0, .slice none 0 0, .int .i64 0, .int .i64 0] #[.slice oA on oc, .slice (some ⟨g1, 0, none⟩) (m + 1) q1, .int .i64 x1, .int .i64 y1]) := MG.out.put NE1.out NE2.out NE3.out
          have OP := hide (OF.out.cell MG.out.out (by decide) (by decide) (by decide) 1 (.slice (some ⟨g1, 0, none⟩) (m + 1) q1))
          go_roundw
          case rel => exact ⟨k + 1, m + 1, some ⟨g1, 0, none⟩, q1, by omega, by go_num, by omega, OP, MP⟩
          case measure => simp [intOf]; omega
      · obtain rfl : en = k := by omega
        rw [List.take_of_length_le (show G.E.length ≤ en by have := LE.out; omega)] at OR
        subst hNN
        have hmm : m = (G.E.filter fun d => d.1 != a).length := edges_len OR.out.sees.edges
        obtain ⟨ca, -, la⟩ := bx_all MR.out.arg
        obtain ⟨cg, fg, lg⟩ := bx_all MR.out.out
        by_cases e2 : m = en
        · have h2 : atf (fun z : Ed => z.1) G.E a < 0 := filter_all.1 (by rw [← hmm, e2]; exact LE.out)
          have HRR : Hid ((2, noG) = (er, R)) := by show _ = _; rw [← hr.out]; exact (cutR_none h2).symm
          obtain ⟨rfl, rfl⟩ : 2 = er ∧ noG = R := by have := HRR.out; simp only [Prod.mk.injEq] at this; exact this
          clear HRR
          have t2 : (((m : Nat) : Int) == ((en : Nat) : Int)) = true := by simp; omega
          clear e2 h2 hmm
          have HF := hide (fin4 (Own.none _ w.heap.size) MR.out.res MR.out.bel (by omega))
          obtain ⟨cr, fr, lr⟩ := bx_all MR.out.res
          go_wp2
          exact bodyPost_ret (row_two rfl _ _ (w.heap.size + 1) 27 _ (0, 0) _ rfl HF.out.1 Tryz.underlying27 rfl size27) rfl ⟨noGv, rfl, ⟨_, HF.out.2.1⟩, HF.out.2.2⟩
        · have h2 : ¬ atf (fun z : Ed => z.1) G.E a < 0 := fun h => e2 (by have := filter_all.2 h; have := LE.out; omega)
          have HRR : Hid ((0, cutG a G) = (er, R)) := by show _ = _; rw [← hr.out]; exact (cutR_ok h2).symm
          obtain ⟨rfl, rfl⟩ : 0 = er ∧ cutG a G = R := by have := HRR.out; simp only [Prod.mk.injEq] at this; exact this
          clear HRR
          have t2 : (((m : Nat) : Int) == ((en : Nat) : Int)) = false := by simp; omega
          clear e2 h2 hmm
          clear ca la cg fg lg
          obtain ⟨ca, -, la⟩ := bx_all MR.out.arg
          have HF := hide (fin4 OR.out MR.out.res MR.out.bel (by omega))
          obtain ⟨cr, fr, lr⟩ := bx_all MR.out.res
          obtain ⟨cg, fg, lg⟩ := bx_all MR.out.out
          go_wp2
          exact bodyPost_ret (row_two rfl _ _ (w.heap.size + 1) 27 _ (0, 0) _ rfl HF.out.1 Tryz.underlying27 rfl size27) rfl ⟨⟨⟨oA, on, oc⟩, ⟨A', m, c'⟩, x1, y1⟩, rfl, ⟨_, HF.out.2.1⟩, HF.out.2.2⟩

end Go.Proofs.YtiiadkjiofkonaaGreat
