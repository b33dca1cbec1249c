/- A node dropped: the document's answer. -/
import Derived.Test.YtiiadkjiofkonaaGreatRCut
import Derived.Test.YtiiadkjiofkonaaGreatRSet
import Derived.Test.YtiiadkjiofkonaaGreatGNodes
import Derived.WalkKit
import Derived.Below
import Derived.Deep.QuietTactic
import Derived.BigQuiet
import Derived.Deep.AppendLies
import Derived.Deep.RegionHeld3
import Derived.Deep.DeepCutAuto
import Derived.Shelf.Abstract
namespace Go.Proofs.YtiiadkjiofkonaaGreat
open Go.RowKit
set_option linter.unusedVariables false

section
variable {U w2 : World} {B : Nat}
theorem Lst.grow {L : List (Int × Sl)} {M : List Nd} {n c B' : Nat} {A : Option Addr} {xs : List Value} {ob : Obj} (h : Lst U B L M) (R : U.ownsRow B' 61 2 (.slice A n c) n xs) (hg : (U.alloc ob).grownBy w2 (Value.slice A n c).ownBlock) : Lst w2 B L M :=
  ⟨h.1, fun i hi => ⟨(h.2 i hi).1, grow_row R hg (h.2 i hi).2 (by decide)⟩⟩
theorem Lst.step {u u' : World} {L : List (Int × Sl)} {M : List Nd} (h : Lst u B L M) (b : Below u.heap.size u u') : Lst u' B L M :=
  ⟨h.1, fun i hi => ⟨(h.2 i hi).1, own_below (h.2 i hi).2 b⟩⟩
theorem Own.grow58 {v : Gv} {G : GL} {L : List (Int × Sl)} {n c B' : Nat} {A : Option Addr} {xs : List Value} {ob : Obj} (o : Own U B v G L) (R : U.ownsRow B' 61 2 (.slice A n c) n xs) (hg : (U.alloc ob).grownBy w2 (Value.slice A n c).ownBlock) (AP : Apt (.slice A n c) (.slice v.N.A v.N.n v.N.c)) : Own w2 B v G L :=
  ⟨grow_same hg o.rows AP, o.len, o.ids, fun i hi => grow_row R hg (o.prs i hi) (by decide), grow_row R hg o.edg (by decide), o.x, o.y⟩
theorem Own.of_lst {u : World} {A : Option Addr} {m c : Nat} {e : Sl} {x y x' y' : Int} {E : List Ed} {M : List Nd} {L : List (Int × Sl)} (h : Lst u B L M) (r : u.ownsRow B 61 2 (.slice A m c) m (cellsN L)) (re : u.ownsRow B 79 3 (.slice e.A e.n e.c) e.n (ints (flat3 E))) (hx : x = x') (hy : y = y') : Own u B ⟨⟨A, m, c⟩, e, x, y⟩ ⟨M, E, x', y'⟩ L :=
  ⟨r, h.1, fun i hi => (h.2 i hi).1, fun i hi => (h.2 i hi).2, re, hx, hy⟩
theorem cells_more {u : World} {e s m : Nat} {v : Value} {L : List (Int × Sl)} {z : Int} {h : Sl} (r : u.ownsRow B e s v m (cellsN L ++ [.int .i64 z, .slice h.A h.n h.c])) : u.ownsRow B e s v m (cellsN (L ++ [(z, h)])) := by
  rw [cellsN_append]
  simpa [cellsN] using r
end

set_option maxRecDepth 100000 in
set_option maxHeartbeats 4000000 in
theorem rwithout_any (v : Gv) (G : GL) (a : Int) (w : World) (S : Sees w w.heap.size v G) (HS : Small G) :
    Calls Tryz.prog 77 #[v.val, .int .i64 a] w fun e w' => ∃ v', e = .returned (Gv.val v') ∧ Hid (Mine w w' v' ⟨G.N.filter fun d => d.1 != a, G.E, G.x, G.y⟩) ∧ Hid (Below w.heap.size w w') := by
  obtain ⟨i0, hi0, hz0, hz1, hz2⟩ := info_parts info58
  have H1 := hide hi0
  have H2 := hide hz0
  have H3 := hide hz1
  have H4 := hide hz2
  clear hi0 hz0 hz1 hz2
  obtain ⟨⟨nA, nn, nc⟩, ⟨eA, en, ec⟩, x, y⟩ := v
  show Calls Tryz.prog 77 #[.agg #[.slice nA nn nc, .slice eA en ec, .int .i64 x, .int .i64 y], .int .i64 a] w _
  have SW := hide S
  have HSM := hide HS
  have ln := S.nodes.1
  have le := edges_len S.edges
  dsimp only at ln le
  have hnn : nn ≤ 1000 := by have := HS.n; omega
  have hen : en ≤ 1000 := by have := HS.e; omega
  have LE := hide le
  clear S HS ln le
  obtain ⟨W, hW⟩ : ∃ W, Hid ((w.alloc (.cells #[.slice nA nn nc, .slice eA en ec, .int .i64 x, .int .i64 y] 27)).alloc (.cells #[.slice none 0 0, .slice none 0 0, .int .i64 0, .int .i64 0] 27) = W) := ⟨_, rfl⟩
  have BW : Hid (Below w.heap.size w W) := by show Below _ _ _; rw [← hW.out]; exact boxed2 w _ _
  have HA : Hid (W.heap[w.heap.size]? = some (.cells #[.slice nA nn nc, .slice eA en ec, .int .i64 x, .int .i64 y] 27 (0, 0))) := by show _ = _; rw [← hW.out]; exact heap_alloc2_old w _ _
  have HR : Hid (W.heap[w.heap.size + 1]? = some (.cells #[.slice none 0 0, .slice none 0 0, .int .i64 0, .int .i64 0] 27 (0, 0))) := by show _ = _; rw [← hW.out]; exact heap_alloc2_new w _ _
  go_enter Tryz.func77, Tryz.ntmps77
  go_wp2_with fail
  have hW' := hW.out
  rw [hW']
  clear hW hW'
  refine (copy_any ⟨⟨nA, nn, nc⟩, ⟨eA, en, ec⟩, x, y⟩ G _ ((SW.out.below BW.out (Nat.le_refl _)).more BW.out.size) hnn hen (fun j hj => by have := HSM.out.p j hj; omega)).mono ?_
  rintro e u1 ⟨⟨⟨oA, on, oc⟩, ⟨pA, pn, pc⟩, x1, y1⟩, LL, rfl, O1, B1⟩
  have OU := hide (O1.out.less BW.out.size)
  have HA := hide (bx_step HA.out B1.out)
  have HR := hide (bx_step HR.out B1.out)
  have BW := hide (BW.out.trans (B1.out.mono BW.out.size))
  clear O1 B1
  ·
    obtain ⟨X, hX⟩ : ∃ X, Hid (u1.alloc (.cells #[.slice oA on oc, .slice pA pn pc, .int .i64 x1, .int .i64 y1] 27) = X) := ⟨_, rfl⟩
    obtain ⟨g, hg⟩ : ∃ g, Hid (u1.heap.size = g) := ⟨_, rfl⟩
    have BXX : Hid (Below u1.heap.size u1 X) := by show Below _ _ _; rw [← hX.out]; exact (Below.refl _ _).alloc (Nat.le_refl _) _
    have MX : Hid (Mid w X (w.heap.size) (w.heap.size + 1) g #[.slice nA nn nc, .slice eA en ec, .int .i64 x, .int .i64 y] #[.slice none 0 0, .slice none 0 0, .int .i64 0, .int .i64 0] #[.slice oA on oc, .slice pA pn pc, .int .i64 x1, .int .i64 y1]) := ⟨BW.out.trans (BXX.out.mono BW.out.size), bx_step HA.out BXX.out, bx_step HR.out BXX.out, by rw [← hX.out, ← hg.out]; exact heap_alloc_new _ _⟩
    have hlt : w.heap.size + 1 < g := by rw [← hg.out]; exact (bx_all HR.out).2.2
    have NE1 : Hid (w.heap.size ≠ g) := by show _ ≠ _; omega
    have NE2 : Hid (w.heap.size + 1 ≠ g) := by show _ ≠ _; omega
    have NE3 : Hid (w.heap.size ≤ g) := by show _ ≤ _; omega
    have OX := hide (OU.out.step BXX.out)
    go_upto_region 2 with fail
    have hX' := hX.out
    have hg' := hg.out
    rw [hX', hg']
    clear hX hg hX' hg' BXX HA HR BW OU hlt
    have MV : Hid (Mid w (X.setCell ⟨g, 0, none⟩ (.slice none 0 0)) (w.heap.size) (w.heap.size + 1) g #[.slice nA nn nc, .slice eA en ec, .int .i64 x, .int .i64 y] #[.slice none 0 0, .slice none 0 0, .int .i64 0, .int .i64 0] #[.slice none 0 0, .slice pA pn pc, .int .i64 x1, .int .i64 y1]) := MX.out.put NE1.out NE2.out NE3.out
    have RE : Hid ((X.setCell ⟨g, 0, none⟩ (.slice none 0 0)).ownsRow w.heap.size 79 3 (.slice pA pn pc) pn (ints (flat3 G.E))) := (OX.out.cell MX.out.out (by decide) (by decide) (by decide) 0 _).edg
    have EX : Hid (x1 = G.x) := OX.out.x
    have EY : Hid (y1 = G.y) := OX.out.y
    obtain ⟨cg, fg, lg⟩ := bx_all MX.out.out
    obtain ⟨ca, -, la⟩ := bx_all MV.out.arg
    go_wp2_with fail
    clear cg fg lg ca la OX MX
    generalize X.setCell ⟨g, 0, none⟩ (.slice none 0 0) = Y at MV RE ⊢
    have hSZ := MV.out.bel.size
    refine (copy_any ⟨⟨nA, nn, nc⟩, ⟨eA, en, ec⟩, x, y⟩ G Y ((SW.out.below MV.out.bel (Nat.le_refl _)).more MV.out.bel.size) hnn hen (fun j hj => by have := HSM.out.p j hj; omega)).mono ?_
    rintro e u2 ⟨⟨⟨qA, qn, qc⟩, ⟨rA, rn, rc⟩, x2, y2⟩, L2, rfl, O2, B2⟩
    have MV := hide (MV.out.step B2.out)
    have RE := hide (own_below RE.out B2.out)
    have O2 := hide (O2.out.less hSZ)
    clear B2
    have hfd : ∀ w : World, (Instr.field 27 (Gv.val ⟨⟨qA, qn, qc⟩, ⟨rA, rn, rc⟩, x2, y2⟩) 0).run Tryz.prog w = .ok (.slice qA qn qc) w := fun _ => by kernel_rfl
    have LQ : Hid (qn = G.N.length) := O2.out.many
    have hqn : qn ≤ 1000 := by have := LQ.out; have := HSM.out.n; omega
    go_wp2
    go_loopw [15] (fun i wr => ∃ (k m : Nat) (A' : Option Addr) (c' : Nat) (Lk : List (Int × Sl)), k ≤ qn ∧ i = .int .i64 k ∧ m ≤ k ∧ Hid (Lst wr w.heap.size Lk ((G.N.take k).filter fun d => d.1 != a)) ∧ Hid (wr.ownsRow w.heap.size 61 2 (.slice A' m c') m (cellsN Lk)) ∧ Hid (Apt (.slice A' m c') (.slice qA qn qc)) ∧ Hid (Own wr w.heap.size ⟨⟨qA, qn, qc⟩, ⟨rA, rn, rc⟩, x2, y2⟩ G L2) ∧ Hid (wr.ownsRow w.heap.size 79 3 (.slice pA pn pc) pn (ints (flat3 G.E))) ∧ Hid (Mid w wr (w.heap.size) (w.heap.size + 1) g #[.slice nA nn nc, .slice eA en ec, .int .i64 x, .int .i64 y] #[.slice none 0 0, .slice none 0 0, .int .i64 0, .int .i64 0] #[.slice A' m c', .slice pA pn pc, .int .i64 x1, .int .i64 y1])) (fun i _ => qn - (intOf i).toNat)
    case atStart => exact ⟨0, 0, none, 0, [], by omega, rfl, by omega, Lst.nil _ _, World.ownsRow_nil _ _ _ _, apt_none _, O2, RE, MV⟩
    case round =>
      clear O2 RE MV
      obtain ⟨k, m, A', c', Lk, hk, rfl, hm, HL, RR, AP, O2, RE, MR⟩ := hrel
      by_cases hlt : k < qn
      · have HK : Hid (k < G.N.length) := by have := LQ.out; show _ < _; omega
        obtain ⟨gq, e0, hbq, hlq, d0, d1⟩ := O2.out.at_ (k := k) hlt
        dsimp only at e0
        subst e0
        have PRk := hide (O2.out.prs k HK.out)
        obtain ⟨z, hz⟩ : ∃ z, Hid ((G.N.getD k (0, [])).1 = z) := ⟨_, rfl⟩
        obtain ⟨⟨hA, hh, hcc⟩, hHS⟩ : ∃ s, Hid ((L2.getD k (0, noSl)).2 = s) := ⟨_, rfl⟩
        have hHS' := hHS.out
        rw [hz.out] at d0
        rw [hHS'] at d1 PRk
        clear hHS hHS'
        dsimp only at d1
        obtain ⟨U, hU⟩ : ∃ U, Hid (wr.alloc (.cells #[.int .i64 z, .slice hA hh hcc] 61) = U) := ⟨_, rfl⟩
        obtain ⟨gn, hgn⟩ : ∃ g, Hid (wr.heap.size = g) := ⟨_, rfl⟩
        have BU : Hid (Below wr.heap.size wr U) := by show Below _ _ _; rw [← hU.out]; exact (Below.refl _ _).alloc (Nat.le_refl _) _
        have HX : Hid (U.heap[gn]? = some (.cells #[.int .i64 z, .slice hA hh hcc] 61 (0, 0))) := by show _ = _; rw [← hU.out, ← hgn.out]; exact heap_alloc_new _ _
        have O2 := hide (O2.out.step BU.out)
        have MU := hide (MR.out.step BU.out)
        have HL := hide (HL.out.step BU.out)
        have RU := hide (own_below RR.out BU.out)
        have RE := hide (own_below RE.out BU.out)
        have PRk := hide (own_below PRk.out BU.out)
        go_upto_region 6 with fail
        have hU' := hU.out
        have hg' := hgn.out
        rw [hU', hg']
        clear hU hgn hU' hg' d0 d1 MR RR BU hbq hlq
        obtain ⟨m0, -, n0⟩ := bx_all HX.out
        obtain ⟨cg, fg, lg⟩ := bx_all MU.out.out
        by_cases e1 : z = a
        · have t1 : (z != a) = false := by simpa using e1
          clear e1
          have LN := filtN_no (p := fun z => z != a) HK.out hz.out t1 HL.out
          go_wp2
          go_roundw
          case rel => exact ⟨k + 1, m, A', c', Lk, by omega, by go_num, by omega, LN, RU, AP, O2, RE, MU⟩
          case measure => simp [intOf]; omega
        · have t1 : (z != a) = true := by simpa using e1
          clear e1
          go_wp2_with (at_builtin; refine wpList_append_lies _ rfl _ _ 24 rfl w.heap.size 61 i0 (.agg #[.int .i64 0, .slice none 0 0]) 2 32 Tryz.underlying24 H1.out H2.out H3.out H4.out rfl (by decide) (.slice A' m c') m _ rfl (RU.out.alloc _) ⟨U.heap.size, 0, none⟩ 1 1 [.int .i64 z, .slice hA hh hcc] rfl rfl (cells_new _ _ _ _ (by simp)) (node_one z hA hh hcc) (by decide) (by simp only [maxLen]; omega) (by omega) (by have := MU.out.bel.size; simp; omega) _ rfl ?_; intro g1 q1 w2 hown hg hat hlt2; have MG := hide (MU.out.grow RU.out hg (by decide)); have LG := filtN_yes (p := fun z => z != a) (h0 := ⟨hA, hh, hcc⟩) HK.out hz.out t1 (HL.out.grow RU.out hg) (grow_row RU.out hg PRk.out (by decide)); have RG := hide (cells_more (h := ⟨hA, hh, hcc⟩) hown); have OG := hide (O2.out.grow58 RU.out hg AP.out); have EG := hide (grow_row RU.out hg RE.out (by decide)); have AG := hide (apt_new (n' := m + 1) (c' := q1) O2.out.rows AP.out hat (by simp)); obtain ⟨c9, f9, l9⟩ := bx_all MG.out.out; clear hown hg hat cg fg lg m0 n0)
          have MP : Hid (Mid w (w2.setCell ⟨g, 0, none⟩ (.slice (some ⟨g1, 0, none⟩) (m + 1) q1)) (w.heap.size) (w.heap.size + 1) g #[.slice nA nn nc, .slice eA en ec, .int .i64 x, .int .i64 y] #[.slice none 0 0, .slice none 0 0, .int .i64 0, .int .i64 0] #[.slice (some ⟨g1, 0, none⟩) (m + 1) q1, .slice pA pn pc, .int .i64 x1, .int .i64 y1]) := MG.out.put NE1.out NE2.out NE3.out
          have h2 := MG.out.out
          have RP := hide (own_cell RG.out h2 (by decide) 0 (.slice (some ⟨g1, 0, none⟩) (m + 1) q1))
          have OP := hide (OG.out.cell h2 (by decide) (by decide) (by decide) 0 (.slice (some ⟨g1, 0, none⟩) (m + 1) q1))
          have EP := hide (own_cell EG.out h2 (by decide) 0 (.slice (some ⟨g1, 0, none⟩) (m + 1) q1))
          have LP : Hid (Lst (w2.setCell ⟨g, 0, none⟩ (.slice (some ⟨g1, 0, none⟩) (m + 1) q1)) w.heap.size (Lk ++ [(z, ⟨hA, hh, hcc⟩)]) ((G.N.take (k + 1)).filter fun d => d.1 != a)) := ⟨LG.out.1, fun i hi => ⟨(LG.out.2 i hi).1, own_cell (LG.out.2 i hi).2 h2 (by decide) 0 _⟩⟩
          clear h2
          go_roundw
          case rel => exact ⟨k + 1, m + 1, some ⟨g1, 0, none⟩, q1, _, by omega, by go_num, by omega, LP, RP, AG, OP, EP, MP⟩
          case measure => simp [intOf]; omega
      · obtain rfl : qn = k := by omega
        rw [List.take_of_length_le (show G.N.length ≤ qn by have := LQ.out; omega)] at HL
        have OR := hide (Own.of_lst (e := ⟨pA, pn, pc⟩) (x := x1) (y := y1) HL.out RR.out RE.out EX.out EY.out)
        have HF := hide (fin4 OR.out MR.out.res MR.out.bel (by omega))
        obtain ⟨cr, fr, lr⟩ := bx_all MR.out.res
        obtain ⟨cg, fg, lg⟩ := bx_all MR.out.out
        go_wp2
        exact bodyPost_ret (results_cell_row rfl _ _ (w.heap.size + 1) 27 _ (0, 0) _ rfl HF.out.1 Tryz.underlying27 rfl size27) rfl ⟨⟨⟨A', m, c'⟩, ⟨pA, pn, pc⟩, x1, y1⟩, rfl, ⟨_, HF.out.2.1⟩, HF.out.2.2⟩

set_option maxRecDepth 100000 in
set_option maxHeartbeats 4000000 in
theorem rdrop_any (v : Gv) (G R : GL) (a er : Int) (w : World) (S : Sees w w.heap.size v G) (HS : Small G) (hr : Hid (dropR G a = (er, R))) :
    Calls Tryz.prog 39 #[v.val, .int .i64 a] w fun e w' => ∃ v', e = .returned (.tuple #[Gv.val v', .int .i64 er]) ∧ Hid (Mine w w' v' R) ∧ Hid (Below w.heap.size w w') := by
  obtain ⟨i0, hi0, hz0, hz1, hz2⟩ := info_parts info80
  have H1 := hide hi0
  have H2 := hide hz0
  have H3 := hide hz1
  have H4 := hide hz2
  clear hi0 hz0 hz1 hz2
  obtain ⟨⟨nA, nn, nc⟩, ⟨eA, en, ec⟩, x, y⟩ := v
  show Calls Tryz.prog 39 #[.agg #[.slice nA nn nc, .slice eA en ec, .int .i64 x, .int .i64 y], .int .i64 a] w _
  have SW := hide S
  have HSM := hide HS
  have ln := S.nodes.1
  have le := edges_len S.edges
  dsimp only at ln le
  have hnn : nn ≤ 1000 := by have := HS.n; omega
  have hen : en ≤ 1000 := by have := HS.e; omega
  have LE := hide le
  clear S HS ln le
  obtain ⟨W, hW⟩ : ∃ W, Hid ((w.alloc (.cells #[.slice nA nn nc, .slice eA en ec, .int .i64 x, .int .i64 y] 27)).alloc (.cells #[.slice none 0 0, .slice none 0 0, .int .i64 0, .int .i64 0] 27) = W) := ⟨_, rfl⟩
  have BW : Hid (Below w.heap.size w W) := by show Below _ _ _; rw [← hW.out]; exact boxed2 w _ _
  have HA : Hid (W.heap[w.heap.size]? = some (.cells #[.slice nA nn nc, .slice eA en ec, .int .i64 x, .int .i64 y] 27 (0, 0))) := by show _ = _; rw [← hW.out]; exact heap_alloc2_old w _ _
  have HR : Hid (W.heap[w.heap.size + 1]? = some (.cells #[.slice none 0 0, .slice none 0 0, .int .i64 0, .int .i64 0] 27 (0, 0))) := by show _ = _; rw [← hW.out]; exact heap_alloc2_new w _ _
  go_enter Tryz.func39, Tryz.ntmps39
  go_wp2_with fail
  have hW' := hW.out
  rw [hW']
  clear hW hW'
  obtain ⟨r, Hr⟩ : ∃ r, Hid (atI G.N a = r) := ⟨_, rfl⟩
  refine (at_any ⟨⟨nA, nn, nc⟩, ⟨eA, en, ec⟩, x, y⟩ G a r _ ((SW.out.below BW.out (Nat.le_refl _)).more BW.out.size) (by dsimp only; omega) Hr).mono ?_
  rintro e u0 ⟨rfl, hb1⟩
  have HA := hide (bx_step HA.out hb1)
  have HR := hide (bx_step HR.out hb1)
  have BW := hide (BW.out.trans (hb1.mono BW.out.size))
  clear hb1
  by_cases t : r < 0
  · have t1 : decide (r < 0) = true := by simpa using t
    have HRR : Hid ((2, noG) = (er, R)) := by show _ = _; rw [← hr.out]; exact (dropR_none (by rw [isN_at, Hr.out]; simpa using t)).symm
    obtain ⟨rfl, rfl⟩ : 2 = er ∧ noG = R := by have := HRR.out; simp only [Prod.mk.injEq] at this; exact this
    clear HRR
    clear t
    have HF := hide (fin4 (Own.none _ w.heap.size) HR.out BW.out (by omega))
    obtain ⟨cr, fr, lr⟩ := bx_all HR.out
    go_wp2
    exact bodyPost_ret (row_two rfl _ _ (w.heap.size + 1) 27 _ (0, 0) _ rfl HF.out.1 Tryz.underlying27 rfl size27) rfl ⟨noGv, rfl, ⟨_, HF.out.2.1⟩, HF.out.2.2⟩
  · have t1 : decide (r < 0) = false := by simpa using t
    have HRR : Hid ((0, dropG a G) = (er, R)) := by show _ = _; rw [← hr.out]; exact (dropR_ok (by rw [isN_at, Hr.out]; simpa using t)).symm
    obtain ⟨rfl, rfl⟩ : 0 = er ∧ dropG a G = R := by have := HRR.out; simp only [Prod.mk.injEq] at this; exact this
    clear HRR
    clear t hr Hr
    obtain ⟨ca, -, la⟩ := bx_all HA.out
    go_wp2_with fail
    clear ca la
    refine (rwithout_any ⟨⟨nA, nn, nc⟩, ⟨eA, en, ec⟩, x, y⟩ G a u0 ((SW.out.below BW.out (Nat.le_refl _)).more BW.out.size) HSM.out).mono ?_
    rintro e u1 ⟨⟨⟨oA, on, oc⟩, ⟨pA, pn, pc⟩, x1, y1⟩, rfl, hm, hb⟩
    obtain ⟨LL, O1⟩ := hm.out
    have OU := hide (O1.less BW.out.size)
    have HA := hide (bx_step HA.out hb.out)
    have HR := hide (bx_step HR.out hb.out)
    have BW := hide (BW.out.trans (hb.out.mono BW.out.size))
    clear O1 hm hb t1
    obtain ⟨NN, hNN⟩ : ∃ n, n = G.N.filter fun d => d.1 != a := ⟨_, rfl⟩
    obtain ⟨X, hX⟩ : ∃ X, Hid (u1.alloc (.cells #[.slice oA on oc, .slice pA pn pc, .int .i64 x1, .int .i64 y1] 27) = X) := ⟨_, rfl⟩
    obtain ⟨g, hg⟩ : ∃ g, Hid (u1.heap.size = g) := ⟨_, rfl⟩
    have BXX : Hid (Below u1.heap.size u1 X) := by show Below _ _ _; rw [← hX.out]; exact (Below.refl _ _).alloc (Nat.le_refl _) _
    have MX : Hid (Mid w X (w.heap.size) (w.heap.size + 1) g #[.slice nA nn nc, .slice eA en ec, .int .i64 x, .int .i64 y] #[.slice none 0 0, .slice none 0 0, .int .i64 0, .int .i64 0] #[.slice oA on oc, .slice pA pn pc, .int .i64 x1, .int .i64 y1]) := ⟨BW.out.trans (BXX.out.mono BW.out.size), bx_step HA.out BXX.out, bx_step HR.out BXX.out, by rw [← hX.out, ← hg.out]; exact heap_alloc_new _ _⟩
    have hlt : w.heap.size + 1 < g := by rw [← hg.out]; exact (bx_all HR.out).2.2
    have NE1 : Hid (w.heap.size ≠ g) := by show _ ≠ _; omega
    have NE2 : Hid (w.heap.size + 1 ≠ g) := by show _ ≠ _; omega
    have NE3 : Hid (w.heap.size ≤ g) := by show _ ≤ _; omega
    have OX := hide (OU.out.step BXX.out)
    go_upto_region 4 with fail
    have hX' := hX.out
    have hg' := hg.out
    rw [hX', hg']
    clear hX hg hX' hg' BXX HA HR BW OU hlt
    have MV : Hid (Mid w (X.setCell ⟨g, 1, none⟩ (.slice none 0 0)) (w.heap.size) (w.heap.size + 1) g #[.slice nA nn nc, .slice eA en ec, .int .i64 x, .int .i64 y] #[.slice none 0 0, .slice none 0 0, .int .i64 0, .int .i64 0] #[.slice oA on oc, .slice none 0 0, .int .i64 x1, .int .i64 y1]) := MX.out.put NE1.out NE2.out NE3.out
    have OV : Hid (Own (X.setCell ⟨g, 1, none⟩ (.slice none 0 0)) w.heap.size ⟨⟨oA, on, oc⟩, ⟨none, 0, 0⟩, x1, y1⟩ ⟨NN, (G.E.take 0).filter fun d => d.2.1 != a && d.2.2 != a, G.x, G.y⟩ LL) := by subst hNN; exact (OX.out.edges (World.ownsRow_nil _ _ _ _)).cell MX.out.out (by decide) (by decide) (by decide) 1 _
    obtain ⟨cg, fg, lg⟩ := bx_all MX.out.out
    obtain ⟨ca, -, la⟩ := bx_all MV.out.arg
    go_wp2
    clear cg fg lg ca la OX MX
    go_loopw [21] (fun i wr => ∃ (k m : Nat) (A' : Option Addr) (c' : Nat), k ≤ en ∧ i = .int .i64 k ∧ m ≤ k ∧ Hid (Own wr w.heap.size ⟨⟨oA, on, oc⟩, ⟨A', m, c'⟩, x1, y1⟩ ⟨NN, (G.E.take k).filter (fun d => d.2.1 != a && d.2.2 != a), G.x, G.y⟩ LL) ∧ Hid (Mid w wr (w.heap.size) (w.heap.size + 1) g #[.slice nA nn nc, .slice eA en ec, .int .i64 x, .int .i64 y] #[.slice none 0 0, .slice none 0 0, .int .i64 0, .int .i64 0] #[.slice oA on oc, .slice A' m c', .int .i64 x1, .int .i64 y1])) (fun i _ => en - (intOf i).toNat)
    case atStart => exact ⟨0, 0, none, 0, by omega, rfl, by omega, OV, MV⟩
    case round =>
      clear OV MV
      obtain ⟨k, m, A', c', hk, rfl, hm, OR, MR⟩ := hrel
      by_cases hlt : k < en
      · obtain ⟨b0, off, e0, hb0, d0, d1, d2⟩ := edge_at (SW.out.edges.below MR.out.bel (Nat.le_refl _)) hlt
        dsimp only at e0
        subst e0
        obtain ⟨z, hz⟩ : ∃ z, Hid ((G.E.getD k (0, 0, 0)).1 = z) := ⟨_, rfl⟩
        obtain ⟨f, hf⟩ : ∃ z, Hid ((G.E.getD k (0, 0, 0)).2.1 = z) := ⟨_, rfl⟩
        obtain ⟨t, ht⟩ : ∃ z, Hid ((G.E.getD k (0, 0, 0)).2.2 = z) := ⟨_, rfl⟩
        rw [hz.out] at d0
        rw [hf.out] at d1
        rw [ht.out] at d2
        have HX0 : Hid (G.E.getD k (0, 0, 0) = (z, f, t)) := Prod.ext hz.out (Prod.ext hf.out ht.out)
        have HK : Hid (k < G.E.length) := by have := LE.out; show _ < _; omega
        clear hz hf ht
        obtain ⟨U, hU⟩ : ∃ U, Hid (wr.alloc (.cells #[.int .i64 z, .int .i64 f, .int .i64 t] 79) = U) := ⟨_, rfl⟩
        obtain ⟨gn, hgn⟩ : ∃ g, Hid (wr.heap.size = g) := ⟨_, rfl⟩
        have BU : Hid (Below wr.heap.size wr U) := by show Below _ _ _; rw [← hU.out]; exact (Below.refl _ _).alloc (Nat.le_refl _) _
        have HX : Hid (U.heap[gn]? = some (.cells #[.int .i64 z, .int .i64 f, .int .i64 t] 79 (0, 0))) := by show _ = _; rw [← hU.out, ← hgn.out]; exact heap_alloc_new _ _
        have OU := hide (OR.out.step BU.out)
        have MU := hide (MR.out.step BU.out)
        have RE : Hid (U.ownsRow w.heap.size 79 3 (.slice A' m c') m (ints (flat3 ((G.E.take k).filter (fun d => d.2.1 != a && d.2.2 != a))))) := OU.out.edg
        go_upto_region 8 with fail
        have hU' := hU.out
        have hg' := hgn.out
        rw [hU', hg']
        clear hU hgn hU' hg' d0 d1 d2 OR MR BU
        obtain ⟨m0, -, n0⟩ := bx_all HX.out
        obtain ⟨cg, fg, lg⟩ := bx_all MU.out.out
        by_cases e1 : f = a
        ·
          have t1 : (f != a) = false := by simpa using e1
          clear e1
          have HQ : (fun d : Ed => d.2.1 != a && d.2.2 != a) (z, f, t) = false := by show (f != a && t != a) = false; rw [t1]; rfl
          have ON := hide (OU.out.filt_no HK.out HX0.out HQ)
          clear cg fg lg m0 n0
          obtain ⟨m0, -, n0⟩ := bx_all HX.out
          go_wp2
          go_roundw
          case rel => exact ⟨k + 1, m, A', c', by omega, by go_num, by omega, ON.out, MU⟩
          case measure => simp [intOf]; omega
        · have t1 : (f != a) = true := by simpa using e1
          clear e1
          by_cases e2 : t = a
          ·
            have t2 : (t != a) = false := by simpa using e2
            clear e2
            have HQ : (fun d : Ed => d.2.1 != a && d.2.2 != a) (z, f, t) = false := by show (f != a && t != a) = false; rw [t1, t2]; rfl
            have ON := hide (OU.out.filt_no HK.out HX0.out HQ)
            clear cg fg lg m0 n0
            obtain ⟨m0, -, n0⟩ := bx_all HX.out
            go_wp2
            go_roundw
            case rel => exact ⟨k + 1, m, A', c', by omega, by go_num, by omega, ON.out, MU⟩
            case measure => simp [intOf]; omega
          ·
            have t2 : (t != a) = true := by simpa using e2
            clear e2
            have HQ : (fun d : Ed => d.2.1 != a && d.2.2 != a) (z, f, t) = true := by show (f != a && t != a) = true; rw [t1, t2]; rfl
            go_wp2_with (at_builtin; refine wpList_append_lies _ rfl _ _ 25 rfl w.heap.size 79 i0 (.agg #[.int .i64 0, .int .i64 0, .int .i64 0]) 3 24 Tryz.underlying25 H1.out H2.out H3.out H4.out rfl (by decide) (.slice A' m c') m _ rfl (RE.out.alloc _) ⟨U.heap.size, 0, none⟩ 1 1 [.int .i64 z, .int .i64 f, .int .i64 t] rfl rfl (cells_new _ _ _ _ (by simp)) (three_cells z f t) (by decide) (by simp only [maxLen]; omega) (by omega) (by have := MU.out.bel.size; simp; omega) _ rfl ?_; intro g1 q1 w2 hown hg hat hlt2; have MG := hide (MU.out.grow (o := .cells #[.int .i64 z, .int .i64 f, .int .i64 t] 79) RE.out hg (by decide)); have OG : Hid (Own w2 w.heap.size ⟨⟨oA, on, oc⟩, ⟨some ⟨g1, 0, none⟩, m + 1, q1⟩, x1, y1⟩ ⟨NN, (G.E.take k).filter (fun d => d.2.1 != a && d.2.2 != a) ++ [(z, f, t)], G.x, G.y⟩ LL) := Own.growE (d := (z, f, t)) (o := .cells #[.int .i64 z, .int .i64 f, .int .i64 t] 79) OU.out hown hg; have OF := OG.out.filt_yes HK.out HX0.out HQ; obtain ⟨c9, f9, l9⟩ := bx_all MG.out.out; clear hown hg hat cg fg lg m0 n0 OG)
            have MP : Hid (Mid w (w2.setCell ⟨g, 1, none⟩ (.slice (some ⟨g1, 0, none⟩) (m + 1) q1)) (w.heap.size) (w.heap.size + 1) g #[.slice nA nn nc, .slice (some ⟨b0, off, none⟩) en ec, .int .i64 x, .int .i64 y] #[.slice none 0 0, .slice none 0 0, .int .i64 0, .int .i64 0] #[.slice oA on oc, .slice (some ⟨g1, 0, none⟩) (m + 1) q1, .int .i64 x1, .int .i64 y1]) := MG.out.put NE1.out NE2.out NE3.out
            have OP := hide (OF.out.cell MG.out.out (by decide) (by decide) (by decide) 1 (.slice (some ⟨g1, 0, none⟩) (m + 1) q1))
            go_roundw
            case rel => exact ⟨k + 1, m + 1, some ⟨g1, 0, none⟩, q1, by omega, by go_num, by omega, OP, MP⟩
            case measure => simp [intOf]; omega
      · obtain rfl : en = k := by omega
        rw [List.take_of_length_le (show G.E.length ≤ en by have := LE.out; omega)] at OR
        subst hNN
        have HF := hide (fin4 OR.out MR.out.res MR.out.bel (by omega))
        obtain ⟨cr, fr, lr⟩ := bx_all MR.out.res
        obtain ⟨cg, fg, lg⟩ := bx_all MR.out.out
        go_wp2
        exact bodyPost_ret (row_two rfl _ _ (w.heap.size + 1) 27 _ (0, 0) _ rfl HF.out.1 Tryz.underlying27 rfl size27) rfl ⟨⟨⟨oA, on, oc⟩, ⟨A', m, c'⟩, x1, y1⟩, rfl, ⟨_, HF.out.2.1⟩, HF.out.2.2⟩

end Go.Proofs.YtiiadkjiofkonaaGreat
