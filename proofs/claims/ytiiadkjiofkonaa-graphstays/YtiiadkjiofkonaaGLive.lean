/- The chapter's example: it comes out. -/
import Derived.Test.YtiiadkjiofkonaaGFuse
import Derived.Test.YtiiadkjiofkonaaGAdd
import Derived.Test.YtiiadkjiofkonaaGLink
import Derived.Test.YtiiadkjiofkonaaGNear
import Derived.WalkKit
import Derived.Below
import Derived.Deep.QuietTactic
import Derived.BigQuiet
import Derived.Deep.DeepCutAuto
import Derived.Shelf.Abstract
namespace Go.Proofs.Ytiiadkjiofkonaa
open Go.RowKit
set_option linter.unusedVariables false

theorem size23 : (Try.prog.info? 23).map (·.size) = some 5 := by kernel_rfl
theorem plain_any (w : World) : Calls Try.prog 48 #[] w (Drew (.agg #[.int .i64 4, .int .i64 4, .int .i64 4, .int .i64 4, .int .i64 4]) w) := by
  go_enter Try.func48, Try.ntmps48
  go_wp2
  exact bodyPost_ret (results_cell_row rfl _ _ w.heap.size 23 _ (0, 0) _ rfl (heap_alloc_new w _) Try.underlying23 rfl size23) rfl ⟨rfl, (Below.refl _ _).alloc (Nat.le_refl _) _⟩
def newG : GL := ⟨[], [], 1, 1⟩
def newV : Gv := ⟨noSl, noSl, 1, 1⟩
theorem Own.newG (u : World) (B : Nat) : Own u B newV newG [] := ⟨World.ownsRow_nil _ _ _ _, rfl, (fun i hi => by cases hi), (fun i hi => by cases hi), World.ownsRow_nil _ _ _ _, rfl, rfl⟩

theorem new_any (w : World) : Calls Try.prog 16 #[] w (Drew newV.val w) := by
  go_enter Try.func16, Try.ntmps16
  go_wp2
  exact bodyPost_ret (results_cell_row rfl _ _ w.heap.size 27 _ (0, 0) _ rfl (heap_alloc_new w _) Try.underlying27 rfl size27) rfl ⟨rfl, (Below.refl _ _).alloc (Nat.le_refl _) _⟩

theorem rnew_any (w : World) : Calls Try.prog 17 #[] w (Drew newV.val w) := by
  go_enter Try.func17, Try.ntmps17
  go_wp2
  exact bodyPost_ret (results_cell_row rfl _ _ w.heap.size 27 _ (0, 0) _ rfl (heap_alloc_new w _) Try.underlying27 rfl size27) rfl ⟨rfl, (Below.refl _ _).alloc (Nat.le_refl _) _⟩

def g1 : GL := ⟨[(1, [])], [], 2, 1⟩
def g2 : GL := ⟨[(1, []), (2, [])], [], 3, 1⟩
def g3 : GL := ⟨[(1, []), (2, [])], [(1, 1, 2)], 3, 2⟩
def g4 : GL := ⟨[(1, [])], [(1, 1, 1)], 3, 2⟩
theorem small0 : Small newG := ⟨by decide, by decide, (fun j hj => by cases hj), by decide, by decide⟩
theorem small1 : Small g1 := ⟨by decide, by decide, (fun j hj => by match j, hj with | 0, _ => exact by decide), by decide, by decide⟩
theorem small2 : Small g2 := ⟨by decide, by decide, (fun j hj => by match j, hj with | 0, _ => exact by decide | 1, _ => exact by decide), by decide, by decide⟩
theorem small3 : Small g3 := ⟨by decide, by decide, (fun j hj => by match j, hj with | 0, _ => exact by decide | 1, _ => exact by decide), by decide, by decide⟩
theorem small4 : Small g4 := ⟨by decide, by decide, (fun j hj => by match j, hj with | 0, _ => exact by decide), by decide, by decide⟩
theorem add0 : addR 4 newG = (1, 0, g1) := by unfold addR; rw [if_neg (by decide)]; rfl
theorem add1 : addR 4 g1 = (2, 0, g2) := by unfold addR; rw [if_neg (by decide)]; rfl
theorem link2 : linkR 4 g2 1 2 = (1, 0, g3) := linkR_ok (by decide) (by decide) (by decide)
theorem fuse3 : fuseR g3 1 2 [] = (0, g4) := fuseR_ok (by decide) (by decide) (by decide)
theorem fuse3l (l : List Pr) (h : l.Perm (prsAt g3 (posN g3 1) ++ missing (prsAt g3 (posN g3 1)) (prsAt g3 (posN g3 2)))) : l = [] := by
  have e : prsAt g3 (posN g3 1) ++ missing (prsAt g3 (posN g3 1)) (prsAt g3 (posN g3 2)) = [] := by decide
  rw [e] at h
  exact h.eq_nil
theorem near4 : nearR g4 1 = (0, [(1, 1)], [(1, 1)]) := by rw [nearR_ok (by decide)]; rfl

/-- What such a call leaves: the box as it was, and the graph that is told. -/
theorem live_step {w X ua u : World} {g : Nat} {a b c d : Value} {v : Gv} {R : GL} (Hg : X.heap[g]? = some (.cells #[a, b, c, d] 27 (0, 0))) (BW : Below w.heap.size w X) (hB : Below X.heap.size X ua) (hm : Mine ua u v R) (hu : Below ua.heap.size ua u) :
    Hid (Below X.heap.size X u) ∧ Hid (Mine w u v R) ∧ Hid (u.heap[g]? = some (.cells #[a, b, c, d] 27 (0, 0))) ∧ u.cell? ⟨g, 0, none⟩ = some a ∧ u.cell? ⟨g, 1, none⟩ = some b ∧ u.cell? ⟨g, 2, none⟩ = some c ∧ u.cell? ⟨g, 3, none⟩ = some d ∧ u.frozen? ⟨g, 0, none⟩ = false ∧ u.frozen? ⟨g, 1, none⟩ = false ∧ u.frozen? ⟨g, 2, none⟩ = false ∧ u.frozen? ⟨g, 3, none⟩ = false := by
  have h1 := bx_step (bx_step Hg hB) hu
  obtain ⟨c0, f0, -⟩ := bx_all h1
  obtain ⟨L, o⟩ := hm
  exact ⟨hB.trans (hu.mono hB.size), ⟨L, o.less (Nat.le_trans BW.size hB.size)⟩, h1, c0 0, c0 1, c0 2, c0 3, f0 0, f0 1, f0 2, f0 3⟩

/-- The box of the example's graph, and what it holds. -/
structure At (w u : World) (g : Nat) (v : Gv) (G : GL) : Prop where
  own : ∃ L, Own u w.heap.size v G L
  box : u.heap[g]? = some (.cells v.cs 27 (0, 0))
  bel : Below w.heap.size w u
  ge : w.heap.size ≤ g
theorem At.next {w X u : World} {g : Nat} {a b c d : Value} {v : Gv} {R : GL} (hg : w.heap.size ≤ g) (BW : Below w.heap.size w X) (BU : Below X.heap.size X u) (hm : Mine w u v R) (HU : u.heap[g]? = some (.cells #[a, b, c, d] 27 (0, 0))) : At w ((((u.setCell ⟨g, 0, none⟩ (.slice v.N.A v.N.n v.N.c)).setCell ⟨g, 1, none⟩ (.slice v.E.A v.E.n v.E.c)).setCell ⟨g, 2, none⟩ (.int .i64 v.x)).setCell ⟨g, 3, none⟩ (.int .i64 v.y)) g v R := by
  obtain ⟨L, o⟩ := hm
  have b := BW.trans (BU.mono BW.size)
  obtain ⟨f1, f2, f3⟩ := fin4 o HU b hg
  exact ⟨⟨L, f2⟩, f1, f3, hg⟩

set_option maxRecDepth 100000 in
set_option maxHeartbeats 8000000 in
theorem live_any (w : World) : Calls Try.prog 10 #[] w (Drew (.bool true) w) := by
  go_enter Try.func10, Try.ntmps10
  go_wp2_with fail
  refine (plain_any w).mono ?_
  rintro e u1 ⟨rfl, hb⟩
  have BW := hide hb
  clear hb
  go_wp2_with fail
  refine (new_any u1).mono ?_
  rintro e u2 ⟨rfl, hb⟩
  have BW := hide (BW.out.trans (hb.mono BW.out.size))
  clear hb
  go_wp2_with fail
  refine (add_any 4 4 4 4 4 newV newG g1 1 0 u2 (Own.newG u2 u2.heap.size).sees small0 add0).mono ?_
  rintro e u3 ⟨⟨⟨nA, nn, nc⟩, ⟨eA, en, ec⟩, x, y⟩, rfl, hm, hb⟩
  obtain ⟨L, O1⟩ := hm.out
  have OG := hide (O1.less BW.out.size)
  have BW := hide (BW.out.trans (hb.out.mono BW.out.size))
  clear hm O1 hb
  obtain ⟨X, hX⟩ : ∃ X, Hid (u3.alloc (.cells #[.slice nA nn nc, .slice eA en ec, .int .i64 x, .int .i64 y] 27) = X) := ⟨_, rfl⟩
  obtain ⟨gb, hg⟩ : ∃ g, Hid (u3.heap.size = g) := ⟨_, rfl⟩
  have BXX : Hid (Below u3.heap.size u3 X) := by show Below _ _ _; rw [← hX.out]; exact (Below.refl _ _).alloc (Nat.le_refl _) _
  have Hg : Hid (X.heap[gb]? = some (.cells #[.slice nA nn nc, .slice eA en ec, .int .i64 x, .int .i64 y] 27 (0, 0))) := by show _ = _; rw [← hX.out, ← hg.out]; exact heap_alloc_new _ _
  have OG := hide (OG.out.step BXX.out)
  have hgb : w.heap.size ≤ gb := by rw [← hg.out]; exact BW.out.size
  have BW := hide (BW.out.trans (BXX.out.mono BW.out.size))
  go_upto_region 2 with fail
  have hX' := hX.out
  have hg' := hg.out
  rw [hX', hg']
  clear hX hg hX' hg' BXX
  go_cut [4, 5] (fun p q wx => p = .int .i64 2 ∧ q = .int .i64 0 ∧ ∃ v', Hid (At w wx gb v' g2))
  case first =>
    have C : Hid (∀ u, Below X.heap.size X u → Calls Try.prog 20 #[.agg #[.int .i64 4, .int .i64 4, .int .i64 4, .int .i64 4, .int .i64 4], .agg #[.slice nA nn nc, .slice eA en ec, .int .i64 x, .int .i64 y]] u fun e w' => ∃ v', e = .returned (.tuple #[Gv.val v', .int .i64 2, .int .i64 0]) ∧ Hid (Mine u w' v' g2) ∧ Hid (Below u.heap.size u w')) := fun u h => add_any 4 4 4 4 4 ⟨⟨nA, nn, nc⟩, ⟨eA, en, ec⟩, x, y⟩ g1 g2 2 0 u (OG.out.step h).sees small1 add1
    obtain ⟨cg, fg, lg⟩ := bx_all Hg.out
    go_region_with (first | (go_at_call 48; refine (plain_any _).mono ?_; rintro r' u4p ⟨rfl, hu1⟩; have BP : Hid (Below X.heap.size X u4p) := ⟨hu1.os, hu1.tape, hu1.output, hu1.size, hu1.block⟩; obtain ⟨q0, q1, q2⟩ := bx_all (bx_step Hg.out BP.out); clear hu1) | (go_at_call 20; refine (C.out _ BP.out).mono ?_; rintro r' u4 ⟨⟨⟨pA, pn, pc⟩, ⟨pA', pn', pc'⟩, px, py⟩, rfl, hm, hu2⟩; have LD := hide (live_step Hg.out BW.out BP.out hm.out hu2.out); obtain ⟨BU, OO, HU, y0, y1, y2, y3, f0, f1, f2, f3⟩ := LD.out; clear hm hu2))
    all_goals (have HN := hide (At.next hgb BW.out BU.out OO.out HU.out); clear LD BU OO HU y0 y1 y2 y3 f0 f1 f2 f3; go_wp2_with fail; go_meet; exact ⟨rfl, rfl, _, HN⟩)
  case rest =>
    obtain ⟨rfl, rfl, ⟨⟨pA, pn, pc⟩, ⟨pA', pn', pc'⟩, px, py⟩, HA⟩ := hcut
    clear Hg OG BW
    have Hg := hide HA.out.box
    have BW := hide HA.out.bel
    obtain ⟨L2, o2⟩ := HA.out.own
    have OG := hide o2
    clear o2 HA
    go_upto_region 3 with fail
    go_cut [6, 7] (fun p q wx => p = .int .i64 1 ∧ q = .int .i64 0 ∧ ∃ v', Hid (At w wx gb v' g3))
    case first =>
      have C : Hid (∀ u, Below wc.heap.size wc u → Calls Try.prog 22 #[.agg #[.int .i64 4, .int .i64 4, .int .i64 4, .int .i64 4, .int .i64 4], .agg #[.slice pA pn pc, .slice pA' pn' pc', .int .i64 px, .int .i64 py], .int .i64 1, .int .i64 2] u fun e w' => ∃ v', e = .returned (.tuple #[Gv.val v', .int .i64 1, .int .i64 0]) ∧ Hid (Mine u w' v' g3) ∧ Hid (Below u.heap.size u w')) := fun u h => link_any 4 4 4 4 4 ⟨⟨pA, pn, pc⟩, ⟨pA', pn', pc'⟩, px, py⟩ g2 g3 1 2 1 0 u (OG.out.step h).sees small2 link2
      obtain ⟨cg, fg, lg⟩ := bx_all Hg.out
      go_region_with (first | (go_at_call 48; refine (plain_any _).mono ?_; rintro r' u5p ⟨rfl, hu1⟩; have BP : Hid (Below wc.heap.size wc u5p) := ⟨hu1.os, hu1.tape, hu1.output, hu1.size, hu1.block⟩; obtain ⟨q0, q1, q2⟩ := bx_all (bx_step Hg.out BP.out); clear hu1) | (go_at_call 22; refine (C.out _ BP.out).mono ?_; rintro r' u5 ⟨⟨⟨qA, qn, qc⟩, ⟨qA', qn', qc'⟩, qx, qy⟩, rfl, hm, hu2⟩; have LD := hide (live_step Hg.out BW.out BP.out hm.out hu2.out); obtain ⟨BU, OO, HU, y0, y1, y2, y3, f0, f1, f2, f3⟩ := LD.out; clear hm hu2))
      all_goals (have HN := hide (At.next hgb BW.out BU.out OO.out HU.out); clear LD BU OO HU y0 y1 y2 y3 f0 f1 f2 f3; go_wp2_with fail; go_meet; exact ⟨rfl, rfl, _, HN⟩)
    case rest =>
      obtain ⟨rfl, rfl, ⟨⟨qA, qn, qc⟩, ⟨qA', qn', qc'⟩, qx, qy⟩, HA⟩ := hcut
      clear Hg OG BW
      have Hg := hide HA.out.box
      have BW := hide HA.out.bel
      obtain ⟨L3, o3⟩ := HA.out.own
      have OG := hide o3
      clear o3 HA
      obtain ⟨cg, fg, lg⟩ := bx_all Hg.out
      go_wp2_with fail
      refine (fuse_any ⟨⟨qA, qn, qc⟩, ⟨qA', qn', qc'⟩, qx, qy⟩ g3 g4 1 2 0 [] wc OG.out.sees small3 (fun l hp _ => fuse3l l hp) fuse3).mono ?_
      rintro e u6 ⟨⟨⟨rA, rn, rc⟩, ⟨rA', rn', rc'⟩, rx, ry⟩, rfl, hm, hu⟩
      have LD := hide (live_step Hg.out BW.out (Below.refl _ _) hm.out hu.out)
      obtain ⟨BU, OO, HU, y0, y1, y2, y3, f0, f1, f2, f3⟩ := LD.out
      have HN := hide (At.next hgb BW.out BU.out OO.out HU.out)
      obtain ⟨V, hV⟩ : ∃ V, Hid ((((u6.setCell ⟨gb, 0, none⟩ (.slice rA rn rc)).setCell ⟨gb, 1, none⟩ (.slice rA' rn' rc')).setCell ⟨gb, 2, none⟩ (.int .i64 rx)).setCell ⟨gb, 3, none⟩ (.int .i64 ry) = V) := ⟨_, rfl⟩
      have HV : Hid (At w V gb ⟨⟨rA, rn, rc⟩, ⟨rA', rn', rc'⟩, rx, ry⟩ g4) := by show At _ _ _ _ _; rw [← hV.out]; exact HN.out
      obtain ⟨cV, fV, lV⟩ := bx_all HV.out.box
      have cW : ∀ i, ((((u6.setCell ⟨gb, 0, none⟩ (.slice rA rn rc)).setCell ⟨gb, 1, none⟩ (.slice rA' rn' rc')).setCell ⟨gb, 2, none⟩ (.int .i64 rx)).setCell ⟨gb, 3, none⟩ (.int .i64 ry)).cell? ⟨gb, i, none⟩ = (#[.slice rA rn rc, .slice rA' rn' rc', .int .i64 rx, .int .i64 ry] : Array Value)[i]? := fun i => by rw [hV.out]; exact cV i
      clear cg fg lg cV fV lV hm hu LD BU OO HU HN Hg OG BW
      go_wp2_with fail
      have hV' := hV.out
      rw [hV']
      clear hV hV' cW y0 y1 y2 y3 f0 f1 f2 f3
      have Hg := hide HV.out.box
      have BW := hide HV.out.bel
      obtain ⟨L4, o4⟩ := HV.out.own
      have OG := hide o4
      clear o4 HV
      refine (near_any ⟨⟨rA, rn, rc⟩, ⟨rA', rn', rc'⟩, rx, ry⟩ g4 [(1, 1)] [(1, 1)] 1 0 V OG.out.sees small4 near4).mono ?_
      rintro e u7 ⟨⟨sA, sn, sc⟩, ⟨tA, tn, tc⟩, rfl, hs, ht, hu⟩
      have n1 : rn = 1 := OG.out.many
      have n2 : sn = 1 := by have := pairs_len (own_nums hs.out); exact this
      have n3 : tn = 1 := by have := pairs_len (own_nums ht.out); exact this
      subst n1 n2 n3
      obtain ⟨b1, o1, e1, h1, d0, d1⟩ := pair_at (own_nums hs.out) (k := 0) Nat.zero_lt_one
      obtain ⟨b2, o2, e2, h2, p0, p1⟩ := pair_at (own_nums ht.out) (k := 0) Nat.zero_lt_one
      subst e1 e2
      have i1 : u7.cell? ⟨b1, o1 + 1, none⟩ = some (.int .i64 1) := by simpa using d1
      have i2 : u7.cell? ⟨b2, o2 + 1, none⟩ = some (.int .i64 1) := by simpa using p1
      obtain ⟨cg, fg, lg⟩ := bx_all (bx_step Hg.out hu.out)
      have BW := hide (BW.out.trans (hu.out.mono BW.out.size))
      clear hs ht hu d0 d1 p0 p1 OG Hg
      go_wp2
      go_ret
      exact ⟨rfl, BW.out⟩

end Go.Proofs.Ytiiadkjiofkonaa
