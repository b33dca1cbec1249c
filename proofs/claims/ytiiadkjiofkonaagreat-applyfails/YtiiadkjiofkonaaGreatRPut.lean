/- A property put among others, and a node's edges: the document's answer. -/
import Derived.Test.YtiiadkjiofkonaaGreatGNear
import Derived.Test.YtiiadkjiofkonaaGreatGJoin
import Derived.Test.YtiiadkjiofkonaaGreatGCopy
import Derived.WalkKit
import Derived.Below
import Derived.Deep.QuietTactic
import Derived.BigQuiet
import Derived.Deep.RegionHeld3
import Derived.Deep.DeepCutAuto
import Derived.Shelf.Abstract
namespace Go.Proofs.YtiiadkjiofkonaaGreat
open Go.RowKit
set_option linter.unusedVariables false

theorem put_mid {u : World} {B e s m : Nat} {v : Value} {L X0 F : List Pr} {ky vl : Int} (hx : F ++ [(ky, vl)] = X0) (h : u.ownsRow B e s v m (ints (flat2 F) ++ [.int .i64 ky, .int .i64 vl])) : Hid (u.ownsRow B e s v m (ints (flat2 (X0 ++ (L.take 0).filter fun p => decide (ky < p.1))))) := by
  show u.ownsRow _ _ _ _ _ _
  rw [← hx]
  have e1 : flat2 (F ++ [(ky, vl)] ++ (L.take 0).filter fun p => decide (ky < p.1)) = flat2 F ++ [ky, vl] := by
    rw [flat2_append, flat2_append]
    simp [flat2]
  rw [e1]
  simpa using h
theorem filt_no2 {u : World} {B e s m k : Nat} {v : Value} {l X0 : List Pr} {p : Pr → Bool} {x : Pr} (hk : k < l.length) (hx : l.getD k (0, 0) = x) (hq : p x = false) (h : u.ownsRow B e s v m (ints (flat2 (X0 ++ (l.take k).filter p)))) : Hid (u.ownsRow B e s v m (ints (flat2 (X0 ++ (l.take (k + 1)).filter p)))) := by
  show u.ownsRow _ _ _ _ _ _
  rw [getD_take (d := (0, 0)) hk, hx]
  simpa [hq] using h
theorem filt_yes2 {u : World} {B e s m k : Nat} {v : Value} {l X0 : List Pr} {p : Pr → Bool} {a b : Int} (hk : k < l.length) (hx : l.getD k (0, 0) = (a, b)) (hq : p (a, b) = true) (h : u.ownsRow B e s v m (ints (flat2 (X0 ++ (l.take k).filter p)) ++ [.int .i64 a, .int .i64 b])) : Hid (u.ownsRow B e s v m (ints (flat2 (X0 ++ (l.take (k + 1)).filter p)))) := by
  show u.ownsRow _ _ _ _ _ _
  rw [getD_take (d := (0, 0)) hk, hx]
  have e1 : flat2 (X0 ++ (l.take k ++ [(a, b)]).filter p) = flat2 (X0 ++ (l.take k).filter p) ++ [a, b] := by
    rw [List.filter_append, ← List.append_assoc, flat2_append]
    simp [hq, flat2]
  rw [e1]
  simpa using h
set_option maxRecDepth 100000 in
set_option maxHeartbeats 4000000 in
theorem rput_any (A : Option Addr) (n c : Nat) (L : List Pr) (ky vl : Int) (w : World) (hN : Nums w w.heap.size 2 A n (flat2 L)) (hn : n ≤ 1000) :
    Calls Tryz.prog 76 #[.slice A n c, .agg #[.int .i64 ky, .int .i64 vl]] w (Told w 83 2 (flat2 (putP L ky vl))) := by
  obtain ⟨i0, hi0, hz0, hz1, hz2⟩ := info_parts info54
  have H1 := hide hi0
  have H2 := hide hz0
  have H3 := hide hz1
  have H4 := hide hz2
  clear hi0 hz0 hz1 hz2
  have HN := hide hN
  have HL := hide (pairs_len hN)
  clear hN
  obtain ⟨W, hW⟩ : ∃ W, Hid (w.alloc (.cells #[.int .i64 ky, .int .i64 vl] 83) = W) := ⟨_, rfl⟩
  have BW : Hid (Below w.heap.size w W) := by show Below _ _ _; rw [← hW.out]; exact (Below.refl _ _).alloc (Nat.le_refl _) _
  have HWW : Hid (W.heap[w.heap.size]? = some (.cells #[.int .i64 ky, .int .i64 vl] 83 (0, 0))) := by show _ = _; rw [← hW.out]; exact heap_alloc_new w _
  have HN := hide ((HN.out.below BW.out (Nat.le_refl _)).more BW.out.size)
  go_enter Tryz.func76, Tryz.ntmps76
  go_upto_region 1 with fail
  have hW' := hW.out
  rw [hW']
  clear hW hW'
  go_wp2
  go_loopw [5, 12] (fun l i wr => ∃ (k m : Nat) (A' : Option Addr) (c' : Nat), k ≤ n ∧ i = .int .i64 k ∧ l = .slice A' m c' ∧ m ≤ 0 + k ∧ Hid (A' = none → c' = 0) ∧ Hid (wr.ownsRow W.heap.size 83 2 (.slice A' m c') m (ints (flat2 ((L.take k).filter fun p => decide (p.1 < ky))))) ∧ Hid (Below W.heap.size W wr))
    (fun _ i _ => n - (intOf i).toNat)
  case atStart => exact ⟨0, 0, none, 0, by omega, rfl, rfl, by omega, fun _ => rfl, World.ownsRow_nil _ _ _ _, Below.refl _ _⟩
  case round =>
    obtain ⟨k, m, A', c', hk, rfl, rfl, hm, HA, HR, HB⟩ := hrel
    have HW := hide (bx_step HWW.out HB.out)
    by_cases hlt : k < n
    · obtain ⟨b0, off, rfl, hb0, c0, c1⟩ := pair_at (HN.out.below HB.out (Nat.le_refl _)) hlt
      obtain ⟨a, ha⟩ : ∃ a, Hid ((L.getD k (0, 0)).1 = a) := ⟨_, rfl⟩
      obtain ⟨b, hb⟩ : ∃ b, Hid ((L.getD k (0, 0)).2 = b) := ⟨_, rfl⟩
      rw [ha.out] at c0
      rw [hb.out] at c1
      have HX : Hid (L.getD k (0, 0) = (a, b)) := Prod.ext ha.out hb.out
      have HK : Hid (k < L.length) := by have := HL.out; show _ < _; omega
      clear ha hb
      obtain ⟨U, hU⟩ : ∃ U, Hid (wr.alloc (.cells #[.int .i64 a, .int .i64 b] 83) = U) := ⟨_, rfl⟩
      obtain ⟨gn, hgn⟩ : ∃ g, Hid (wr.heap.size = g) := ⟨_, rfl⟩
      have BU : Hid (Below wr.heap.size wr U) := by show Below _ _ _; rw [← hU.out]; exact (Below.refl _ _).alloc (Nat.le_refl _) _
      have HNb : Hid (U.heap[gn]? = some (.cells #[.int .i64 a, .int .i64 b] 83 (0, 0))) := by show _ = _; rw [← hU.out, ← hgn.out]; exact heap_alloc_new _ _
      have HWU := hide (bx_step HW.out BU.out)
      have BB := hide (HB.out.trans (BU.out.mono HB.out.size))
      have RU := hide (own_below HR.out BU.out)
      obtain ⟨k0, -, l0⟩ := bx_all HW.out
      go_upto_region 5 with fail
      have hU' := hU.out
      have hg' := hgn.out
      rw [hU', hg']
      clear hU hgn hU' hg' k0 l0 c0 c1
      obtain ⟨k0, -, l0⟩ := bx_all HWU.out
      obtain ⟨m0, -, n0⟩ := bx_all HNb.out
      by_cases e : a < ky
      · have t1 : decide (a < ky) = true := by simpa using e
        have HQ : (fun p : Pr => decide (p.1 < ky)) (a, b) = true := t1
        go_wp2_with (at_builtin; refine wpList_append_own _ rfl _ _ 34 rfl W.heap.size 83 i0 (.agg #[.int .i64 0, .int .i64 0]) 2 16 Tryz.underlying34 H1.out H2.out H3.out H4.out rfl (by decide) _ (m) _ rfl (RU.out.alloc _) ⟨U.heap.size, 0, none⟩ 1 1 [.int .i64 a, .int .i64 b] rfl rfl (cells_new _ _ _ _ (by simp)) (two_cells a b) (by simp only [maxLen]; omega) (by omega) (by have := BB.out.size; simp; omega) ?_; intro v' w2 hown hg _; obtain ⟨A2, c2, rfl, HA2, HO2, HB2⟩ := round_append RU.out BB.out hown hg; have HR2 := hide (filt_yes flat2_append HK.out HX.out HQ rfl rfl HO2.out); clear hown hg HO2)
        go_roundw
        case rel => exact ⟨k + 1, m + 1, A2, c2, by omega, by go_num, rfl, by omega, HA2, HR2.out, HB2⟩
        case measure => simp [intOf]; omega
      · have t1 : decide (a < ky) = false := by simpa using e
        have HQ : (fun p : Pr => decide (p.1 < ky)) (a, b) = false := t1
        have HR2 := hide (filt_no HK.out HX.out HQ RU.out)
        go_wp2
        go_roundw
        case rel => exact ⟨k + 1, m, A', c', by omega, by go_num, rfl, by omega, HA, HR2.out, BB⟩
        case measure => simp [intOf]; omega
    · obtain rfl : n = k := by omega
      obtain ⟨X0, HX0⟩ : ∃ X, Hid ((L.filter fun p => decide (p.1 < ky)) ++ [(ky, vl)] = X) := ⟨_, rfl⟩
      have HR1 : Hid (wr.ownsRow W.heap.size 83 2 (.slice A' m c') m (ints (flat2 (L.filter fun p => decide (p.1 < ky))))) := by
        have := HR.out
        rwa [List.take_of_length_le (by have := HL.out; omega)] at this
      clear HR
      obtain ⟨k0, -, l0⟩ := bx_all HW.out
      have BB := HB
      go_wp2_with (at_builtin; refine wpList_append_own _ rfl _ _ 34 rfl W.heap.size 83 i0 (.agg #[.int .i64 0, .int .i64 0]) 2 16 Tryz.underlying34 H1.out H2.out H3.out H4.out rfl (by decide) _ (m) _ rfl (HR1.out.alloc _) ⟨wr.heap.size, 0, none⟩ 1 1 [.int .i64 ky, .int .i64 vl] rfl rfl (cells_new _ _ _ _ (by simp)) (two_cells ky vl) (by simp only [maxLen]; omega) (by omega) (by have := BB.out.size; simp; omega) ?_; intro v' w2 hown hg _; obtain ⟨A2, c2, rfl, HA2, HO2, HB2⟩ := round_append HR1.out HB.out hown hg; have HR2 : Hid (w2.ownsRow W.heap.size 83 2 (.slice A2 (m + 1) c2) (m + 1) (ints (flat2 (X0 ++ (L.take 0).filter fun p => decide (ky < p.1))))) := put_mid HX0.out HO2.out; clear hown hg HO2 BB HB HW HR1 k0 l0)
      go_loopw [5, 32] (fun l i wr => ∃ (k m : Nat) (A' : Option Addr) (c' : Nat), k ≤ n ∧ i = .int .i64 k ∧ l = .slice A' m c' ∧ m ≤ (n + 1) + k ∧ Hid (A' = none → c' = 0) ∧ Hid (wr.ownsRow W.heap.size 83 2 (.slice A' m c') m (ints (flat2 (X0 ++ (L.take k).filter fun p => decide (ky < p.1))))) ∧ Hid (Below W.heap.size W wr))
        (fun _ i _ => n - (intOf i).toNat)
      case atStart => exact ⟨0, m + 1, A2, c2, by omega, rfl, rfl, by omega, HA2, HR2, HB2⟩
      case round =>
        clear HB2 HR2
        obtain ⟨k, m, A', c', hk, rfl, rfl, hm, HA, HR, HB⟩ := hrel
        have HW := hide (bx_step HWW.out HB.out)
        by_cases hlt : k < n
        · obtain ⟨b0, off, rfl, hb0, c0, c1⟩ := pair_at (HN.out.below HB.out (Nat.le_refl _)) hlt
          obtain ⟨a, ha⟩ : ∃ a, Hid ((L.getD k (0, 0)).1 = a) := ⟨_, rfl⟩
          obtain ⟨b, hb⟩ : ∃ b, Hid ((L.getD k (0, 0)).2 = b) := ⟨_, rfl⟩
          rw [ha.out] at c0
          rw [hb.out] at c1
          have HX : Hid (L.getD k (0, 0) = (a, b)) := Prod.ext ha.out hb.out
          have HK : Hid (k < L.length) := by have := HL.out; show _ < _; omega
          clear ha hb
          obtain ⟨U, hU⟩ : ∃ U, Hid (wr.alloc (.cells #[.int .i64 a, .int .i64 b] 83) = U) := ⟨_, rfl⟩
          obtain ⟨gn, hgn⟩ : ∃ g, Hid (wr.heap.size = g) := ⟨_, rfl⟩
          have BU : Hid (Below wr.heap.size wr U) := by show Below _ _ _; rw [← hU.out]; exact (Below.refl _ _).alloc (Nat.le_refl _) _
          have HNb : Hid (U.heap[gn]? = some (.cells #[.int .i64 a, .int .i64 b] 83 (0, 0))) := by show _ = _; rw [← hU.out, ← hgn.out]; exact heap_alloc_new _ _
          have HWU := hide (bx_step HW.out BU.out)
          have BB := hide (HB.out.trans (BU.out.mono HB.out.size))
          have RU := hide (own_below HR.out BU.out)
          obtain ⟨k0, -, l0⟩ := bx_all HW.out
          go_upto_region 12 with fail
          have hU' := hU.out
          have hg' := hgn.out
          rw [hU', hg']
          clear hU hgn hU' hg' k0 l0 c0 c1
          obtain ⟨k0, -, l0⟩ := bx_all HWU.out
          obtain ⟨m0, -, n0⟩ := bx_all HNb.out
          by_cases e : ky < a
          · have t1 : decide (ky < a) = true := by simpa using e
            have HQ : (fun p : Pr => decide (ky < p.1)) (a, b) = true := t1
            go_wp2_with (at_builtin; refine wpList_append_own _ rfl _ _ 34 rfl W.heap.size 83 i0 (.agg #[.int .i64 0, .int .i64 0]) 2 16 Tryz.underlying34 H1.out H2.out H3.out H4.out rfl (by decide) _ (m) _ rfl (RU.out.alloc _) ⟨U.heap.size, 0, none⟩ 1 1 [.int .i64 a, .int .i64 b] rfl rfl (cells_new _ _ _ _ (by simp)) (two_cells a b) (by simp only [maxLen]; omega) (by omega) (by have := BB.out.size; simp; omega) ?_; intro v' w2 hown hg _; obtain ⟨A2, c2, rfl, HA2, HO2, HB2⟩ := round_append RU.out BB.out hown hg; have HR2 := hide (filt_yes2 HK.out HX.out HQ HO2.out); clear hown hg HO2)
            go_roundw
            case rel => exact ⟨k + 1, m + 1, A2, c2, by omega, by go_num, rfl, by omega, HA2, HR2.out, HB2⟩
            case measure => simp [intOf]; omega
          · have t1 : decide (ky < a) = false := by simpa using e
            have HQ : (fun p : Pr => decide (ky < p.1)) (a, b) = false := t1
            have HR2 := hide (filt_no2 HK.out HX.out HQ RU.out)
            go_wp2
            go_roundw
            case rel => exact ⟨k + 1, m, A', c', by omega, by go_num, rfl, by omega, HA, HR2.out, BB⟩
            case measure => simp [intOf]; omega
        · go_wp2
          go_ret
          refine ⟨A', _, c', rfl, HA.out, own_less ?_ BW.out.size, BW.out.trans (HB.out.mono BW.out.size)⟩
          have := HR.out
          rw [List.take_of_length_le (by have := HL.out; omega), ← HX0.out] at this
          exact this

end Go.Proofs.YtiiadkjiofkonaaGreat
