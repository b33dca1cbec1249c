/- Copies of lists, and what becomes of each of a list. -/
import Derived.Test.YtiiadkjiofkonaaGreatGClos
import Derived.WalkKit
import Derived.Below
import Derived.Deep.QuietTactic
import Derived.BigQuiet
import Derived.Lib.Walk
import Derived.Lib.SliceRun
import Derived.Shelf.Abstract
namespace Go.Proofs.YtiiadkjiofkonaaGreat
open Go.RowKit
set_option linter.unusedVariables false

theorem info78 : (Tryz.prog.info? 85).map (fun i => (i.zero, i.size, i.bytes)) = some (some (.agg #[.int .i64 0, .int .i64 0]), 2, 16) := by kernel_rfl

set_option maxRecDepth 100000 in
set_option maxHeartbeats 2000000 in
theorem cloneP_any (A : Option Addr) (n c : Nat) (L : List Pr) (w : World) (hN : Nums w w.heap.size 2 A n (flat2 L)) (hA : A = none → c = 0) (hn : n ≤ 1000) :
    Calls Tryz.prog 75 #[.slice A n c] w (Told w 83 2 (flat2 L)) := by
  obtain ⟨i0, hi0, hz0, hz1, hz2⟩ := info_parts info54
  have H1 := hide hi0
  have H2 := hide hz0
  have H3 := hide hz1
  have H4 := hide hz2
  clear hi0 hz0 hz1 hz2
  have HN := hide hN
  clear hN
  have q0 : ∀ (w : World) (a : Option Addr) (n c n' c' : Nat), (binOp .eql 34 (.slice a n c) (.slice none n' c')).run Tryz.prog w = .ok (.bool a.isNone) w := fun w a n c n' c' => Lib.run_eql_slice_nil w _ _ a n c n' c' Tryz.underlying34
  rcases A with _ | ad
  · obtain rfl := nums_nil HN.out rfl
    obtain rfl := hA rfl
    have h0 : flat2 L = [] := by have := HN.out.1; simpa using this
    go_enter Tryz.func75, Tryz.ntmps75
    go_wp2
    go_ret
    refine ⟨none, 0, 0, rfl, fun _ => rfl, ?_, Below.refl _ _⟩
    exact World.ownsRow_nil _ _ _ _
  · have HC := hide HN.out.cells
    go_enter Tryz.func75, Tryz.ntmps75
    go_wp2_with (at_builtin; refine wpList_append_own _ rfl _ _ 34 rfl w.heap.size 83 i0 (.agg #[.int .i64 0, .int .i64 0]) 2 16 Tryz.underlying34 H1.out H2.out H3.out H4.out rfl (by decide) _ _ _ rfl (World.ownsRow_made w #[] 0 (Nat.le_refl _) (Nat.zero_le _) (by simp)) ad n c (ints (flat2 L)) rfl (by simpa using HN.out.1) (fun j u hj => Lib.cell?_alloc_some _ (HC.out j u hj)) (ints_oneCell _ _) (by simp only [maxLen]; omega) (by omega) (by simp) ?_)
    intro v' w1 hown hgrow _
    have HB := hide (((Below.refl _ w).alloc (Nat.le_refl _) _).grown hgrow (by simp) (by intro k hk; simp [Value.ownBlock] at hk; omega))
    obtain ⟨A2, c2, rfl, hA2⟩ := own_form hown
    have HO := hide hown
    clear hown hgrow
    go_wp2
    go_ret
    exact ⟨A2, _, c2, rfl, hA2, by simpa using HO.out, HB.out⟩

set_option maxRecDepth 100000 in
set_option maxHeartbeats 2000000 in
theorem cloneE_any (A : Option Addr) (n c : Nat) (L : List Ed) (w : World) (hN : Nums w w.heap.size 3 A n (flat3 L)) (hA : A = none → c = 0) (hn : n ≤ 1000) :
    Calls Tryz.prog 73 #[.slice A n c] w (Told w 79 3 (flat3 L)) := by
  obtain ⟨i0, hi0, hz0, hz1, hz2⟩ := info_parts info80
  have H1 := hide hi0
  have H2 := hide hz0
  have H3 := hide hz1
  have H4 := hide hz2
  clear hi0 hz0 hz1 hz2
  have HN := hide hN
  clear hN
  have q0 : ∀ (w : World) (a : Option Addr) (n c n' c' : Nat), (binOp .eql 25 (.slice a n c) (.slice none n' c')).run Tryz.prog w = .ok (.bool a.isNone) w := fun w a n c n' c' => Lib.run_eql_slice_nil w _ _ a n c n' c' Tryz.underlying25
  rcases A with _ | ad
  · obtain rfl := nums_nil HN.out rfl
    obtain rfl := hA rfl
    have h0 : flat3 L = [] := by have := HN.out.1; simpa using this
    go_enter Tryz.func73, Tryz.ntmps73
    go_wp2
    go_ret
    refine ⟨none, 0, 0, rfl, fun _ => rfl, ?_, Below.refl _ _⟩
    exact World.ownsRow_nil _ _ _ _
  · have HC := hide HN.out.cells
    go_enter Tryz.func73, Tryz.ntmps73
    go_wp2_with (at_builtin; refine wpList_append_own _ rfl _ _ 25 rfl w.heap.size 79 i0 (.agg #[.int .i64 0, .int .i64 0, .int .i64 0]) 3 24 Tryz.underlying25 H1.out H2.out H3.out H4.out rfl (by decide) _ _ _ rfl (World.ownsRow_made w #[] 0 (Nat.le_refl _) (Nat.zero_le _) (by simp)) ad n c (ints (flat3 L)) rfl (by simpa using HN.out.1) (fun j u hj => Lib.cell?_alloc_some _ (HC.out j u hj)) (ints_oneCell _ _) (by simp only [maxLen]; omega) (by omega) (by simp) ?_)
    intro v' w1 hown hgrow _
    have HB := hide (((Below.refl _ w).alloc (Nat.le_refl _) _).grown hgrow (by simp) (by intro k hk; simp [Value.ownBlock] at hk; omega))
    obtain ⟨A2, c2, rfl, hA2⟩ := own_form hown
    have HO := hide hown
    clear hown hgrow
    go_wp2
    go_ret
    exact ⟨A2, _, c2, rfl, hA2, by simpa using HO.out, HB.out⟩

set_option maxRecDepth 100000 in
set_option maxHeartbeats 2000000 in
theorem eachEnd_any (g : Nat) (h : Ed → Pr) (A : Option Addr) (n c : Nat) (L : List Ed) (w : World) (hN : Nums w w.heap.size 3 A n (flat3 L)) (hn : n ≤ 1000)
    (eg : ∀ args w, (callFunc g args).run Tryz.prog w = .ok (.enter g args) w) (hp : Hid (∀ u a b d p q, Below w.heap.size w u → Hid (h (a, b, d) = (p, q)) → Calls Tryz.prog g #[.agg #[.int .i64 a, .int .i64 b, .int .i64 d]] u (Drew (.agg #[.int .i64 p, .int .i64 q]) u))) :
    Calls Tryz.prog 95 #[.slice A n c, .func (.func g) #[] #[]] w (Told w 85 2 (flat2 (L.map h))) := by
  obtain ⟨i0, hi0, hz0, hz1, hz2⟩ := info_parts info78
  have H1 := hide hi0
  have H2 := hide hz0
  have H3 := hide hz1
  have H4 := hide hz2
  clear hi0 hz0 hz1 hz2
  have HN := hide hN
  have HL := hide (edges_len hN)
  clear hN
  have HBY : Hid (i0.bytes * n ≤ 281474976710656) := by rw [H4.out]; show _ ≤ _; omega
  go_enter Tryz.func95, Tryz.ntmps95
  go_wp2_with (at_make; refine wpList_make_own _ rfl _ _ 35 rfl w.heap.size 85 i0 (.agg #[.int .i64 0, .int .i64 0]) 2 Tryz.underlying35 H1.out H2.out H3.out _ _ _ n rfl rfl rfl HBY.out (by unfold maxLen; omega) (Nat.le_refl _) ?_; intro w1 hrow1 hg1)
  have HB1 := hide ((Below.refl _ _).grown hg1 (Nat.le_refl _) (by simp))
  have HR1 := hide hrow1
  clear hrow1 hg1
  go_wp2
  go_loopw [5, 13] (fun l i wr => ∃ (k : Nat) (A' : Option Addr) (c' : Nat), k ≤ n ∧ i = .int .i64 k ∧ l = .slice A' k c' ∧ Hid (A' = none → c' = 0) ∧ Hid (wr.ownsRow w.heap.size 85 2 (.slice A' k c') k (ints (flat2 ((L.take k).map h)))) ∧ Hid (Below w.heap.size w wr))
    (fun _ i _ => n - (intOf i).toNat)
  case atStart => exact ⟨0, _, _, by omega, rfl, rfl, (fun h => by cases h), HR1, HB1⟩
  case round =>
    obtain ⟨k, A', c', hk, rfl, rfl, HA, HR, HB⟩ := hrel
    by_cases hlt : k < n
    · obtain ⟨b0, off, e0, hb0, c0, c1, c2⟩ := edge_at (HN.out.below HB.out (Nat.le_refl _)) hlt
      subst e0
      obtain ⟨a, ha⟩ : ∃ a, Hid ((L.getD k (0, 0, 0)).1 = a) := ⟨_, rfl⟩
      obtain ⟨b, hb⟩ : ∃ b, Hid ((L.getD k (0, 0, 0)).2.1 = b) := ⟨_, rfl⟩
      obtain ⟨d, hd⟩ : ∃ d, Hid ((L.getD k (0, 0, 0)).2.2 = d) := ⟨_, rfl⟩
      rw [ha.out] at c0
      rw [hb.out] at c1
      rw [hd.out] at c2
      have HX : Hid (L.getD k (0, 0, 0) = (a, b, d)) := Prod.ext ha.out (Prod.ext hb.out hd.out)
      have HK : Hid (k < L.length) := by have := HL.out; show _ < _; omega
      clear ha hb hd
      obtain ⟨p, q, HQ⟩ : ∃ p q, Hid (h (a, b, d) = (p, q)) := ⟨(h (a, b, d)).1, (h (a, b, d)).2, rfl⟩
      have BB := hide (HB.out.alloc HB.out.size (.cells #[.int .i64 a, .int .i64 b, .int .i64 d] 79))
      go_wp2_with fail
      refine (hp.out _ a b d p q BB.out HQ).mono ?_
      rintro e u1 ⟨rfl, hu1⟩
      obtain ⟨HR1, HB1⟩ := round_call HR.out HB.out hu1
      clear hu1 c0 c1 c2
      go_wp2_with (at_builtin; refine wpList_append_own _ rfl _ _ 35 rfl w.heap.size 85 i0 (.agg #[.int .i64 0, .int .i64 0]) 2 16 Tryz.underlying35 H1.out H2.out H3.out H4.out rfl (by decide) _ k _ rfl (HR1.out.alloc _) ⟨u1.heap.size, 0, none⟩ 1 1 [.int .i64 p, .int .i64 q] rfl rfl (cells_new _ _ _ _ rfl) (two_cells p q) (by simp only [maxLen]; omega) (by omega) (by have := HB1.out.size; simp; omega) ?_; intro v' w2 hown hg _; obtain ⟨A2, c2, rfl, HA2, HR2, HB2⟩ := round_append HR1.out HB1.out hown hg; clear hown hg)
      go_roundw
      case rel => exact ⟨k + 1, A2, c2, by omega, by go_num, rfl, HA2, map_more (ys := [p, q]) flat2_append HK.out HX.out (by rw [HQ.out]; rfl) rfl HR2.out, HB2⟩
      case measure => simp [intOf]; omega
    · obtain rfl : k = n := by omega
      go_wp2
      go_ret
      refine ⟨A', k, c', rfl, HA.out, ?_, HB.out⟩
      have := HR.out
      rwa [List.take_of_length_le (by have := HL.out; omega)] at this

set_option maxRecDepth 100000 in
set_option maxHeartbeats 2000000 in
theorem eachE_any (g B0 : Nat) (h : Ed → Ed) (A : Option Addr) (n c : Nat) (L : List Ed) (w : World) (hN : Nums w w.heap.size 3 A n (flat3 L)) (hn : n ≤ 1000)
    (eg : ∀ args w, (callFunc g args).run Tryz.prog w = .ok (.enter g args) w) (hp : Hid (∀ u a b d p q r, Below w.heap.size w u → Hid (h (a, b, d) = (p, q, r)) → Calls Tryz.prog g #[.agg #[.int .i64 a, .int .i64 b, .int .i64 d], .pointer (some ⟨B0, 0, none⟩)] u (Drew (.agg #[.int .i64 p, .int .i64 q, .int .i64 r]) u))) :
    Calls Tryz.prog 115 #[.slice A n c, .func (.func g) #[] #[.pointer (some ⟨B0, 0, none⟩)]] w (Told w 79 3 (flat3 (L.map h))) := by
  obtain ⟨i0, hi0, hz0, hz1, hz2⟩ := info_parts info80
  have H1 := hide hi0
  have H2 := hide hz0
  have H3 := hide hz1
  have H4 := hide hz2
  clear hi0 hz0 hz1 hz2
  have HN := hide hN
  have HL := hide (edges_len hN)
  clear hN
  have HBY : Hid (i0.bytes * n ≤ 281474976710656) := by rw [H4.out]; show _ ≤ _; omega
  go_enter Tryz.func115, Tryz.ntmps115
  go_wp2_with (at_make; refine wpList_make_own _ rfl _ _ 25 rfl w.heap.size 79 i0 (.agg #[.int .i64 0, .int .i64 0, .int .i64 0]) 3 Tryz.underlying25 H1.out H2.out H3.out _ _ _ n rfl rfl rfl HBY.out (by unfold maxLen; omega) (Nat.le_refl _) ?_; intro w1 hrow1 hg1)
  have HB1 := hide ((Below.refl _ _).grown hg1 (Nat.le_refl _) (by simp))
  have HR1 := hide hrow1
  clear hrow1 hg1
  go_wp2
  go_loopw [5, 13] (fun l i wr => ∃ (k : Nat) (A' : Option Addr) (c' : Nat), k ≤ n ∧ i = .int .i64 k ∧ l = .slice A' k c' ∧ Hid (A' = none → c' = 0) ∧ Hid (wr.ownsRow w.heap.size 79 3 (.slice A' k c') k (ints (flat3 ((L.take k).map h)))) ∧ Hid (Below w.heap.size w wr))
    (fun _ i _ => n - (intOf i).toNat)
  case atStart => exact ⟨0, _, _, by omega, rfl, rfl, (fun h => by cases h), HR1, HB1⟩
  case round =>
    obtain ⟨k, A', c', hk, rfl, rfl, HA, HR, HB⟩ := hrel
    by_cases hlt : k < n
    · obtain ⟨b0, off, e0, hb0, c0, c1, c2⟩ := edge_at (HN.out.below HB.out (Nat.le_refl _)) hlt
      subst e0
      obtain ⟨a, ha⟩ : ∃ a, Hid ((L.getD k (0, 0, 0)).1 = a) := ⟨_, rfl⟩
      obtain ⟨b, hb⟩ : ∃ b, Hid ((L.getD k (0, 0, 0)).2.1 = b) := ⟨_, rfl⟩
      obtain ⟨d, hd⟩ : ∃ d, Hid ((L.getD k (0, 0, 0)).2.2 = d) := ⟨_, rfl⟩
      rw [ha.out] at c0
      rw [hb.out] at c1
      rw [hd.out] at c2
      have HX : Hid (L.getD k (0, 0, 0) = (a, b, d)) := Prod.ext ha.out (Prod.ext hb.out hd.out)
      have HK : Hid (k < L.length) := by have := HL.out; show _ < _; omega
      clear ha hb hd
      obtain ⟨p, q, r, HQ⟩ : ∃ p q r, Hid (h (a, b, d) = (p, q, r)) := ⟨(h (a, b, d)).1, (h (a, b, d)).2.1, (h (a, b, d)).2.2, rfl⟩
      have BB := hide (HB.out.alloc HB.out.size (.cells #[.int .i64 a, .int .i64 b, .int .i64 d] 79))
      go_wp2_with fail
      refine (hp.out _ a b d p q r BB.out HQ).mono ?_
      rintro e u1 ⟨rfl, hu1⟩
      obtain ⟨HR1, HB1⟩ := round_call HR.out HB.out hu1
      clear hu1 c0 c1 c2
      go_wp2_with (at_builtin; refine wpList_append_own _ rfl _ _ 25 rfl w.heap.size 79 i0 (.agg #[.int .i64 0, .int .i64 0, .int .i64 0]) 3 24 Tryz.underlying25 H1.out H2.out H3.out H4.out rfl (by decide) _ k _ rfl (HR1.out.alloc _) ⟨u1.heap.size, 0, none⟩ 1 1 [.int .i64 p, .int .i64 q, .int .i64 r] rfl rfl (cells_new _ _ _ _ rfl) (three_cells p q r) (by simp only [maxLen]; omega) (by omega) (by have := HB1.out.size; simp; omega) ?_; intro v' w2 hown hg _; obtain ⟨A2, c2, rfl, HA2, HR2, HB2⟩ := round_append HR1.out HB1.out hown hg; clear hown hg)
      go_roundw
      case rel => exact ⟨k + 1, A2, c2, by omega, by go_num, rfl, HA2, map_more (ys := [p, q, r]) flat3_append HK.out HX.out (by rw [HQ.out]; rfl) rfl HR2.out, HB2⟩
      case measure => simp [intOf]; omega
    · obtain rfl : k = n := by omega
      go_wp2
      go_ret
      refine ⟨A', k, c', rfl, HA.out, ?_, HB.out⟩
      have := HR.out
      rwa [List.take_of_length_le (by have := HL.out; omega)] at this

end Go.Proofs.YtiiadkjiofkonaaGreat
