/- What stays of a list of edges, and of pairs. -/
import Derived.Test.YtiiadkjiofkonaaGreatAB9
import Derived.WalkKit
import Derived.Below
import Derived.Deep.QuietTactic
import Derived.BigQuiet
import Derived.Shelf.Abstract
namespace Go.Proofs.YtiiadkjiofkonaaGreat
open Go.RowKit
set_option linter.unusedVariables false

theorem pairs_len {w : World} {B : Nat} {A : Option Addr} {n : Nat} {L : List Pr} (p : Nums w B 2 A n (flat2 L)) : n = L.length := by have := p.1; rw [flat2_len] at this; omega
theorem pair_at {w : World} {B : Nat} {A : Option Addr} {n k : Nat} {L : List Pr} (p : Nums w B 2 A n (flat2 L)) (hk : k < n) : ∃ b off, A = some ⟨b, off, Option.none⟩ ∧ b < B ∧ w.cell? ⟨b, off + k * 2, Option.none⟩ = some (.int .i64 (L.getD k (0, 0)).1) ∧ w.cell? ⟨b, off + k * 2 + 1, Option.none⟩ = some (.int .i64 (L.getD k (0, 0)).2) := by
  have hl := pairs_len p
  obtain ⟨b, off, e, hlt, hc⟩ := p.2 (by omega)
  obtain ⟨e1, e2⟩ := flat2_at L k (by omega)
  exact ⟨b, off, e, hlt, by rw [hc _ (by omega), e1], by rw [Nat.add_assoc, hc _ (by omega), e2]⟩

set_option maxRecDepth 100000 in
set_option maxHeartbeats 2000000 in
theorem stayE_any (g B0 : Nat) (p : Ed → Bool) (A : Option Addr) (n c : Nat) (L : List Ed) (w : World) (hN : Nums w w.heap.size 3 A n (flat3 L)) (hn : n ≤ 1000)
    (eg : ∀ args w, (callFunc g args).run Tryz.prog w = .ok (.enter g args) w) (hp : Hid (∀ u a b d q, Below w.heap.size w u → Hid (p (a, b, d) = q) → Calls Tryz.prog g #[.agg #[.int .i64 a, .int .i64 b, .int .i64 d], .pointer (some ⟨B0, 0, none⟩)] u (Drew (.bool q) u))) :
    Calls Tryz.prog 84 #[.slice A n c, .func (.func g) #[] #[.pointer (some ⟨B0, 0, none⟩)]] w (Told w 79 3 (flat3 (L.filter p))) := by
  obtain ⟨i0, hi0, hz0, hz1, hz2⟩ := info_parts info80
  have H1 := hide hi0
  have H2 := hide hz0
  have H3 := hide hz1
  have H4 := hide hz2
  clear hi0 hz0 hz1 hz2
  have HN := hide hN
  have HL := hide (edges_len hN)
  clear hN
  go_enter Tryz.func84, Tryz.ntmps84
  go_wp2
  go_loopw [5, 10] (fun l i wr => ∃ (k m : Nat) (A' : Option Addr) (c' : Nat), k ≤ n ∧ i = .int .i64 k ∧ l = .slice A' m c' ∧ m ≤ k ∧ Hid (A' = none → c' = 0) ∧ Hid (wr.ownsRow w.heap.size 79 3 (.slice A' m c') m (ints (flat3 ((L.take k).filter p)))) ∧ Hid (Below w.heap.size w wr))
    (fun _ i _ => n - (intOf i).toNat)
  case atStart => exact ⟨0, 0, none, 0, by omega, rfl, rfl, by omega, fun _ => rfl, World.ownsRow_nil _ _ _ _, Below.refl _ _⟩
  case round =>
    obtain ⟨k, m, A', c', hk, rfl, rfl, hm, HA, HR, HB⟩ := hrel
    by_cases hlt : k < n
    · obtain ⟨b0, off, rfl, hb0, c0, c1, c2⟩ := edge_at (HN.out.below HB.out (Nat.le_refl _)) hlt
      obtain ⟨a, ha⟩ : ∃ a, Hid ((L.getD k (0, 0, 0)).1 = a) := ⟨_, rfl⟩
      rw [ha.out] at c0
      obtain ⟨b, hb⟩ : ∃ b, Hid ((L.getD k (0, 0, 0)).2.1 = b) := ⟨_, rfl⟩
      rw [hb.out] at c1
      obtain ⟨d, hd⟩ : ∃ d, Hid ((L.getD k (0, 0, 0)).2.2 = d) := ⟨_, rfl⟩
      rw [hd.out] at c2
      have HX : Hid (L.getD k (0, 0, 0) = (a, b, d)) := Prod.ext ha.out (Prod.ext hb.out hd.out)
      have HK : Hid (k < L.length) := by have := HL.out; show _ < _; omega
      clear ha hb hd
      obtain ⟨q, HQ⟩ : ∃ q, Hid (p (a, b, d) = q) := ⟨_, rfl⟩
      have BB := hide (HB.out.alloc HB.out.size (.cells #[.int .i64 a, .int .i64 b, .int .i64 d] 79))
      go_wp2_with fail
      refine (hp.out _ a b d q BB.out HQ).mono ?_
      rintro e u1 ⟨rfl, hu1⟩
      obtain ⟨HR1, HB1⟩ := round_call HR.out HB.out hu1
      have BX := box_cells hu1
      have b0 := BX.1
      have b9 := BX.2
      clear hu1 BX
      cases q
      · go_wp2
        go_roundw
        case rel => exact ⟨k + 1, m, A', c', by omega, by go_num, rfl, by omega, HA, filt_no HK.out HX.out HQ.out HR1.out, HB1⟩
        case measure => simp [intOf]; omega
      · go_wp2_with (at_builtin; refine wpList_append_own _ rfl _ _ 25 rfl w.heap.size 79 i0 (.agg #[.int .i64 0, .int .i64 0, .int .i64 0]) 3 24 Tryz.underlying25 H1.out H2.out H3.out H4.out rfl (by decide) _ m _ rfl (HR1.out.alloc _) ⟨u1.heap.size, 0, none⟩ 1 1 [.int .i64 a, .int .i64 b, .int .i64 d] rfl rfl (cells_new _ _ _ _ rfl) (three_cells a b d) (by simp only [maxLen]; omega) (by omega) (by have := HB1.out.size; simp; omega) ?_; intro v' w2 hown hg _; obtain ⟨A2, c2, rfl, HA2, HR2, HB2⟩ := round_append HR1.out HB1.out hown hg; clear hown hg)
        go_roundw
        case rel => exact ⟨k + 1, m + 1, A2, c2, by omega, by go_num, rfl, by omega, HA2, filt_yes flat3_append HK.out HX.out HQ.out rfl rfl HR2.out, HB2⟩
        case measure => simp [intOf]; omega
    · go_wp2
      go_ret
      refine ⟨A', m, c', rfl, HA.out, ?_, HB.out⟩
      have := HR.out
      rwa [List.take_of_length_le (by have := HL.out; omega)] at this

set_option maxRecDepth 100000 in
set_option maxHeartbeats 2000000 in
theorem stayP_any (g B0 : Nat) (p : Pr → Bool) (A : Option Addr) (n c : Nat) (L : List Pr) (w : World) (hN : Nums w w.heap.size 2 A n (flat2 L)) (hn : n ≤ 1000)
    (eg : ∀ args w, (callFunc g args).run Tryz.prog w = .ok (.enter g args) w) (hp : Hid (∀ u a b q, Below w.heap.size w u → Hid (p (a, b) = q) → Calls Tryz.prog g #[.agg #[.int .i64 a, .int .i64 b], .pointer (some ⟨B0, 0, none⟩)] u (Drew (.bool q) u))) :
    Calls Tryz.prog 91 #[.slice A n c, .func (.func g) #[] #[.pointer (some ⟨B0, 0, none⟩)]] w (Told w 83 2 (flat2 (L.filter p))) := by
  obtain ⟨i0, hi0, hz0, hz1, hz2⟩ := info_parts info54
  have H1 := hide hi0
  have H2 := hide hz0
  have H3 := hide hz1
  have H4 := hide hz2
  clear hi0 hz0 hz1 hz2
  have HN := hide hN
  have HL := hide (pairs_len hN)
  clear hN
  go_enter Tryz.func91, Tryz.ntmps91
  go_wp2
  go_loopw [5, 10] (fun l i wr => ∃ (k m : Nat) (A' : Option Addr) (c' : Nat), k ≤ n ∧ i = .int .i64 k ∧ l = .slice A' m c' ∧ m ≤ k ∧ Hid (A' = none → c' = 0) ∧ Hid (wr.ownsRow w.heap.size 83 2 (.slice A' m c') m (ints (flat2 ((L.take k).filter p)))) ∧ Hid (Below w.heap.size w wr))
    (fun _ i _ => n - (intOf i).toNat)
  case atStart => exact ⟨0, 0, none, 0, by omega, rfl, rfl, by omega, fun _ => rfl, World.ownsRow_nil _ _ _ _, Below.refl _ _⟩
  case round =>
    obtain ⟨k, m, A', c', hk, rfl, rfl, hm, HA, HR, HB⟩ := hrel
    by_cases hlt : k < n
    · obtain ⟨b0, off, rfl, hb0, c0, c1⟩ := pair_at (HN.out.below HB.out (Nat.le_refl _)) hlt
      obtain ⟨a, ha⟩ : ∃ a, Hid ((L.getD k (0, 0)).1 = a) := ⟨_, rfl⟩
      rw [ha.out] at c0
      obtain ⟨b, hb⟩ : ∃ b, Hid ((L.getD k (0, 0)).2 = b) := ⟨_, rfl⟩
      rw [hb.out] at c1
      have HX : Hid (L.getD k (0, 0) = (a, b)) := Prod.ext ha.out hb.out
      have HK : Hid (k < L.length) := by have := HL.out; show _ < _; omega
      clear ha hb
      obtain ⟨q, HQ⟩ : ∃ q, Hid (p (a, b) = q) := ⟨_, rfl⟩
      have BB := hide (HB.out.alloc HB.out.size (.cells #[.int .i64 a, .int .i64 b] 83))
      go_wp2_with fail
      refine (hp.out _ a b q BB.out HQ).mono ?_
      rintro e u1 ⟨rfl, hu1⟩
      obtain ⟨HR1, HB1⟩ := round_call HR.out HB.out hu1
      have BX := box_cells hu1
      have b0 := BX.1
      have b9 := BX.2
      clear hu1 BX
      cases q
      · go_wp2
        go_roundw
        case rel => exact ⟨k + 1, m, A', c', by omega, by go_num, rfl, by omega, HA, filt_no HK.out HX.out HQ.out HR1.out, HB1⟩
        case measure => simp [intOf]; omega
      · go_wp2_with (at_builtin; refine wpList_append_own _ rfl _ _ 34 rfl w.heap.size 83 i0 (.agg #[.int .i64 0, .int .i64 0]) 2 16 Tryz.underlying34 H1.out H2.out H3.out H4.out rfl (by decide) _ m _ rfl (HR1.out.alloc _) ⟨u1.heap.size, 0, none⟩ 1 1 [.int .i64 a, .int .i64 b] rfl rfl (cells_new _ _ _ _ rfl) (two_cells a b) (by simp only [maxLen]; omega) (by omega) (by have := HB1.out.size; simp; omega) ?_; intro v' w2 hown hg _; obtain ⟨A2, c2, rfl, HA2, HR2, HB2⟩ := round_append HR1.out HB1.out hown hg; clear hown hg)
        go_roundw
        case rel => exact ⟨k + 1, m + 1, A2, c2, by omega, by go_num, rfl, by omega, HA2, filt_yes flat2_append HK.out HX.out HQ.out rfl rfl HR2.out, HB2⟩
        case measure => simp [intOf]; omega
    · go_wp2
      go_ret
      refine ⟨A', m, c', rfl, HA.out, ?_, HB.out⟩
      have := HR.out
      rwa [List.take_of_length_le (by have := HL.out; omega)] at this

end Go.Proofs.YtiiadkjiofkonaaGreat
