/- What Picks tells, for every list of numbers and threads: the code's and the document's. -/
import Derived.Test.YtpldcmhbbhjhgaaWalksE
import Derived.IntWalk
namespace Go.Proofs.Ytpldcmhbbhjhgaa
open Go.RowKit
set_option linter.unusedVariables false

/-- What is picked. -/
def pickAll (t : Int) (zs : List Int) : List Int := if t < 1 then [] else zs.map (· % t)

theorem mod_no {z t : Int} (ht : 1 ≤ t) (h : z.tmod t < 0) : z.tmod t + t = z % t := by
  rw [Int.tmod_eq_emod] at h ⊢
  have h0 := Int.emod_nonneg z (show t ≠ 0 by omega)
  split at h
  · omega
  · rename_i hc
    rw [if_neg hc]
    omega
theorem mod_yes {z t : Int} (ht : 1 ≤ t) (h : ¬ z.tmod t < 0) : z.tmod t = z % t := by
  rw [Int.tmod_eq_emod] at h ⊢
  have h0 := Int.emod_lt_of_pos z (show 0 < t by omega)
  split at h
  · rename_i hc
    rw [if_pos hc]
    omega
  · omega
theorem mod_lo (z t : Int) (ht : 1 ≤ t) : -t < z.tmod t := by
  have := Int.emod_nonneg z (show t ≠ 0 by omega)
  rw [Int.tmod_eq_emod]
  split <;> omega
theorem mod_hi (z t : Int) (ht : 1 ≤ t) : z.tmod t < t := by
  have := Int.emod_lt_of_pos z (show 0 < t by omega)
  rw [Int.tmod_eq_emod]
  split <;> omega

/-- The picks so far; the others are still 0. -/
def part (t : Int) (zs : List Int) (k : Nat) : List Int := (zs.take k).map (· % t) ++ List.replicate (zs.length - k) 0
theorem part_zero (t : Int) (zs : List Int) : part t zs 0 = List.replicate zs.length 0 := by simp [part]
theorem part_all (t : Int) (zs : List Int) : part t zs zs.length = zs.map (· % t) := by simp [part]
theorem part_at (t : Int) (zs : List Int) (k : Nat) (hk : k < zs.length) : (ints (part t zs k))[k]? = some (.int .i64 0) := by
  unfold part
  rw [List.getElem?_map, List.getElem?_append_right (by simp; omega)]
  simp [Nat.min_eq_left (Nat.le_of_lt hk), show 0 < zs.length - k by omega]
theorem part_set (t : Int) (zs : List Int) (k : Nat) (hk : k < zs.length) : (part t zs k).set k ((zs.getD k 0) % t) = part t zs (k + 1) := by
  have e : zs.length - k = (zs.length - (k + 1)) + 1 := by omega
  have ht : (zs.take k).length = k := by simp; omega
  unfold part
  rw [List.set_append_right _ _ (by simp; omega), List.length_map, ht, Nat.sub_self, e, List.replicate_succ, List.set_cons_zero, List.take_add_one]
  simp only [List.map_append, List.append_assoc]
  simp [hk]

theorem own_block {w : World} {B g n : Nat} {xs : List Value} (h : w.ownsRow B 3 1 (.slice (some ⟨g, 0, none⟩) n n) n xs) : w.heap[g]? = some (.cells xs.toArray 3 (0, 0)) := by
  rcases h.2 with ⟨h', _⟩ | ⟨g', cap', cur, h', _, hg, _, _, hs, htake⟩
  · simp at h'
  · simp only [Value.slice.injEq, Option.some.injEq, Addr.mk.injEq, and_true, true_and] at h'
    obtain ⟨rfl, rfl⟩ := h'
    rw [hg, ← htake, List.take_of_length_le (by simp [hs])]

theorem part_made {w : World} {B g n : Nat} {t : Int} {zs : List Int} (hl : Hid (zs.length = n)) (h : Hid (w.ownsRow B 3 1 (.slice (some ⟨g, 0, none⟩) n n) n (madeCells (Value.int .i64 0).cells (n * 1)).toList)) : Hid (w.ownsRow B 3 1 (.slice (some ⟨g, 0, none⟩) n n) n (ints (part t zs 0))) := by
  have := h.out
  rw [show n * 1 = n from Nat.mul_one n, show (Value.int IntKind.i64 0).cells = #[Value.int .i64 0] from rfl, toList_madeCells_one] at this
  show World.ownsRow _ _ _ _ _ _ _
  rw [part_zero, hl.out]
  simpa using this

theorem stored_once {u : World} {B g n k : Nat} {t x y : Int} {zs : List Int} (HS : Hid ((part t zs k).set k y = part t zs (k + 1))) (hx : x = y)
    (h : u.ownsRow B 3 1 (.slice (some ⟨g, 0, none⟩) n n) n (ints (part t zs k))) : Hid ((u.setCell ⟨g, k, none⟩ (.int .i64 x)).ownsRow B 3 1 (.slice (some ⟨g, 0, none⟩) n n) n (ints (part t zs (k + 1)))) := by
  have := (h.stored k (.int .i64 x)).1
  show World.ownsRow _ _ _ _ _ _ _
  rw [← HS.out, ← hx]
  simpa [List.map_set] using this
theorem stored_twice {u : World} {B g n k : Nat} {t x x' y : Int} {zs : List Int} (HS : Hid ((part t zs k).set k y = part t zs (k + 1))) (hx : x = y)
    (h : u.ownsRow B 3 1 (.slice (some ⟨g, 0, none⟩) n n) n (ints (part t zs k))) : Hid (((u.setCell ⟨g, k, none⟩ (.int .i64 x')).setCell ⟨g, k, none⟩ (.int .i64 x)).ownsRow B 3 1 (.slice (some ⟨g, 0, none⟩) n n) n (ints (part t zs (k + 1)))) := by
  have := ((h.stored k (.int .i64 x')).1.stored k (.int .i64 x)).1
  show World.ownsRow _ _ _ _ _ _ _
  rw [← HS.out, ← hx]
  rw [List.set_set] at this
  simpa [List.map_set] using this

set_option maxHeartbeats 1000000 in
theorem picks_yes (A : Option Addr) (n c B : Nat) (zs : List Int) (t : Int) (w : World) (h : Nums w B 1 A n zs) (hB : B ≤ w.heap.size) (hn : n ≤ 65536) (ht : 1 ≤ t) (ht2 : t ≤ 9223372036854775807) :
    Calls Try.prog 20 #[.slice A n c, .int .i64 t] w (Told w 3 1 (zs.map (· % t))) := by
  obtain ⟨i0, hi0, hz0, hz1, hz2⟩ := info_parts Try.info3
  have hby : i0.bytes * n ≤ 281474976710656 := by rw [hz2]; omega
  have HBy := hide hby
  have H1 := hide hi0
  have H2 := hide hz0
  have H3 := hide hz1
  clear hby hi0 hz0 hz1 hz2
  have HL : Hid (zs.length = n) := by have := h.1; show _ = _; omega
  have HN := hide h
  clear h
  have htd : decide (t < 1) = false := by simp; omega
  go_enter Try.func20, Try.ntmps20
  go_wp2_with (at_make; refine wpList_make_full _ rfl _ _ 24 rfl w.heap.size 3 i0 (.int .i64 0) 1 Try.underlying24 H1.out H2.out H3.out _ _ _ _ n rfl rfl rfl rfl HBy.out (by simp only [maxLen]; omega) (Nat.le_refl _) ?_; intro w1 hown hgrow; have HB1 := hide ((Below.refl _ _).grown hgrow (Nat.le_refl _) (by simp)); have HR1 := hide hown; clear hown hgrow)
  have HR0 := part_made (t := t) HL HR1
  clear HR1
  go_loopw [15] (fun i wr => ∃ k : Nat, k ≤ n ∧ i = .int .i64 k ∧ Hid (wr.ownsRow w.heap.size 3 1 (.slice (some ⟨w.heap.size, 0, none⟩) n n) n (ints (part t zs k))) ∧ Hid (Below w.heap.size w wr)) (fun i _ => n - (intOf i).toNat)
  case atStart => exact ⟨0, by omega, rfl, HR0, HB1⟩
  case round =>
    obtain ⟨k, hk, rfl, HR, HB⟩ := hrel
    clear HR0 HB1
    by_cases hlt : k < n
    · have hkz : k < zs.length := by have := HL.out; omega
      obtain ⟨b, off, rfl, hb, hc⟩ := (HN.out.below HB.out hB).at_ hlt
      have hcg : wr.cell? ⟨w.heap.size, k, none⟩ = some (.int .i64 0) := (HR.out.cellAt k (by omega)).trans (part_at t zs k hkz)
      have hfg : wr.frozen? ⟨w.heap.size, k, none⟩ = false := HR.out.frozenAt k
      have HS := hide (part_set t zs k hkz)
      have hlo := mod_lo (zs.getD k 0) t ht
      have hhi := mod_hi (zs.getD k 0) t ht
      have Hno := hide (mod_no (z := zs.getD k 0) ht)
      have Hyes := hide (mod_yes (z := zs.getD k 0) ht)
      have htz : t ≠ 0 := by omega
      generalize zs.getD k 0 = z at hc HS hlo hhi Hno Hyes
      by_cases hneg : z.tmod t < 0
      · have hd : decide (z.tmod t < 0) = true := by simpa using hneg
        go_wp2
        go_roundw
        case rel => exact ⟨k + 1, by omega, by go_num, stored_twice HS (Hno.out hneg) HR.out, (HB.out.setCell (p := ⟨w.heap.size, k, none⟩) (Nat.le_refl _) _).setCell (p := ⟨w.heap.size, k, none⟩) (Nat.le_refl _) _⟩
        case measure => simp [intOf]; omega
      · have hd : decide (z.tmod t < 0) = false := by simpa using hneg
        go_wp2
        go_roundw
        case rel => exact ⟨k + 1, by omega, by go_num, stored_once HS (Hyes.out hneg) HR.out, HB.out.setCell (p := ⟨w.heap.size, k, none⟩) (Nat.le_refl _) _⟩
        case measure => simp [intOf]; omega
    · obtain rfl : k = n := by omega
      go_wp2
      go_ret
      refine ⟨_, _, _, rfl, fun h => (by cases h), ?_, HB.out⟩
      have := HR.out
      rwa [show part t zs k = zs.map (· % t) by rw [← HL.out]; exact part_all t zs] at this

set_option maxHeartbeats 400000 in
theorem picks_no (A : Option Addr) (n c : Nat) (t : Int) (w : World) (ht : t < 1) : Calls Try.prog 20 #[.slice A n c, .int .i64 t] w (Told w 3 1 []) := by
  have htd : decide (t < 1) = true := by simpa using ht
  go_enter Try.func20, Try.ntmps20
  go_wp2
  go_ret
  exact ⟨none, 0, 0, rfl, fun _ => rfl, World.ownsRow_nil _ _ _ _, Below.refl _ _⟩

theorem picks_any (A : Option Addr) (n c B : Nat) (zs : List Int) (t : Int) (w : World) (h : Nums w B 1 A n zs) (hB : B ≤ w.heap.size) (hn : n ≤ 65536) (ht2 : t ≤ 9223372036854775807) :
    Calls Try.prog 20 #[.slice A n c, .int .i64 t] w (Told w 3 1 (pickAll t zs)) := by
  unfold pickAll
  by_cases ht : t < 1
  · rw [if_pos ht]
    exact picks_no A n c t w ht
  · rw [if_neg ht]
    exact picks_yes A n c B zs t w h hB hn (by omega) ht2

theorem all_next (t : Int) (zs : List Int) (k : Nat) (hk : k < zs.length) : (zs.take (k + 1)).map (· % t) = (zs.take k).map (· % t) ++ [(zs.getD k 0) % t] := by
  rw [List.take_add_one, List.map_append]
  simp [hk]

/-- What an append of one number leaves. -/
theorem round_append1 {w u1 w2 : World} {n : Nat} {v v' : Value} {xs ys : List Value} {o : Obj} (h : u1.ownsRow w.heap.size 3 1 v n xs) (hb : Below w.heap.size w u1)
    (hown : w2.ownsRow w.heap.size 3 1 v' (n + 1) ys) (hg : (u1.alloc o).grownBy w2 v.ownBlock) :
    ∃ A c, v' = .slice A (n + 1) c ∧ Hid (A = none → c = 0) ∧ Hid (w2.ownsRow w.heap.size 3 1 (.slice A (n + 1) c) (n + 1) ys) ∧ Hid (Below w.heap.size w w2) := by
  obtain ⟨A, c, rfl, hA⟩ := own_form hown
  exact ⟨A, c, rfl, hA, hown, (hb.alloc hb.size o).grown hg (by have := hb.size; simp; omega) fun j ej => (h.lt j ej).1⟩

theorem one_cell (x : Int) : ∀ u ∈ [Value.int .i64 x], u.oneCell' = true := ints_oneCell .i64 [x]

theorem next_pick {u : World} {B m k : Nat} {v : Value} {t x y : Int} {zs : List Int} (HS : Hid ((zs.take (k + 1)).map (· % t) = (zs.take k).map (· % t) ++ [y])) (hx : x = y)
    (h : u.ownsRow B 3 1 v m (ints ((zs.take k).map (· % t)) ++ [.int .i64 x])) : Hid (u.ownsRow B 3 1 v m (ints ((zs.take (k + 1)).map (· % t)))) := by
  show World.ownsRow _ _ _ _ _ _ _
  rw [HS.out, ← hx]
  simpa using h

set_option maxHeartbeats 1000000 in
theorem rpicks_yes (A : Option Addr) (n c B : Nat) (zs : List Int) (t : Int) (w : World) (h : Nums w B 1 A n zs) (hB : B ≤ w.heap.size) (hn : n ≤ 65536) (ht : 1 ≤ t) (ht2 : t ≤ 9223372036854775807) :
    Calls Try.prog 21 #[.slice A n c, .int .i64 t] w (Told w 3 1 (zs.map (· % t))) := by
  obtain ⟨i0, hi0, hz0, hz1, hz2⟩ := info_parts Try.info3
  have H1 := hide hi0
  have H2 := hide hz0
  have H3 := hide hz1
  have H4 := hide hz2
  clear hi0 hz0 hz1 hz2
  have HL : Hid (zs.length = n) := by have := h.1; show _ = _; omega
  have HN := hide h
  clear h
  have htd : decide (1 ≤ t) = true := by simpa using ht
  go_enter Try.func21, Try.ntmps21
  go_wp2
  go_loopw [5, 10] (fun l i wr => ∃ (k : Nat) (A' : Option Addr) (c' : Nat), k ≤ n ∧ i = .int .i64 k ∧ l = .slice A' k c' ∧ Hid (A' = none → c' = 0) ∧ Hid (wr.ownsRow w.heap.size 3 1 (.slice A' k c') k (ints ((zs.take k).map (· % t)))) ∧ Hid (Below w.heap.size w wr)) (fun _ i _ => n - (intOf i).toNat)
  case atStart => exact ⟨0, none, 0, by omega, rfl, rfl, fun _ => rfl, World.ownsRow_nil _ _ _ _, Below.refl _ _⟩
  case round =>
    obtain ⟨k, A', c', hk, rfl, rfl, HA, HR, HB⟩ := hrel
    by_cases hlt : k < n
    · have hkz : k < zs.length := by have := HL.out; omega
      obtain ⟨b, off, rfl, hb, hc⟩ := (HN.out.below HB.out hB).at_ hlt
      have HS := hide (all_next t zs k hkz)
      have hlo := mod_lo (zs.getD k 0) t ht
      have hhi := mod_hi (zs.getD k 0) t ht
      have Hno := hide (mod_no (z := zs.getD k 0) ht)
      have Hyes := hide (mod_yes (z := zs.getD k 0) ht)
      have htz : t ≠ 0 := by omega
      generalize zs.getD k 0 = z at hc HS hlo hhi Hno Hyes
      by_cases hneg : z.tmod t < 0
      · have hd : decide (z.tmod t < 0) = true := by simpa using hneg
        go_wp2_with (at_builtin; refine wpList_append_own _ rfl _ _ 24 rfl w.heap.size 3 i0 (.int .i64 0) 1 8 Try.underlying24 H1.out H2.out H3.out H4.out rfl (by decide) _ k _ rfl (HR.out.alloc _) ⟨wr.heap.size, 0, none⟩ 1 1 [.int .i64 (z.tmod t + t)] rfl rfl (cells_new _ _ _ _ rfl) (one_cell _) (by simp only [maxLen]; omega) (by omega) (by have := HB.out.size; simp; omega) ?_; intro v' w2 hown hg _; obtain ⟨A2, c2, rfl, HA2, HR2, HB2⟩ := round_append1 HR.out HB.out hown hg; clear hown hg)
        go_roundw
        case rel => exact ⟨k + 1, A2, c2, by omega, by go_num, rfl, HA2, next_pick HS (Hno.out hneg) HR2.out, HB2⟩
        case measure => simp [intOf]; omega
      · have hd : decide (z.tmod t < 0) = false := by simpa using hneg
        go_wp2_with (at_builtin; refine wpList_append_own _ rfl _ _ 24 rfl w.heap.size 3 i0 (.int .i64 0) 1 8 Try.underlying24 H1.out H2.out H3.out H4.out rfl (by decide) _ k _ rfl (HR.out.alloc _) ⟨wr.heap.size, 0, none⟩ 1 1 [.int .i64 (z.tmod t)] rfl rfl (cells_new _ _ _ _ rfl) (one_cell _) (by simp only [maxLen]; omega) (by omega) (by have := HB.out.size; simp; omega) ?_; intro v' w2 hown hg _; obtain ⟨A2, c2, rfl, HA2, HR2, HB2⟩ := round_append1 HR.out HB.out hown hg; clear hown hg)
        go_roundw
        case rel => exact ⟨k + 1, A2, c2, by omega, by go_num, rfl, HA2, next_pick HS (Hyes.out hneg) HR2.out, HB2⟩
        case measure => simp [intOf]; omega
    · obtain rfl : k = n := by omega
      go_wp2
      go_ret
      refine ⟨_, _, _, rfl, HA.out, ?_, HB.out⟩
      have := HR.out
      rwa [List.take_of_length_le (by have := HL.out; omega)] at this

set_option maxHeartbeats 400000 in
theorem rpicks_no (A : Option Addr) (n c B : Nat) (zs : List Int) (t : Int) (w : World) (h : Nums w B 1 A n zs) (hn : n ≤ 65536) (ht : t < 1) : Calls Try.prog 21 #[.slice A n c, .int .i64 t] w (Told w 3 1 []) := by
  have htd : decide (1 ≤ t) = false := by simp; omega
  have HN := hide h
  clear h
  go_enter Try.func21, Try.ntmps21
  go_wp2
  go_loopw [5, 10] (fun l i wr => ∃ k : Nat, k ≤ n ∧ i = .int .i64 k ∧ l = .slice none 0 0 ∧ wr = w) (fun _ i _ => n - (intOf i).toNat)
  case atStart => exact ⟨0, by omega, rfl, rfl, rfl⟩
  case round =>
    obtain ⟨k, hk, rfl, rfl, rfl⟩ := hrel
    by_cases hlt : k < n
    · obtain ⟨b, off, rfl, hb, hc⟩ := HN.out.at_ hlt
      go_wp2
      go_roundw
      case rel => exact ⟨k + 1, by omega, by go_num, rfl, trivial⟩
      case measure => simp [intOf]; omega
    · go_wp2
      go_ret
      exact ⟨none, 0, 0, rfl, fun _ => rfl, World.ownsRow_nil _ _ _ _, Below.refl _ _⟩

theorem rpicks_any (A : Option Addr) (n c B : Nat) (zs : List Int) (t : Int) (w : World) (h : Nums w B 1 A n zs) (hB : B ≤ w.heap.size) (hn : n ≤ 65536) (ht2 : t ≤ 9223372036854775807) :
    Calls Try.prog 21 #[.slice A n c, .int .i64 t] w (Told w 3 1 (pickAll t zs)) := by
  unfold pickAll
  by_cases ht : t < 1
  · rw [if_pos ht]
    exact rpicks_no A n c B zs t w h hn ht
  · rw [if_neg ht]
    exact rpicks_yes A n c B zs t w h hB hn (by omega) ht2
end Go.Proofs.Ytpldcmhbbhjhgaa
