/- What the functions of layer 9 that make maps and sets tell, for every list. -/
import Derived.Test.YtijiolkjnlgleaaWalksA
import Derived.Test.YtijiolkjnlgleaaMaps
import Derived.Test.YtijiolkjnlgleaaShelf
import Derived.Sort.OwnSortedInts
namespace Go.Proofs.Ytijiolkjnlgleaa
open Go.RowKit Go.Maps
set_option linter.unusedVariables false

theorem sort_own (g cap base : Nat) (ss : List Int) (w : World) (h : w.ownsRow base 3 1 (.slice (some ⟨g, 0, none⟩) ss.length cap) ss.length (ints ss)) (hn : ss.length < 4611686018427387904) :
    Calls Try.prog 27 #[.slice (some ⟨g, 0, none⟩) ss.length cap] w fun e w' => e = .returned (.tuple #[]) ∧
      w'.ownsRow base 3 1 (.slice (some ⟨g, 0, none⟩) ss.length cap) ss.length (ints (ss.mergeSort (fun x y => decide (x ≤ y)))) ∧ w.grownBy w' (some g) := by
  rcases h.2 with ⟨hnil, _⟩ | ⟨g', cap', cur, hv, hbase, hb, h1, h2, h3, h4⟩
  · cases hnil
  cases hv
  have hc : Calls Try.prog 27 #[.slice (some ⟨g, 0, none⟩) ss.length cap] w fun e w' =>
      e = .returned (.tuple #[]) ∧ ∃ n os, w' = Sort.grow (Sort.putRow (Value.int .i64) (Sort.ahead w n) g 0 (ss.mergeSort fun x y => decide (x ≤ y)).toArray) os :=
    calls_of_every_depth fun D => AnyS.slices_Sort_int_in Try.lays189 D g 0 cap ss w (holds_of_blockI hb (by simpa using h4)) (Array.getElem?_eq_some_iff.1 hb).1 hn
  refine hc.mono ?_
  rintro e w' ⟨rfl, nn, os, rfl⟩
  exact ⟨rfl, ownsRow_sortedI (by simp) hbase hb h1 h2 h3, grownBy_sortedI _⟩

theorem law3 : Keyed Try.prog 3 := int_keyed Try.underlying3
theorem zero4 (w : World) : (zeroValue 4).run Try.prog w = .ok (.bool false) w := by kernel_rfl

/-- The first j lists, one behind the other. -/
def upto (Z : Nat → List Int) (j : Nat) : List Int := (List.range j).flatMap Z
theorem upto_succ (Z : Nat → List Int) (j : Nat) : upto Z (j + 1) = upto Z j ++ Z j := by simp [upto, List.range_succ]

abbrev Mapped (w : World) (b n : Nat) (l : List Int) : Prop := w.ownsMap Try.prog 3 (plainElem Try.prog 4) b n (mapOf l)

theorem mapped_step {w : World} {b n k : Nat} {l zs : List Int} (hk : k < zs.length) (h : w.ownsMap Try.prog 3 (plainElem Try.prog 4) b n ((mapOf (l ++ zs.take k)).put (key (zs.getD k 0)) yes)) : Mapped w b n (l ++ zs.take (k + 1)) := by
  rw [take_snoc hk, ← List.append_assoc]
  show w.ownsMap Try.prog 3 (plainElem Try.prog 4) b n (mapOf (l ++ zs.take k ++ [zs.getD k 0]))
  rw [mapOf_snoc]
  exact h

set_option maxRecDepth 100000 in
set_option maxHeartbeats 1000000 in
theorem eachOnce_any (g m : Nat) (Ad : Nat → Option Addr) (Ns C : Nat → Nat) (Z : Nat → List Int) (w : World) (hm : m ≤ 2) (hg : g < w.heap.size)
    (hc : ∀ j, j < m → w.cell? ⟨g, j, none⟩ = some (.slice (Ad j) (Ns j) (C j))) (hN : ∀ j, j < m → Nums w w.heap.size 1 (Ad j) (Ns j) (Z j)) (hw : ∀ j, j < m → ∀ z ∈ Z j, (Lit.int .i64 z).wf = true)
    (hJ : ∀ j, j < m → (upto Z j).length + Ns j ≤ 35184372088832) :
    Calls Try.prog 25 #[.slice (some ⟨g, 0, none⟩) m m] w fun e w' => e = .returned (.map (some w.heap.size)) ∧ Mapped w' w.heap.size (upto Z m).length (upto Z m) ∧ Below w.heap.size w w' := by
  have hmm := @run_makeMap Try.prog
  have HC := hide hc
  have HN := hide hN
  have HW := hide hw
  have HJ := hide hJ
  clear hc hN hw hJ
  go_enter Try.func25, Try.ntmps25
  go_wp2
  go_loopw [11] (fun i wr => ∃ j : Nat, j ≤ m ∧ i = .int .i64 j ∧ Hid (Mapped wr w.heap.size (upto Z j).length (upto Z j)) ∧ Hid (Below w.heap.size w wr)) (fun i _ => m - (intOf i).toNat)
  case atStart => exact ⟨0, by omega, rfl, World.ownsMap_made _ _ _ _, (Below.refl _ _).alloc (Nat.le_refl _) _⟩
  case round =>
    obtain ⟨j, hj, rfl, HO, HB⟩ := hrel
    by_cases hlt : j < m
    · have hx : wr.cell? ⟨g, j, none⟩ = some (.slice (Ad j) (Ns j) (C j)) := (HB.out.cell (by exact hg)).trans (HC.out j hlt)
      have HZ := hide (HN.out j hlt)
      have HL : Hid ((Z j).length = Ns j) := by have := HZ.out.1; show _ = _; omega
      have HV := hide (HW.out j hlt)
      have HJ' := hide (HJ.out j hlt)
      have HU := hide (upto_succ Z j)
      generalize Ad j = A at hx HZ
      generalize C j = c at hx
      generalize Ns j = n at hx HZ HL HJ'
      generalize Z j = zs at HZ HL HV HU
      generalize upto Z j = pre at HO HJ' HU
      have hnb : n ≤ 35184372088832 := by have := HJ'.out; omega
      go_wp2
      go_loopw [17] (fun i wr => ∃ k : Nat, k ≤ n ∧ i = .int .i64 k ∧ Hid (Mapped wr w.heap.size (pre.length + k) (pre ++ zs.take k)) ∧ Hid (Below w.heap.size w wr)) (fun i _ => n - (intOf i).toNat)
      case atStart => exact ⟨0, by omega, rfl, (by show Mapped _ _ _ _; simpa using HO.out), HB⟩
      case round =>
        clear hx HO HB
        obtain ⟨k, hk, rfl, HO, HB⟩ := hrel
        by_cases hlk : k < n
        · obtain ⟨b, off, rfl, _, hcx⟩ := (HZ.out.below HB.out (Nat.le_refl _)).at_ hlk
          have hkey : keyOf Try.prog 3 (.int .i64 (zs.getD k 0)) = some (key (zs.getD k 0)) := keyOf_int_mk Try.underlying3 (HV.out _ (by have := HL.out; simp [show k < zs.length by omega]))
          have HK := hide hkey
          clear hkey
          go_wp2_with (at_mapUpdate; refine wpList_mapUpdate_own _ rfl _ _ _ 36 rfl 3 4 law3 Try.underlying36 _ w.heap.size _ _ rfl HO.out (by have := HJ'.out; unfold maxLen; omega) _ _ _ rfl rfl HK.out _ [] (plainElem_bool Try.underlying4 true) ?_; intro w1 hown1 hgrow1; have HO1 := hide (mapped_step (by have := HL.out; omega) hown1); have HB1 := hide (HB.out.grown hgrow1 HB.out.size (fun j hj => by cases hj; exact Nat.le_refl _)); clear hown1 hgrow1)
          go_roundw
          case rel => exact ⟨k + 1, by omega, by go_num, HO1, HB1⟩
          case measure => simp [intOf]; omega
        · have HO2 : Hid (Mapped wr w.heap.size (upto Z (j + 1)).length (upto Z (j + 1))) := by
            have h1 := HO.out
            rw [List.take_of_length_le (by have := HL.out; omega)] at h1
            rw [HU.out]
            have e : pre.length + k = (pre ++ zs).length := by have := HL.out; simp; omega
            rw [e] at h1
            exact h1
          go_wp2
          go_roundw
          case rel => exact ⟨j + 1, by omega, by go_num, HO2, HB⟩
          case measure => simp [intOf]; omega
    · obtain rfl : j = m := by omega
      go_wp2
      go_ret
      exact ⟨rfl, HO.out, HB.out⟩

set_option maxRecDepth 100000 in
set_option maxHeartbeats 1000000 in
theorem rising_any (b n : Nat) (l : List Int) (w : World) (hown : Mapped w b n l) (hn : n ≤ 35184372088832) : Calls Try.prog 24 #[.map (some b)] w (Told w 3 1 (sset l)) := by
  obtain ⟨i0, hi, hz0, hz1, hz2⟩ := info_parts Try.info3
  have hbl := hown.lt
  have hsz := hown.size_le
  have HBL := hide hbl
  have H0 := hide hown
  have H1 := hide hi
  have H2 := hide hz0
  have H3 := hide hz1
  have H4 := hide hz2
  have hby : i0.bytes * size (mapOf l) ≤ 281474976710656 := by rw [hz2]; omega
  have HBY := hide hby
  clear hbl hown hi hz0 hz1 hz2 hby
  go_enter Try.func24, Try.ntmps24
  go_wp2_with (first
    | (at_len; refine wpList_len_own _ rfl _ 36 rfl 3 4 Try.underlying36 _ b n _ rfl H0.out ?_)
    | (at_make; refine wpList_make_own _ rfl _ _ 22 rfl w.heap.size 3 i0 (.int .i64 0) 1 Try.underlying22 H1.out H2.out H3.out _ _ _ (size (mapOf l)) rfl rfl rfl HBY.out (by unfold maxLen; omega) (Nat.le_refl _) ?_; intro w1 hrow1 hg1)
    | (at_range; refine wpList_range_own _ rfl _ 36 rfl 3 4 law3 Try.underlying36 _ b n _ rfl (H0.out.kept hg1 (by simp)) ?_; intro w0 hrg0 hg0 hs0))
  go_frame
  have HG1 := hide hg1
  have HZ1 := hide hg1.size
  go_loopw [3] (fun v wr => ∃ (left : Lit → Bool) (cnt : Nat) (ss : List Int), v = .slice (some ⟨w.heap.size, 0, none⟩) ss.length (size (mapOf l)) ∧ Hid (wr.ranges Try.prog 3 (plainElem Try.prog 4) b w1.heap.size n (mapOf l) left cnt) ∧ Hid (ss.length + cnt ≤ size (mapOf l)) ∧
      Hid (wr.ownsRow w.heap.size 3 1 (.slice (some ⟨w.heap.size, 0, none⟩) ss.length (size (mapOf l))) ss.length (ints ss)) ∧ Hid (Met l left ss) ∧ Hid (Below w.heap.size w wr))
    (fun _ wr => wr.rangeLeft b w1.heap.size)
  case atStart =>
    exact ⟨_, _, [], rfl, hrg0, (by show _ ≤ _; simp), (hrow1.kept hg0 (Or.inr (by simp [Value.ownBlock]))), met_start l,
      ((Below.refl _ _).grown hg1 (Nat.le_refl _) (fun j hj => by cases hj)).grown hg0 hg1.size (fun j hj => by cases hj)⟩
  case round =>
    clear hrow1 hg1 hrg0 hg0 hs0
    obtain ⟨left, cnt, ss, rfl, HR, HCS, HRow, HM, HB⟩ := hrel
    go_wp2_with (at_next; refine wpList_next_asked _ rfl _ rfl 3 4 law3 Try.underlying3 b w1.heap.size n _ _ _ rfl HR.out ?_ ?_)
    · intro hc0 hl0
      have HE := hide (met_end HM.out hl0)
      have hlen : ss.length < 4611686018427387904 := by have := HCS.out; omega
      go_wp2_with fail
      refine (sort_own w.heap.size _ w.heap.size ss _ HRow.out hlen).mono ?_
      rintro e w2 ⟨rfl, hrow2, hg2⟩
      rw [HE.out] at hrow2
      have HR2 := hide hrow2
      have HB2 := hide (HB.out.grown hg2 HB.out.size (fun j hj => by cases hj; exact Nat.le_refl _))
      clear hrow2 hg2
      go_wp2
      go_ret
      exact ⟨_, _, _, rfl, (fun h => by cases h), HR2.out, HB2.out⟩
    · intro x v2 w2 cnt2 hwx hlk hhas hrg2 hlt hg2 hs2 hen
      have HRow2 := hide (HRow.out.kept hg2 (Or.inr (row_ne_iter HRow.out HR.out).symm))
      have HRg2 := hide hrg2
      have HB2 := hide (HB.out.grown hg2 HB.out.size (fun j hj => by cases hj; exact HZ1.out))
      have HM2 := hide (met_step HM.out hlk hhas)
      have HCS2 : Hid ((ss ++ [x]).length + cnt2 ≤ size (mapOf l)) := by have := HCS.out; show _ ≤ _; simp; omega
      have HLT := hide hlt
      clear hs2 hg2 hrg2 hwx hlk hhas hlt
      go_wp2_with (at_builtin; refine wpList_append_fits _ rfl _ _ 22 rfl w.heap.size 3 i0 1 Try.underlying22 H1.out H3.out w.heap.size ss.length (size (mapOf l)) (ints ss) rfl (HRow2.out.alloc _) ⟨w2.heap.size, 0, none⟩ 1 1 [.int .i64 x] rfl rfl (cell_one_new _ _ _) (ints_oneCell .i64 [x]) (by have := HCS2.out; simp at this; omega) ?_; intro w3 hown3 hg3; go_frame)
      have HRg3 := hide ((HRg2.out.alloc (.cells #[.int .i64 x] 3)).kept hg3 (by intro e; have := HBL.out; simp at e; omega) (row_ne_iter HRow2.out HRg2.out))
      have HB3 := hide ((HB2.out.alloc HB2.out.size (.cells #[.int .i64 x] 3)).grown hg3 (by have := HB2.out.size; simp; omega) (fun j hj => by cases hj; exact Nat.le_refl _))
      have HRow3 : Hid (w3.ownsRow w.heap.size 3 1 (.slice (some ⟨w.heap.size, 0, none⟩) (ss ++ [x]).length (size (mapOf l))) (ss ++ [x]).length (ints (ss ++ [x]))) := by
        show World.ownsRow _ _ _ _ _ _ _
        simpa using hown3
      clear hown3 hg3
      go_roundw
      case rel => exact ⟨_, cnt2, ss ++ [x], by simp, HRg3, HCS2, HRow3, HM2, HB3⟩
      case measure => rw [HRg3.out.left_eq, HR.out.left_eq]; exact HLT.out

end Go.Proofs.Ytijiolkjnlgleaa
