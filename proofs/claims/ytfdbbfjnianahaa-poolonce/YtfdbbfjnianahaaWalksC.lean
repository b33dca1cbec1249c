/- What freeMayBe tells of any pool whose lengths stand. -/
import Derived.Test.YtfdbbfjnianahaaWalksA
import Derived.Test.YtfdbbfjnianahaaWalksB
namespace Go.Proofs.Ytfdbbfjnianahaa
open Go.RowKit
set_option linter.unusedVariables false

section
variable {u : World} {B n c g : Nat} {zs : List Int}
theorem own_at (h : u.ownsRow B 3 1 (.slice (some ⟨g, 0, none⟩) n c) n (ints zs)) {k : Nat} (hk : k < n) : u.cell? ⟨g, k, none⟩ = some (.int .i64 (zs.getD k 0)) := by
  have hl : zs.length = n := by simpa using h.1
  rw [h.cellAt k (by omega)]
  simp [List.getD_eq_getElem?_getD, show k < zs.length by omega]
theorem own_ge (h : u.ownsRow B 3 1 (.slice (some ⟨g, 0, none⟩) n c) n (ints zs)) : B ≤ g ∧ g < u.heap.size := h.lt g rfl
theorem own_set (h : u.ownsRow B 3 1 (.slice (some ⟨g, 0, none⟩) n c) n (ints zs)) (k : Nat) (x : Int) : (u.setCell ⟨g, k, none⟩ (.int .i64 x)).ownsRow B 3 1 (.slice (some ⟨g, 0, none⟩) n c) n (ints (zs.set k x)) := by
  have := (h.stored k (.int .i64 x)).1
  rwa [show (ints zs).set k (.int .i64 x) = ints (zs.set k x) by simp [ints, List.map_set]] at this
/-- A row of some elements has a block. -/
theorem own_some {A : Option Addr} (h : u.ownsRow B 3 1 (.slice A n c) n (ints zs)) (hn : 0 < n) : ∃ g, A = some ⟨g, 0, none⟩ := by
  rcases h.2 with ⟨_, h0⟩ | ⟨g, cap, cur, h1, _⟩
  · omega
  · simp at h1; exact ⟨g, h1.1⟩
theorem own_other (h : u.ownsRow B 3 1 (.slice (some ⟨g, 0, none⟩) n c) n (ints zs)) {k i : Nat} (hk : k ≠ g) (v : Value) : (u.setCell ⟨k, i, none⟩ v).ownsRow B 3 1 (.slice (some ⟨g, 0, none⟩) n c) n (ints zs) := by
  refine ⟨h.1, ?_⟩
  rcases h.2 with h0 | ⟨g', cap, cur, h1, hB, hg, r⟩
  · exact .inl h0
  · have e : g = g' := by simp at h1; exact h1.1
    subst e
    exact .inr ⟨g, cap, cur, h1, hB, (Below.heap_setCell u ⟨k, i, none⟩ v g (by simpa using hk.symm)).trans hg, r⟩
end

theorem freeB_next {n : Nat} {L F : List Int} {j : Nat} (hj : j < F.length) : freeB n L (F.drop j) = (decide (0 ≤ F.getD j 0 ∧ F.getD j 0 < (n : Int) ∧ L.getD (F.getD j 0).toNat 0 = 0) && freeB n (L.set (F.getD j 0).toNat 1) (F.drop (j + 1))) := by
  rw [List.drop_eq_getElem_cons hj, freeB]
  simp [List.getD_eq_getElem?_getD, hj]

set_option maxHeartbeats 2000000 in
theorem freeMayBe_any (A0 A1 A2 A3 : Option Addr) (n n3 c0 c1 c2 c3 B : Nat) (S F : List Int) (w : World) (hs : Nums w B 1 A1 n S) (zs : Hid (A1 = none → c1 = 0)) (hf : Nums w B 1 A3 n3 F) (hB : B ≤ w.heap.size) (h1 : 1 ≤ n) (h2 : n ≤ 64) (h3 : n3 ≤ 200) :
    Calls Try.prog 37 #[V4 A0 A1 A2 A3 n n n n3 c0 c1 c2 c3] w (Drew (.bool (freeB n S F)) w) := by
  have HL := hide hf.1
  have HF := hide hf
  have X0 := hide (PBox.new w (C4 A0 A1 A2 A3 n n n n3 c0 c1 c2 c3))
  have B0 := hide ((Below.refl w.heap.size w).alloc (Nat.le_refl _) (.cells (C4 A0 A1 A2 A3 n n n n3 c0 c1 c2 c3) 24))
  have HS := hide (hs.below B0.out hB)
  clear hs hf
  go_enter Try.func37, Try.ntmps37
  go_wp2_with fail
  refine (clone_any _ _ _ _ _ _ HS.out zs (by simp; omega) (by omega)).mono ?_
  rintro e w1 ⟨Al, cl, rfl, hAl, hown, hbel⟩
  obtain ⟨g, rfl⟩ := own_some hown (by omega)
  have X1 := hide (X0.out.step hbel)
  have B1 := hide (next_call B0.out (Nat.le_refl _) hbel)
  have HO : Hid (w1.ownsRow (w.heap.size + 1) 3 1 (.slice (some ⟨g, 0, none⟩) n cl) n (ints S)) := by simpa [Hid] using hown
  have hg : w.heap.size + 1 ≤ g := (own_ge HO.out).1
  have hc := X1.out.cells
  have hl := X1.out.lt
  clear hown hbel hAl X0
  go_wp2
  clear hc hl
  go_loopw [12] (fun i wr => ∃ (j : Nat) (L : List Int), j ≤ n3 ∧ i = .int .i64 j ∧ Hid (PBox wr w.heap.size (C4 A0 A1 A2 A3 n n n n3 c0 c1 c2 c3)) ∧ Hid (wr.ownsRow (w.heap.size + 1) 3 1 (.slice (some ⟨g, 0, none⟩) n cl) n (ints L)) ∧ Hid (Below w.heap.size w wr) ∧ Hid (freeB n S F = freeB n L (F.drop j)))
    (fun i _ => n3 - (intOf i).toNat)
  case atStart => exact ⟨0, S, by omega, rfl, X1, HO, B1, rfl⟩
  case round =>
    obtain ⟨j, L, hj, rfl, X, HR, HB, HE⟩ := hrel
    clear X1 HO B1
    have hc := X.out.cells
    have hl := X.out.lt
    by_cases hlt : j < n3
    · obtain ⟨b, off, rfl, _, hx⟩ := (HF.out.below HB.out hB).at_ hlt
      have HN := hide (freeB_next (n := n) (L := L) (F := F) (j := j) (by have := HL.out; omega))
      generalize F.getD j 0 = x at hx HN
      go_wp2_with fail
      by_cases hin : 0 ≤ x ∧ x < (n : Int)
      · obtain ⟨X', rfl⟩ : ∃ X' : Nat, x = (X' : Int) := ⟨x.toNat, by omega⟩
        have hX : X' < n := by omega
        refine (isSlot_yes _ _ _ _ _ _ _ _ _ _ _ _ _ _ hin.1 hin.2 (by omega)).mono ?_
        rintro e u1 ⟨rfl, hu1⟩
        have X2 := hide (X.out.step hu1)
        have HR2 := hide (own_below HR.out hu1)
        have HB2 := hide (next_call HB.out (Nat.le_refl _) hu1)
        clear hc hl hx hu1 hin
        have hc := X2.out.cells
        have hl := X2.out.lt
        have hq := own_at HR2.out hX
        have hfz : u1.frozen? ⟨g, X', none⟩ = false := HR2.out.frozenAt X'
        have hgl := (own_ge HR2.out).2
        rw [Int.toNat_natCast] at HN
        have HQ : Hid (L.getD X' 0 = L.getD X' 0) := rfl
        generalize L.getD X' 0 = q at hq HN HQ
        by_cases hq0 : q = 0
        · subst hq0
          go_wp2
          go_roundw
          case rel =>
            refine ⟨j + 1, L.set X' 1, by omega, by go_num, X2.out.other (by omega) _, own_set HR2.out _ _, HB2.out.setCell (by simp; omega) _, ?_⟩
            show _ = _
            rw [HE.out, HN.out]
            simp; omega
          case measure => simp [intOf]; omega
        · have hq1 : (q != 0) = true := by simpa using hq0
          have HQ0 := hide hq0
          clear hq0
          go_wp2
          go_ret
          refine ⟨?_, HB2.out⟩
          rw [HE.out, HN.out]
          have := HQ0.out
          simp [this]
      · refine (isSlot_no _ _ _ _ _ _ _ _ _ _ _ _ _ _ (by omega) (by omega)).mono ?_
        rintro e u1 ⟨rfl, hu1⟩
        have HB2 := hide (next_call HB.out (Nat.le_refl _) hu1)
        have HI := hide hin
        clear hc hl hx hu1 hin
        go_wp2
        go_ret
        refine ⟨?_, HB2.out⟩
        rw [HE.out, HN.out, decide_eq_false (fun h => HI.out ⟨h.1, h.2.1⟩)]
        rfl
    · have HNL := hide (own_nums HR.out)
      go_wp2_with fail
      refine (contains_any _ _ _ _ _ _ HNL.out (by omega)).mono ?_
      rintro e u1 ⟨rfl, rfl⟩
      clear hc hl
      generalize HQ : L.contains 0 = q
      have HQ' := hide HQ
      clear HQ
      go_wp2
      go_ret
      refine ⟨?_, HB.out⟩
      rw [HE.out, List.drop_of_length_le (by have := HL.out; omega), freeB, HQ'.out]
      rfl

end Go.Proofs.Ytfdbbfjnianahaa
