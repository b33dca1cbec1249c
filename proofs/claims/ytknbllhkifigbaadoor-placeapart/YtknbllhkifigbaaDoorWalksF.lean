/- What the document's answer for a word tells: one contract, whatever the arguments. -/
import Derived.Test.YtknbllhkifigbaaDoorWalksE
namespace Go.Proofs.YtknbllhkifigbaaDoor
open Go.RowKit
set_option linter.unusedVariables false

set_option maxRecDepth 100000 in
set_option maxHeartbeats 1000000 in
theorem rwhere_bad (n e p i j a : Int) (w : World) (h : Hid (¬ Ok n e p i j)) :
    Calls Tryd.prog 24 #[.agg #[.int .i64 n, .int .i64 e, .int .i64 p, .int .i64 i, .int .i64 j], .int .i64 a] w (Drew (.tuple #[.int .i64 0, .int .i64 0, .int .i64 0, .int .i64 1]) w) := by
  go_enter Tryd.func24, Tryd.ntmps24
  go_wp2_with fail
  refine (rcheck_no _ _ _ _ _ _ h).mono ?_
  rintro r w1 ⟨rfl, hb1⟩
  go_wp2
  refine bodyPost_ret (four_results Tryd.results24 _ _ _) rfl ?_
  exact ⟨rfl, bbox hb1⟩

set_option maxRecDepth 100000 in
set_option maxHeartbeats 1000000 in
theorem rwhere_no (n e p i j a : Int) (w : World) (h : Hid (Ok n e p i j)) (ha : Hid (a < 0 ∨ po n e p i j 6 ≤ a)) :
    Calls Tryd.prog 24 #[.agg #[.int .i64 n, .int .i64 e, .int .i64 p, .int .i64 i, .int .i64 j], .int .i64 a] w (Drew (.tuple #[.int .i64 0, .int .i64 0, .int .i64 0, .int .i64 1]) w) := by
  by_cases c1 : a < 0
  · have b1 : decide (a < 0) = true := by simpa using c1
    go_enter Tryd.func24, Tryd.ntmps24
    go_wp2_with fail
    refine (rcheck_ok _ _ _ _ _ _ h).mono ?_
    rintro r w1 ⟨rfl, hb1⟩
    go_wp2
    refine bodyPost_ret (four_results Tryd.results24 _ _ _) rfl ?_
    exact ⟨rfl, bbox hb1⟩
  · have b1 : decide (a < 0) = false := by simpa using c1
    obtain ⟨sz, HZ⟩ : ∃ sz, Hid (po n e p i j 6 = sz) := ⟨_, rfl⟩
    have b2 : decide (sz ≤ a) = true := by have := ha.out; rw [HZ.out] at this; simp; omega
    go_enter Tryd.func24, Tryd.ntmps24
    go_wp2_with fail
    refine (rcheck_ok _ _ _ _ _ _ h).mono ?_
    rintro r w1 ⟨rfl, hb1⟩
    have hc1 := old_cells (hb1)
    have hf1 := old_marks (hb1)
    go_wp2_with fail
    refine (rsize_ok _ _ _ _ _ _ h).mono ?_
    rw [HZ.out]
    rintro r w2 ⟨rfl, hb2⟩
    have HB : Hid (Below w.heap.size w w2) := bstep (bbox hb1) hb2 (by have := hb1.size; simp at this; omega)
    go_wp2
    refine bodyPost_ret (four_results Tryd.results24 _ _ _) rfl ?_
    exact ⟨rfl, HB.out⟩

/-- The configuration's box stands, and nothing old has turned. -/
abbrev Boxed (w wr : World) (n e p i j : Int) : Prop := Hid (Below (w.alloc (.cells #[.int .i64 n, .int .i64 e, .int .i64 p, .int .i64 i, .int .i64 j] 23)).heap.size (w.alloc (.cells #[.int .i64 n, .int .i64 e, .int .i64 p, .int .i64 i, .int .i64 j] 23)) wr)

theorem told_same {n e p i j a v1 v2 v3 x m fd : Int} (h : Whats n e p i j a v1 v2 v3 0) (g : Stands n e p i j x m fd a 0) : v1 = x ∧ v2 = m ∧ v3 = fd := by
  have := h.unique (stands_whats g)
  exact ⟨this.1, this.2.1, this.2.2.1⟩

/-- No thing of this kind and number stands at a. -/
def Miss (n e p i j a x m fd : Int) : Prop := ¬ Stands n e p i j x m fd a 0

theorem miss_of {n e p i j a x m fd A E : Int} (h : Stands n e p i j x m fd A E) (g : E = 1 ∨ A ≠ a) : Miss n e p i j a x m fd := fun hh => by
  have := h.unique hh
  omega

theorem miss_field {n e p i j a x m fd A E : Int} (hx : 1 ≤ x ∧ x ≤ 3) (h : Fields n e p i j x m fd A E) (g : E = 1 ∨ A ≠ a) : Miss n e p i j a x m fd := by
  rcases h with ⟨_, h⟩ | ⟨h, _⟩
  · exact miss_of h g
  · omega

/-- A word that nothing stands at is none. -/
theorem none_left {n e p i j a v1 v2 v3 : Int} (h : Whats n e p i j a v1 v2 v3 0) (h2 : 2 ≤ a) (hM : ∀ m : Nat, m < 65 → Miss n e p i j a 4 m 0 ∧ Miss n e p i j a 5 m 0)
    (hF : ∀ x : Nat, 1 ≤ x → x < 4 → ∀ s : Nat, s < 64 → ∀ f : Nat, f < 5 → Miss n e p i j a x s f) : False := by
  obtain ⟨hS, g1, g2, g3, g4, g5, g6, g7⟩ := whats_stands h
  obtain ⟨s, rfl⟩ := Int.eq_ofNat_of_zero_le g2.1
  obtain ⟨f, rfl⟩ := Int.eq_ofNat_of_zero_le g3.1
  obtain ⟨x, rfl⟩ := Int.eq_ofNat_of_zero_le g1.1
  by_cases c : 1 ≤ x ∧ x ≤ 3
  · exact hF x c.1 (by omega) s (by have := g4 (by omega); omega) f (by omega) hS
  · have hf : f = 0 := by have := g5 (by omega); omega
    subst hf
    by_cases c0 : x = 0
    · have := g6 (by omega); omega
    · by_cases c4 : x = 4
      · subst c4; exact (hM s (by omega)).1 hS
      · have c5 : x = 5 := by omega
        subst c5; exact (hM s (by omega)).2 hS

theorem stands_of_fields {n e p i j x m fd A : Int} (h : Fields n e p i j x m fd A 0) : Stands n e p i j x m fd A 0 :=
  h.elim (fun g => g.2) (fun g => absurd g.2.2 (by omega))

set_option maxRecDepth 100000 in
set_option maxHeartbeats 4000000 in
theorem rwhere_yes (n e p i j a v1 v2 v3 : Int) (w : World) (h : Hid (Ok n e p i j)) (hs : Hid (0 ≤ a ∧ a < po n e p i j 6)) (hv : Hid (Whats n e p i j a v1 v2 v3 0)) :
    Calls Tryd.prog 24 #[.agg #[.int .i64 n, .int .i64 e, .int .i64 p, .int .i64 i, .int .i64 j], .int .i64 a] w (Drew (.tuple #[.int .i64 v1, .int .i64 v2, .int .i64 v3, .int .i64 0]) w) := by
  have a0 : 0 ≤ a := hs.out.1
  have a9 : a ≤ 2000 := by have h1 := hs.out.2; have h2 := h.out; unfold Ok at h2; rw [po_six] at h1; omega
  have b1 : decide (a < 0) = false := by simpa using a0
  obtain ⟨sz, HZ⟩ : ∃ sz, Hid (po n e p i j 6 = sz) := ⟨_, rfl⟩
  have b2 : decide (sz ≤ a) = false := by have := hs.out.2; rw [HZ.out] at this; simpa using this
  by_cases c2 : a < 2
  · have b3 : decide (a < 2) = true := by simpa using c2
    have HV : Hid (v1 = 0 ∧ v2 = a + 1 ∧ v3 = 0) := by
      obtain ⟨_, g1, g2, g3, g4, g5, g6, g7⟩ := whats_stands hv.out
      have g8 : v1 = 0 := by
        by_cases g : v1 = 0
        · exact g
        · have := g7 g; omega
      exact ⟨g8, (g6 g8).1, g5 (by omega)⟩
    go_enter Tryd.func24, Tryd.ntmps24
    go_wp2_with fail
    refine (rcheck_ok _ _ _ _ _ _ h).mono ?_
    rintro r w1 ⟨rfl, hb1⟩
    have hc1 := old_cells (hb1)
    have hf1 := old_marks (hb1)
    go_wp2_with fail
    refine (rsize_ok _ _ _ _ _ _ h).mono ?_
    rw [HZ.out]
    rintro r w2 ⟨rfl, hb2⟩
    have HB : Hid (Below w.heap.size w w2) := bstep (bbox hb1) hb2 (by have := hb1.size; simp at this; omega)
    go_wp2
    refine bodyPost_ret (four_results Tryd.results24 _ _ _) rfl ?_
    obtain ⟨e1, e2, e3⟩ := HV.out
    exact ⟨by simp [e1, e2, e3], HB.out⟩
  have b3 : decide (a < 2) = false := by simpa using c2
  go_enter Tryd.func24, Tryd.ntmps24
  go_wp2_with fail
  refine (rcheck_ok _ _ _ _ _ _ h).mono ?_
  rintro r w1 ⟨rfl, hb1⟩
  have hc1 := old_cells (hb1)
  have hf1 := old_marks (hb1)
  go_wp2_with fail
  refine (rsize_ok _ _ _ _ _ _ h).mono ?_
  rw [HZ.out]
  rintro r w2 ⟨rfl, hb2⟩
  have HB : Boxed w w2 n e p i j := bstep hb1 hb2 hb1.size
  clear hb1 hc1 hf1 hb2
  go_wp2
  go_loopw [35] (fun c wr => ∃ k : Nat, k ≤ 65 ∧ c = .int .i64 k ∧ Boxed w wr n e p i j ∧ Hid (∀ m : Nat, m < k → Miss n e p i j a 4 m 0 ∧ Miss n e p i j a 5 m 0)) (fun c _ => 65 - (intOf c).toNat)
  case atStart => exact ⟨0, by omega, rfl, HB, fun m hm => absurd hm (by omega)⟩
  case round =>
    obtain ⟨k, hk, rfl, HR, HM⟩ := hrel
    by_cases hlt : k < 65
    · have hcr := box_cells (u := w) HR.out
      obtain ⟨A1, E1, hS1⟩ := Stands.some n e p i j 4 k 0
      obtain ⟨A2, E2, hS2⟩ := Stands.some n e p i j 5 k 0
      have H1 := hide hS1
      have H2 := hide hS2
      have G1 := hide hS1.err
      have G2 := hide hS2.err
      clear hS1 hS2
      by_cases m1 : E1 = 0 ∧ A1 = a
      · obtain ⟨rfl, rfl⟩ := m1
        have HV := hide (told_same hv.out H1.out)
        go_wp2_with fail
        refine (rnode_any _ _ _ _ _ _ _ _ _ H1).mono ?_
        rintro r w3 ⟨rfl, hb3⟩
        go_wp2
        refine bodyPost_ret (four_results Tryd.results24 _ _ _) rfl ?_
        obtain ⟨e1, e2, e3⟩ := HV.out
        exact ⟨by simp [e1, e2, e3], bbox (bstep HR.out hb3 HR.out.size)⟩
      have M1 : Hid (Miss n e p i j a 4 k 0) := miss_of H1.out (by have := G1.out; omega)
      by_cases m2 : E2 = 0 ∧ A2 = a
      · obtain ⟨rfl, rfl⟩ := m2
        have HV := hide (told_same hv.out H2.out)
        rcases G1.out with rfl | ⟨rfl, _⟩
        · have t1 : (A1 == A2) = false := by simpa using m1
          clear m1
          go_wp2_with fail
          refine (rnode_any _ _ _ _ _ _ _ _ _ H1).mono ?_
          rintro r w3 ⟨rfl, hb3⟩
          have hc3 := box_cells (u := w) (bstep HR.out hb3 HR.out.size)
          go_wp2_with fail
          refine (redge_any _ _ _ _ _ _ _ _ _ H2).mono ?_
          rintro r w4 ⟨rfl, hb4⟩
          go_wp2
          refine bodyPost_ret (four_results Tryd.results24 _ _ _) rfl ?_
          obtain ⟨e1, e2, e3⟩ := HV.out
          exact ⟨by simp [e1, e2, e3], bbox (bstep (bstep HR.out hb3 HR.out.size) hb4 (Nat.le_trans HR.out.size hb3.size))⟩
        · clear m1
          go_wp2_with fail
          refine (rnode_any _ _ _ _ _ _ _ _ _ H1).mono ?_
          rintro r w3 ⟨rfl, hb3⟩
          have hc3 := box_cells (u := w) (bstep HR.out hb3 HR.out.size)
          go_wp2_with fail
          refine (redge_any _ _ _ _ _ _ _ _ _ H2).mono ?_
          rintro r w4 ⟨rfl, hb4⟩
          go_wp2
          refine bodyPost_ret (four_results Tryd.results24 _ _ _) rfl ?_
          obtain ⟨e1, e2, e3⟩ := HV.out
          exact ⟨by simp [e1, e2, e3], bbox (bstep (bstep HR.out hb3 HR.out.size) hb4 (Nat.le_trans HR.out.size hb3.size))⟩
      have M2 : Hid (Miss n e p i j a 5 k 0) := miss_of H2.out (by have := G2.out; omega)
      have HM' : Hid (∀ m : Nat, m < k + 1 → Miss n e p i j a 4 m 0 ∧ Miss n e p i j a 5 m 0) := fun m hm => by
        by_cases hmk : m = k
        · subst hmk; exact ⟨M1.out, M2.out⟩
        · exact HM.out m (by omega)
      have ONE : (E1 == 0) = true ∧ (A1 == a) = false ∨ (E1 == 0) = false := by
        by_cases g : E1 = 0
        · left; exact ⟨by simpa using g, by have : A1 ≠ a := fun hh => m1 ⟨g, hh⟩; simpa using this⟩
        · right; simpa using g
      have TWO : (E2 == 0) = true ∧ (A2 == a) = false ∨ (E2 == 0) = false := by
        by_cases g : E2 = 0
        · left; exact ⟨by simpa using g, by have : A2 ≠ a := fun hh => m2 ⟨g, hh⟩; simpa using this⟩
        · right; simpa using g
      clear m1 m2
      rcases ONE with ⟨s1, t1⟩ | s1 <;> rcases TWO with ⟨s2, t2⟩ | s2
      all_goals
        go_wp2_with fail
        refine (rnode_any _ _ _ _ _ _ _ _ _ H1).mono ?_
        rintro r w3 ⟨rfl, hb3⟩
        have hc3 := box_cells (u := w) (bstep HR.out hb3 HR.out.size)
        go_wp2_with fail
        refine (redge_any _ _ _ _ _ _ _ _ _ H2).mono ?_
        rintro r w4 ⟨rfl, hb4⟩
        go_wp2
        go_roundw
        case rel => exact ⟨k + 1, by omega, by go_num, bstep (bstep HR.out hb3 HR.out.size) hb4 (Nat.le_trans HR.out.size hb3.size), HM'⟩
        case measure => simp [intOf]; omega
    · have HM65 : Hid (∀ m : Nat, m < 65 → Miss n e p i j a 4 m 0 ∧ Miss n e p i j a 5 m 0) := fun m hm => HM.out m (by omega)
      have k3 : decide ((k : Int) < 65) = false := by simp; omega
      go_wp2
      go_loopw [13] (fun c wr => ∃ q : Nat, 1 ≤ q ∧ q ≤ 4 ∧ c = .int .i64 q ∧ Boxed w wr n e p i j ∧ Hid (∀ x : Nat, 1 ≤ x → x < q → ∀ s : Nat, s < 64 → ∀ f : Nat, f < 5 → Miss n e p i j a x s f)) (fun c _ => 4 - (intOf c).toNat)
      case atStart => exact ⟨1, by omega, by omega, rfl, HR, fun x hx1 hx2 => absurd hx2 (by omega)⟩
      case round =>
        obtain ⟨q, hq1, hq4, rfl, HRq, HMq⟩ := hrel
        by_cases hlq : q ≤ 3
        · have q3 : decide ((q : Int) ≤ 3) = true := by simp; omega
          go_wp2
          go_loopw [71] (fun c wr => ∃ s : Nat, s ≤ 64 ∧ c = .int .i64 s ∧ Boxed w wr n e p i j ∧ Hid (∀ s' : Nat, s' < s → ∀ f : Nat, f < 5 → Miss n e p i j a q s' f)) (fun c _ => 64 - (intOf c).toNat)
          case atStart => exact ⟨0, by omega, rfl, HRq, fun s' hs' => absurd hs' (by omega)⟩
          case round =>
            obtain ⟨s, hs64, rfl, HRs, HMs⟩ := hrel
            by_cases hls : s < 64
            · have s3 : decide ((s : Int) < 64) = true := by simp; omega
              go_wp2
              go_loopw [74] (fun c wr => ∃ f : Nat, f ≤ 5 ∧ c = .int .i64 f ∧ Boxed w wr n e p i j ∧ Hid (∀ f' : Nat, f' < f → Miss n e p i j a q s f')) (fun c _ => 5 - (intOf c).toNat)
              case atStart => exact ⟨0, by omega, rfl, HRs, fun f' hf' => absurd hf' (by omega)⟩
              case round =>
                obtain ⟨f, hf5, rfl, HRf, HMf⟩ := hrel
                by_cases hlf : f < 5
                · have hcr := box_cells (u := w) HRf.out
                  obtain ⟨A1, E1, hS1⟩ := Fields.some n e p i j q s f
                  have H1 := hide hS1
                  have G1 := hide hS1.err
                  clear hS1
                  by_cases m1 : E1 = 0 ∧ A1 = a
                  · obtain ⟨rfl, rfl⟩ := m1
                    have HV := hide (told_same hv.out (stands_of_fields H1.out))
                    go_wp2_with fail
                    refine (rfield_any _ _ _ _ _ _ _ _ _ _ _ H1).mono ?_
                    rintro r w3 ⟨rfl, hb3⟩
                    go_wp2
                    refine bodyPost_ret (four_results Tryd.results24 _ _ _) rfl ?_
                    obtain ⟨e1, e2, e3⟩ := HV.out
                    exact ⟨by simp [e1, e2, e3], bbox (bstep HRf.out hb3 HRf.out.size)⟩
                  have M1 : Hid (Miss n e p i j a q s f) := miss_field (by omega) H1.out (by have := G1.out; omega)
                  have HM' : Hid (∀ f' : Nat, f' < f + 1 → Miss n e p i j a q s f') := fun f' hf' => by
                    by_cases hff : f' = f
                    · subst hff; exact M1.out
                    · exact HMf.out f' (by omega)
                  have ONE : (E1 == 0) = true ∧ (A1 == a) = false ∨ (E1 == 0) = false := by
                    by_cases g : E1 = 0
                    · left; exact ⟨by simpa using g, by have : A1 ≠ a := fun hh => m1 ⟨g, hh⟩; simpa using this⟩
                    · right; simpa using g
                  clear m1
                  rcases ONE with ⟨s1, t1⟩ | s1
                  all_goals
                    go_wp2_with fail
                    refine (rfield_any _ _ _ _ _ _ _ _ _ _ _ H1).mono ?_
                    rintro r w3 ⟨rfl, hb3⟩
                    go_wp2
                    go_roundw
                    case rel => exact ⟨f + 1, by omega, by go_num, bstep HRf.out hb3 HRf.out.size, HM'⟩
                    case measure => simp [intOf]; omega
                · obtain rfl : f = 5 := by omega
                  have HM' : Hid (∀ s' : Nat, s' < s + 1 → ∀ f : Nat, f < 5 → Miss n e p i j a q s' f) := fun s' hs' f hf => by
                    by_cases hss : s' = s
                    · subst hss; exact HMf.out f hf
                    · exact HMs.out s' (by omega) f hf
                  go_wp2
                  go_roundw
                  case rel => exact ⟨s + 1, by omega, by go_num, HRf, HM'⟩
                  case measure => simp [intOf]; omega
            · obtain rfl : s = 64 := by omega
              have HM' : Hid (∀ x : Nat, 1 ≤ x → x < q + 1 → ∀ s : Nat, s < 64 → ∀ f : Nat, f < 5 → Miss n e p i j a x s f) := fun x hx1 hx2 => by
                by_cases hxq : x = q
                · subst hxq; exact HMs.out
                · exact HMq.out x hx1 (by omega)
              go_wp2
              go_roundw
              case rel => exact ⟨q + 1, by omega, by omega, by go_num, HRs, HM'⟩
              case measure => simp [intOf]; omega
        · exfalso
          obtain rfl : q = 4 := by omega
          exact none_left hv.out (by omega) HM65.out HMq.out

theorem rwhere_any (n e p i j a v1 v2 v3 E : Int) (w : World) (h : Hid (Whats n e p i j a v1 v2 v3 E)) :
    Calls Tryd.prog 24 #[.agg #[.int .i64 n, .int .i64 e, .int .i64 p, .int .i64 i, .int .i64 j], .int .i64 a] w (Drew (.tuple #[.int .i64 v1, .int .i64 v2, .int .i64 v3, .int .i64 E]) w) := by
  rcases h.out with ⟨o, K, hK, h2, h3, e1, e2, e3, rfl⟩ | ⟨h1, rfl, rfl, rfl, rfl⟩
  · exact rwhere_yes n e p i j a v1 v2 v3 w o ⟨by have := (po_le o K hK).1; omega, in_size o a K hK h3⟩ h
  · by_cases g : Ok n e p i j
    · rcases h1 with h1 | h1
      · exact absurd g h1
      · exact rwhere_no n e p i j a w g h1
    · exact rwhere_bad n e p i j a w g

end Go.Proofs.YtknbllhkifigbaaDoor
