/- What the document's answers for layer 3 tell: one contract each, whatever the arguments. -/
import Derived.Test.YtknbllhkifigbaaDoorMath
namespace Go.Proofs.YtknbllhkifigbaaDoor
open Go.RowKit
set_option linter.unusedVariables false

/-- The five numbers that are checked. -/
def cc (n e p i j : Int) : Nat → Int
  | 0 => n
  | 1 => e
  | 2 => p
  | 3 => i
  | _ => j

theorem five {P : Nat → Prop} (h0 : P 0) (h1 : P 1) (h2 : P 2) (h3 : P 3) (h4 : P 4) (k : Nat) (hk : k < 5) : P k := by
  match k, hk with
  | 0, _ => exact h0
  | 1, _ => exact h1
  | 2, _ => exact h2
  | 3, _ => exact h3
  | 4, _ => exact h4

theorem five_cell (w : World) (o : Obj) (n e p i j : Int) (k : Nat) (hk : k < 5) :
    ((w.alloc o).alloc (.cells #[.int .i64 n, .int .i64 e, .int .i64 p, .int .i64 i, .int .i64 j] 3)).cell? ⟨w.heap.size + 1, k, none⟩ = some (.int .i64 (cc n e p i j k)) := by
  rw [cell_of_row _ _ _ _ _ _ (heap_two w o _)]
  exact five (P := fun k => (#[Value.int .i64 n, Value.int .i64 e, Value.int .i64 p, Value.int .i64 i, Value.int .i64 j] : Array Value)[k]? = some (.int .i64 (cc n e p i j k))) rfl rfl rfl rfl rfl k hk

set_option maxHeartbeats 1000000 in
theorem rcheck_ok (n e p i j : Int) (w : World) (h : Hid (Ok n e p i j)) :
    Calls Tryd.prog 13 #[.agg #[.int .i64 n, .int .i64 e, .int .i64 p, .int .i64 i, .int .i64 j]] w (Drew (.int .i64 0) w) := by
  have hA : Hid (∀ k, k < 5 → 1 ≤ cc n e p i j k ∧ cc n e p i j k ≤ 64) := by
    have h' := h.out
    unfold Ok at h'
    exact five (P := fun k => 1 ≤ cc n e p i j k ∧ cc n e p i j k ≤ 64) (by simp only [cc]; omega) (by simp only [cc]; omega) (by simp only [cc]; omega) (by simp only [cc]; omega) (by simp only [cc]; omega)
  have HC : Hid (∀ o k, k < 5 → ((w.alloc o).alloc (.cells #[.int .i64 n, .int .i64 e, .int .i64 p, .int .i64 i, .int .i64 j] 3)).cell? ⟨w.heap.size + 1, k, none⟩ = some (.int .i64 (cc n e p i j k))) := fun o k hk => five_cell w o n e p i j k hk
  go_enter Tryd.func13, Tryd.ntmps13
  go_wp2
  go_loopw [17] (fun c wr => ∃ k : Nat, k ≤ 5 ∧ c = .int .i64 k ∧ Hid (Below w.heap.size w wr) ∧ Hid (∀ k, k < 5 → wr.cell? ⟨w.heap.size + 1, k, none⟩ = some (.int .i64 (cc n e p i j k)))) (fun c _ => 5 - (intOf c).toNat)
  case atStart => exact ⟨0, by omega, rfl, ((Below.refl _ _).alloc (Nat.le_refl _) _).alloc (by simp) _, fun k hk => HC.out _ k hk⟩
  case round =>
    obtain ⟨k, hk, rfl, HB, HR⟩ := hrel
    by_cases hlt : k < 5
    · have hi := HR.out k hlt
      obtain ⟨g1, g2⟩ := hA.out k hlt
      generalize cc n e p i j k = x at hi g1 g2
      have b1 : decide (x < 1) = false := by simp; omega
      have b2 : decide (64 < x) = false := by simp; omega
      go_wp2
      go_roundw
      case rel => exact ⟨k + 1, by omega, by go_num, HB, HR⟩
      case measure => simp [intOf]; omega
    · go_wp2
      go_ret
      exact ⟨rfl, HB.out⟩

set_option maxHeartbeats 1000000 in
theorem rcheck_no (n e p i j : Int) (w : World) (h : Hid (¬ Ok n e p i j)) :
    Calls Tryd.prog 13 #[.agg #[.int .i64 n, .int .i64 e, .int .i64 p, .int .i64 i, .int .i64 j]] w (Drew (.int .i64 1) w) := by
  have HC : Hid (∀ o k, k < 5 → ((w.alloc o).alloc (.cells #[.int .i64 n, .int .i64 e, .int .i64 p, .int .i64 i, .int .i64 j] 3)).cell? ⟨w.heap.size + 1, k, none⟩ = some (.int .i64 (cc n e p i j k))) := fun o k hk => five_cell w o n e p i j k hk
  go_enter Tryd.func13, Tryd.ntmps13
  go_wp2
  go_loopw [17] (fun c wr => ∃ k : Nat, k ≤ 5 ∧ c = .int .i64 k ∧ Hid (Below w.heap.size w wr) ∧ Hid (∀ k, k < 5 → wr.cell? ⟨w.heap.size + 1, k, none⟩ = some (.int .i64 (cc n e p i j k))) ∧ Hid (∀ m, m < k → 1 ≤ cc n e p i j m ∧ cc n e p i j m ≤ 64)) (fun c _ => 5 - (intOf c).toNat)
  case atStart => exact ⟨0, by omega, rfl, ((Below.refl _ _).alloc (Nat.le_refl _) _).alloc (by simp) _, fun k hk => HC.out _ k hk, fun m hm => absurd hm (by omega)⟩
  case round =>
    obtain ⟨k, hk, rfl, HB, HR, HA⟩ := hrel
    by_cases hlt : k < 5
    · have hi := HR.out k hlt
      by_cases g1 : cc n e p i j k < 1
      · generalize cc n e p i j k = x at hi g1
        have b1 : decide (x < 1) = true := by simpa using g1
        go_wp2
        go_ret
        exact ⟨rfl, HB.out⟩
      by_cases g2 : 64 < cc n e p i j k
      · generalize cc n e p i j k = x at hi g1 g2
        have b1 : decide (x < 1) = false := by simpa using g1
        have b2 : decide (64 < x) = true := by simpa using g2
        go_wp2
        go_ret
        exact ⟨rfl, HB.out⟩
      · have HA' : Hid (∀ m, m < k + 1 → 1 ≤ cc n e p i j m ∧ cc n e p i j m ≤ 64) := fun m hm => by
          by_cases hmk : m = k
          · subst hmk; omega
          · exact HA.out m (by omega)
        generalize cc n e p i j k = x at hi g1 g2
        have b1 : decide (x < 1) = false := by simpa using g1
        have b2 : decide (64 < x) = false := by simpa using g2
        go_wp2
        go_roundw
        case rel => exact ⟨k + 1, by omega, by go_num, HB, HR, HA'⟩
        case measure => simp [intOf]; omega
    · exfalso
      obtain rfl : k = 5 := by omega
      exact h.out ⟨HA.out 0 (by omega), HA.out 1 (by omega), HA.out 2 (by omega), HA.out 3 (by omega), HA.out 4 (by omega)⟩

set_option maxHeartbeats 400000 in
theorem rsize_ok (n e p i j : Int) (w : World) (h : Hid (Ok n e p i j)) :
    Calls Tryd.prog 15 #[.agg #[.int .i64 n, .int .i64 e, .int .i64 p, .int .i64 i, .int .i64 j]] w (Drew (.int .i64 (po n e p i j 6)) w) := by
  have ho := h.out
  unfold Ok at ho
  obtain ⟨⟨x1, x2⟩, ⟨x3, x4⟩, ⟨x5, x6⟩, ⟨x7, x8⟩, ⟨x9, x10⟩⟩ := ho
  go_enter Tryd.func15, Tryd.ntmps15
  go_wp2_with fail
  refine (rcheck_ok _ _ _ _ _ _ h).mono ?_
  rintro r w1 ⟨rfl, hb1⟩
  have hc1 := old_cells (hb1)
  have hf1 := old_marks (hb1)
  go_wp2
  go_ret
  exact ⟨rfl, bbox hb1⟩

set_option maxHeartbeats 400000 in
theorem rsize_no (n e p i j : Int) (w : World) (h : Hid (¬ Ok n e p i j)) :
    Calls Tryd.prog 15 #[.agg #[.int .i64 n, .int .i64 e, .int .i64 p, .int .i64 i, .int .i64 j]] w (Drew (.int .i64 0) w) := by
  go_enter Tryd.func15, Tryd.ntmps15
  go_wp2_with fail
  refine (rcheck_no _ _ _ _ _ _ h).mono ?_
  rintro r w1 ⟨rfl, hb1⟩
  go_wp2
  go_ret
  exact ⟨rfl, bbox hb1⟩

set_option maxHeartbeats 400000 in
theorem rnode_any (n e p i j m A E : Int) (w : World) (h : Hid (Stands n e p i j 4 m 0 A E)) :
    Calls Tryd.prog 18 #[.agg #[.int .i64 n, .int .i64 e, .int .i64 p, .int .i64 i, .int .i64 j], .int .i64 m] w (Drew (.tuple #[.int .i64 A, .int .i64 E]) w) := by
  rcases stands4 h.out with ⟨ho, h1, h2, rfl, rfl⟩ | ⟨hn, rfl, rfl⟩
  · have HO := hide ho
    unfold Ok at ho
    obtain ⟨⟨x1, x2⟩, ⟨x3, x4⟩, ⟨x5, x6⟩, ⟨x7, x8⟩, ⟨x9, x10⟩⟩ := ho
    have b1 : decide (m < 1) = false := by simpa using h1
    have b2 : decide (i < m) = false := by simpa using h2
    go_enter Tryd.func18, Tryd.ntmps18
    go_wp2_with fail
    refine (rcheck_ok _ _ _ _ _ _ HO).mono ?_
    rintro r w1 ⟨rfl, hb1⟩
    have hc1 := old_cells (hb1)
    have hf1 := old_marks (hb1)
    go_wp2
    go_ret2
    exact ⟨rfl, bbox hb1⟩
  · by_cases ho : Ok n e p i j
    · have HO := hide ho
      clear ho
      by_cases c1 : m < 1
      · have b1 : decide (m < 1) = true := by simpa using c1
        clear hn
        go_enter Tryd.func18, Tryd.ntmps18
        go_wp2_with fail
        refine (rcheck_ok _ _ _ _ _ _ HO).mono ?_
        rintro r w1 ⟨rfl, hb1⟩
        have hc1 := old_cells (hb1)
        have hf1 := old_marks (hb1)
        go_wp2
        go_ret2
        exact ⟨rfl, bbox hb1⟩
      · have c2 : i < m := by
          rcases hn with hn | hn
          · exact absurd HO.out hn
          · omega
        have b1 : decide (m < 1) = false := by simpa using c1
        have b2 : decide (i < m) = true := by simpa using c2
        clear hn
        go_enter Tryd.func18, Tryd.ntmps18
        go_wp2_with fail
        refine (rcheck_ok _ _ _ _ _ _ HO).mono ?_
        rintro r w1 ⟨rfl, hb1⟩
        have hc1 := old_cells (hb1)
        have hf1 := old_marks (hb1)
        go_wp2
        go_ret2
        exact ⟨rfl, bbox hb1⟩
    · have HO := hide ho
      clear ho hn
      go_enter Tryd.func18, Tryd.ntmps18
      go_wp2_with fail
      refine (rcheck_no _ _ _ _ _ _ HO).mono ?_
      rintro r w1 ⟨rfl, hb1⟩
      go_wp2
      go_ret2
      exact ⟨rfl, bbox hb1⟩

set_option maxHeartbeats 400000 in
theorem redge_any (n e p i j m A E : Int) (w : World) (h : Hid (Stands n e p i j 5 m 0 A E)) :
    Calls Tryd.prog 20 #[.agg #[.int .i64 n, .int .i64 e, .int .i64 p, .int .i64 i, .int .i64 j], .int .i64 m] w (Drew (.tuple #[.int .i64 A, .int .i64 E]) w) := by
  rcases stands5 h.out with ⟨ho, h1, h2, rfl, rfl⟩ | ⟨hn, rfl, rfl⟩
  · have HO := hide ho
    unfold Ok at ho
    obtain ⟨⟨x1, x2⟩, ⟨x3, x4⟩, ⟨x5, x6⟩, ⟨x7, x8⟩, ⟨x9, x10⟩⟩ := ho
    have b1 : decide (m < 1) = false := by simpa using h1
    have b2 : decide (j < m) = false := by simpa using h2
    go_enter Tryd.func20, Tryd.ntmps20
    go_wp2_with fail
    refine (rcheck_ok _ _ _ _ _ _ HO).mono ?_
    rintro r w1 ⟨rfl, hb1⟩
    have hc1 := old_cells (hb1)
    have hf1 := old_marks (hb1)
    go_wp2
    go_ret2
    exact ⟨rfl, bbox hb1⟩
  · by_cases ho : Ok n e p i j
    · have HO := hide ho
      clear ho
      by_cases c1 : m < 1
      · have b1 : decide (m < 1) = true := by simpa using c1
        clear hn
        go_enter Tryd.func20, Tryd.ntmps20
        go_wp2_with fail
        refine (rcheck_ok _ _ _ _ _ _ HO).mono ?_
        rintro r w1 ⟨rfl, hb1⟩
        have hc1 := old_cells (hb1)
        have hf1 := old_marks (hb1)
        go_wp2
        go_ret2
        exact ⟨rfl, bbox hb1⟩
      · have c2 : j < m := by
          rcases hn with hn | hn
          · exact absurd HO.out hn
          · omega
        have b1 : decide (m < 1) = false := by simpa using c1
        have b2 : decide (j < m) = true := by simpa using c2
        clear hn
        go_enter Tryd.func20, Tryd.ntmps20
        go_wp2_with fail
        refine (rcheck_ok _ _ _ _ _ _ HO).mono ?_
        rintro r w1 ⟨rfl, hb1⟩
        have hc1 := old_cells (hb1)
        have hf1 := old_marks (hb1)
        go_wp2
        go_ret2
        exact ⟨rfl, bbox hb1⟩
    · have HO := hide ho
      clear ho hn
      go_enter Tryd.func20, Tryd.ntmps20
      go_wp2_with fail
      refine (rcheck_no _ _ _ _ _ _ HO).mono ?_
      rintro r w1 ⟨rfl, hb1⟩
      go_wp2
      go_ret2
      exact ⟨rfl, bbox hb1⟩

set_option maxHeartbeats 400000 in
theorem cap_is (n e p i j : Int) (k : Nat) (w : World) (h1 : 1 ≤ k) (h3 : k ≤ 3) :
    Calls Tryd.prog 29 #[.agg #[.int .i64 n, .int .i64 e, .int .i64 p, .int .i64 i, .int .i64 j], .int .i64 (k : Int)] w (Drew (.tuple #[.int .i64 (pc n e p i j (k + 2)), .int .i64 (pl (k + 2))]) w) := by
  match k, h1, h3 with
  | 1, _, _ =>
    show Calls Tryd.prog 29 #[.agg #[.int .i64 n, .int .i64 e, .int .i64 p, .int .i64 i, .int .i64 j], .int .i64 1] w (Drew (.tuple #[.int .i64 n, .int .i64 4]) w)
    go_enter Tryd.func29, Tryd.ntmps29
    go_wp2
    go_ret2
    exact ⟨rfl, (Below.refl _ _).alloc (Nat.le_refl _) _⟩
  | 2, _, _ =>
    show Calls Tryd.prog 29 #[.agg #[.int .i64 n, .int .i64 e, .int .i64 p, .int .i64 i, .int .i64 j], .int .i64 2] w (Drew (.tuple #[.int .i64 e, .int .i64 5]) w)
    go_enter Tryd.func29, Tryd.ntmps29
    go_wp2
    go_ret2
    exact ⟨rfl, (Below.refl _ _).alloc (Nat.le_refl _) _⟩
  | 3, _, _ =>
    show Calls Tryd.prog 29 #[.agg #[.int .i64 n, .int .i64 e, .int .i64 p, .int .i64 i, .int .i64 j], .int .i64 3] w (Drew (.tuple #[.int .i64 p, .int .i64 3]) w)
    go_enter Tryd.func29, Tryd.ntmps29
    go_wp2
    go_ret2
    exact ⟨rfl, (Below.refl _ _).alloc (Nat.le_refl _) _⟩

set_option maxHeartbeats 400000 in
theorem cap_no (n e p i j x : Int) (w : World) (h : Hid (x < 1 ∨ 3 < x)) :
    Calls Tryd.prog 29 #[.agg #[.int .i64 n, .int .i64 e, .int .i64 p, .int .i64 i, .int .i64 j], .int .i64 x] w (Drew (.tuple #[.int .i64 0, .int .i64 0]) w) := by
  have b1 : (x == 1) = false := by have := h.out; simp; omega
  have b2 : (x == 2) = false := by have := h.out; simp; omega
  have b3 : (x == 3) = false := by have := h.out; simp; omega
  go_enter Tryd.func29, Tryd.ntmps29
  go_wp2
  go_ret2
  exact ⟨rfl, (Below.refl _ _).alloc (Nat.le_refl _) _⟩

end Go.Proofs.YtknbllhkifigbaaDoor
