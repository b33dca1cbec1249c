/- What layer 3's Check tells, the code's and the document's. -/
import Derived.Test.YtiiadkjiofkonaaGreatAB9
import Derived.WalkKit
import Derived.Deep.QuietTactic
import Derived.BigQuiet
namespace Go.Proofs.YtiiadkjiofkonaaGreat.Place
open Go.RowKit
set_option linter.unusedVariables false
set_option maxRecDepth 100000

theorem three {P : Nat → Prop} (h0 : P 0) (h1 : P 1) (h2 : P 2) (k : Nat) (hk : k < 3) : P k := by
  match k, hk with
  | 0, _ => exact h0
  | 1, _ => exact h1
  | 2, _ => exact h2
def Ok (n e p i j : Int) : Prop := (1 ≤ n ∧ n ≤ 64) ∧ (1 ≤ e ∧ e ≤ 64) ∧ (1 ≤ p ∧ p ≤ 64) ∧ (1 ≤ i ∧ i ≤ 64) ∧ (1 ≤ j ∧ j ≤ 64)
/-- The first numbers that are checked. -/
def ca (n e p : Int) : Nat → Int
  | 0 => n
  | 1 => e
  | _ => p
def cb (i j : Int) : Nat → Int
  | 0 => i
  | _ => j
/-- The five numbers that are checked. -/
def cc (n e p i j : Int) : Nat → Int
  | 0 => n
  | 1 => e
  | 2 => p
  | 3 => i
  | _ => j

theorem five {P : Nat → Prop} (h0 : P 0) (h1 : P 1) (h2 : P 2) (h3 : P 3) (h4 : P 4) (k : Nat) (hk : k < 5) : P k := by
  match k, hk with
  | 0, _ => exact h0
  | 1, _ => exact h1
  | 2, _ => exact h2
  | 3, _ => exact h3
  | 4, _ => exact h4

theorem five_cell (w : World) (o : Obj) (n e p i j : Int) (k : Nat) (hk : k < 5) :
    ((w.alloc o).alloc (.cells #[.int .i64 n, .int .i64 e, .int .i64 p, .int .i64 i, .int .i64 j] 3)).cell? ⟨w.heap.size + 1, k, none⟩ = some (.int .i64 (cc n e p i j k)) := by
  rw [cell_of_row _ _ _ _ _ _ (heap_alloc2_new w o _)]
  exact five (P := fun k => (#[Value.int .i64 n, Value.int .i64 e, Value.int .i64 p, Value.int .i64 i, Value.int .i64 j] : Array Value)[k]? = some (.int .i64 (cc n e p i j k))) rfl rfl rfl rfl rfl k hk

set_option maxHeartbeats 1000000 in
theorem rcheck_ok (n e p i j : Int) (w : World) (h : Hid (Ok n e p i j)) :
    Calls Tryz.prog 21 #[.agg #[.int .i64 n, .int .i64 e, .int .i64 p, .int .i64 i, .int .i64 j]] w (Drew (.int .i64 0) w) := by
  have hA : Hid (∀ k, k < 5 → 1 ≤ cc n e p i j k ∧ cc n e p i j k ≤ 64) := by
    have h' := h.out
    unfold Ok at h'
    exact five (P := fun k => 1 ≤ cc n e p i j k ∧ cc n e p i j k ≤ 64) (by simp only [cc]; omega) (by simp only [cc]; omega) (by simp only [cc]; omega) (by simp only [cc]; omega) (by simp only [cc]; omega)
  have HC : Hid (∀ o k, k < 5 → ((w.alloc o).alloc (.cells #[.int .i64 n, .int .i64 e, .int .i64 p, .int .i64 i, .int .i64 j] 3)).cell? ⟨w.heap.size + 1, k, none⟩ = some (.int .i64 (cc n e p i j k))) := fun o k hk => five_cell w o n e p i j k hk
  go_enter Tryz.func21, Tryz.ntmps21
  go_wp2
  go_loopw [17] (fun c wr => ∃ k : Nat, k ≤ 5 ∧ c = .int .i64 k ∧ Hid (Below w.heap.size w wr) ∧ Hid (∀ k, k < 5 → wr.cell? ⟨w.heap.size + 1, k, none⟩ = some (.int .i64 (cc n e p i j k)))) (fun c _ => 5 - (intOf c).toNat)
  case atStart => exact ⟨0, by omega, rfl, ((Below.refl _ _).alloc (Nat.le_refl _) _).alloc (by simp) _, fun k hk => HC.out _ k hk⟩
  case round =>
    obtain ⟨k, hk, rfl, HB, HR⟩ := hrel
    by_cases hlt : k < 5
    · have hi := HR.out k hlt
      obtain ⟨g1, g2⟩ := hA.out k hlt
      generalize cc n e p i j k = x at hi g1 g2
      have b1 : decide (x < 1) = false := by simp; omega
      have b2 : decide (64 < x) = false := by simp; omega
      go_wp2
      go_roundw
      case rel => exact ⟨k + 1, by omega, by go_num, HB, HR⟩
      case measure => simp [intOf]; omega
    · go_wp2
      go_ret
      exact ⟨rfl, HB.out⟩

set_option maxHeartbeats 1000000 in
theorem rcheck_no (n e p i j : Int) (w : World) (h : Hid (¬ Ok n e p i j)) :
    Calls Tryz.prog 21 #[.agg #[.int .i64 n, .int .i64 e, .int .i64 p, .int .i64 i, .int .i64 j]] w (Drew (.int .i64 1) w) := by
  have HC : Hid (∀ o k, k < 5 → ((w.alloc o).alloc (.cells #[.int .i64 n, .int .i64 e, .int .i64 p, .int .i64 i, .int .i64 j] 3)).cell? ⟨w.heap.size + 1, k, none⟩ = some (.int .i64 (cc n e p i j k))) := fun o k hk => five_cell w o n e p i j k hk
  go_enter Tryz.func21, Tryz.ntmps21
  go_wp2
  go_loopw [17] (fun c wr => ∃ k : Nat, k ≤ 5 ∧ c = .int .i64 k ∧ Hid (Below w.heap.size w wr) ∧ Hid (∀ k, k < 5 → wr.cell? ⟨w.heap.size + 1, k, none⟩ = some (.int .i64 (cc n e p i j k))) ∧ Hid (∀ m, m < k → 1 ≤ cc n e p i j m ∧ cc n e p i j m ≤ 64)) (fun c _ => 5 - (intOf c).toNat)
  case atStart => exact ⟨0, by omega, rfl, ((Below.refl _ _).alloc (Nat.le_refl _) _).alloc (by simp) _, fun k hk => HC.out _ k hk, fun m hm => absurd hm (by omega)⟩
  case round =>
    obtain ⟨k, hk, rfl, HB, HR, HA⟩ := hrel
    by_cases hlt : k < 5
    · have hi := HR.out k hlt
      by_cases g1 : cc n e p i j k < 1
      · generalize cc n e p i j k = x at hi g1
        have b1 : decide (x < 1) = true := by simpa using g1
        go_wp2
        go_ret
        exact ⟨rfl, HB.out⟩
      by_cases g2 : 64 < cc n e p i j k
      · generalize cc n e p i j k = x at hi g1 g2
        have b1 : decide (x < 1) = false := by simpa using g1
        have b2 : decide (64 < x) = true := by simpa using g2
        go_wp2
        go_ret
        exact ⟨rfl, HB.out⟩
      · have HA' : Hid (∀ m, m < k + 1 → 1 ≤ cc n e p i j m ∧ cc n e p i j m ≤ 64) := fun m hm => by
          by_cases hmk : m = k
          · subst hmk; omega
          · exact HA.out m (by omega)
        generalize cc n e p i j k = x at hi g1 g2
        have b1 : decide (x < 1) = false := by simpa using g1
        have b2 : decide (64 < x) = false := by simpa using g2
        go_wp2
        go_roundw
        case rel => exact ⟨k + 1, by omega, by go_num, HB, HR, HA'⟩
        case measure => simp [intOf]; omega
    · exfalso
      obtain rfl : k = 5 := by omega
      exact h.out ⟨HA.out 0 (by omega), HA.out 1 (by omega), HA.out 2 (by omega), HA.out 3 (by omega), HA.out 4 (by omega)⟩

end Go.Proofs.YtiiadkjiofkonaaGreat.Place
