/- Where things stand, as plain numbers: the six parts of the memory, what each holds, and the table of lengths. No conditions. -/
import Derived.Test.YtknbllhkifigbaaDoorWords
namespace Go.Proofs.YtknbllhkifigbaaDoor
open Go.RowKit

/-- The configuration may be. -/
def Ok (n e p i j : Int) : Prop := (1 ≤ n ∧ n ≤ 64) ∧ (1 ≤ e ∧ e ≤ 64) ∧ (1 ≤ p ∧ p ≤ 64) ∧ (1 ≤ i ∧ i ≤ 64) ∧ (1 ≤ j ∧ j ≤ 64)

/-- How many words a thing takes up. -/
def lens : Nat → Int
  | 0 => 1
  | 1 => 4
  | 2 => 5
  | 3 => 3
  | 4 => 1
  | 5 => 1
  | _ => 0
/-- What the part k holds. -/
def pw : Nat → Nat
  | 0 => 0
  | 1 => 4
  | 2 => 5
  | 3 => 1
  | 4 => 2
  | 5 => 3
  | _ => 0
/-- The first number of the part k. -/
def pf : Nat → Int
  | 0 => 1
  | 1 => 1
  | 2 => 1
  | _ => 0
/-- How many things the part k has. -/
def pc (n e p i j : Int) : Nat → Int
  | 0 => 2
  | 1 => i
  | 2 => j
  | 3 => n
  | 4 => e
  | 5 => p
  | _ => 0
/-- How many words each thing of the part k has. -/
def pl : Nat → Int
  | 0 => 1
  | 1 => 1
  | 2 => 1
  | 3 => 4
  | 4 => 5
  | 5 => 3
  | _ => 0
/-- Where the part k begins. -/
def po (n e p i j : Int) : Nat → Int
  | 0 => 0
  | 1 => 2
  | 2 => 2 + i
  | 3 => 2 + i + j
  | 4 => 2 + i + j + 4 * n
  | 5 => 2 + i + j + 4 * n + 5 * e
  | _ => 2 + i + j + 4 * n + 5 * e + 3 * p

theorem six {P : Nat → Prop} (h0 : P 0) (h1 : P 1) (h2 : P 2) (h3 : P 3) (h4 : P 4) (h5 : P 5) (k : Nat) (hk : k < 6) : P k := by
  match k, hk with
  | 0, _ => exact h0
  | 1, _ => exact h1
  | 2, _ => exact h2
  | 3, _ => exact h3
  | 4, _ => exact h4
  | 5, _ => exact h5

theorem pl_lens (k : Nat) (hk : k < 6) : lens (pw k) = pl k := six (P := fun k => lens (pw k) = pl k) rfl rfl rfl rfl rfl rfl k hk
theorem pw_lt (k : Nat) (hk : k < 6) : pw k < 6 := six (P := fun k => pw k < 6) (by decide) (by decide) (by decide) (by decide) (by decide) (by decide) k hk
theorem pl_le (k : Nat) (hk : k < 6) : 1 ≤ pl k ∧ pl k ≤ 5 := six (P := fun k => 1 ≤ pl k ∧ pl k ≤ 5) (by decide) (by decide) (by decide) (by decide) (by decide) (by decide) k hk
theorem pf_le (k : Nat) (hk : k < 6) : 0 ≤ pf k ∧ pf k ≤ 1 := six (P := fun k => 0 ≤ pf k ∧ pf k ≤ 1) (by decide) (by decide) (by decide) (by decide) (by decide) (by decide) k hk

section
variable {n e p i j : Int}
theorem pc_le (h : Ok n e p i j) (k : Nat) (hk : k < 6) : 1 ≤ pc n e p i j k ∧ pc n e p i j k ≤ 64 := by
  unfold Ok at h
  refine six (P := fun k => 1 ≤ pc n e p i j k ∧ pc n e p i j k ≤ 64) ?_ ?_ ?_ ?_ ?_ ?_ k hk <;> simp only [pc] <;> omega
theorem po_succ (k : Nat) (hk : k < 6) : po n e p i j (k + 1) = po n e p i j k + pc n e p i j k * pl k := by
  refine six (P := fun k => po n e p i j (k + 1) = po n e p i j k + pc n e p i j k * pl k) ?_ ?_ ?_ ?_ ?_ ?_ k hk <;> simp only [po, pc, pl] <;> omega
theorem po_le (h : Ok n e p i j) (k : Nat) (hk : k < 6) : 0 ≤ po n e p i j k ∧ po n e p i j k ≤ 898 := by
  unfold Ok at h
  refine six (P := fun k => 0 ≤ po n e p i j k ∧ po n e p i j k ≤ 898) ?_ ?_ ?_ ?_ ?_ ?_ k hk <;> simp only [po] <;> omega
theorem po_six : po n e p i j 6 = 2 + i + j + 4 * n + 5 * e + 3 * p := rfl
end

theorem mul_bd {a b : Int} (h0 : 0 ≤ a) (h1 : a ≤ 64) (g0 : 0 ≤ b) (g1 : b ≤ 5) : 0 ≤ a * b ∧ a * b ≤ 320 := by
  refine ⟨Int.mul_nonneg h0 g0, ?_⟩
  have := Int.mul_le_mul h1 g1 g0 (by omega)
  omega

/-- The table of lengths, as the program's text lays it. -/
def Tab (w : World) : Prop := 0 < w.heap.size ∧ ∀ k, k < 6 → w.cell? ⟨0, k, none⟩ = some (.int .i64 (lens k))

theorem Tab.below {w w' : World} (h : Tab w) (hb : Below w.heap.size w w') : Tab w' :=
  ⟨Nat.lt_of_lt_of_le h.1 hb.size, fun k hk => (hb.cell (p := ⟨0, k, none⟩) h.1).trans (h.2 k hk)⟩

theorem Tab.alloc {w : World} (h : Tab w) (o : Obj) : Tab (w.alloc o) := h.below ((Below.refl _ _).alloc (Nat.le_refl _) _)
theorem Tab.part {w : World} (h : Tab w) (k : Nat) (hk : k < 6) : w.cell? ⟨0, pw k, none⟩ = some (.int .i64 (pl k)) := by
  rw [← pl_lens k hk]; exact h.2 _ (pw_lt k hk)

end Go.Proofs.YtknbllhkifigbaaDoor
