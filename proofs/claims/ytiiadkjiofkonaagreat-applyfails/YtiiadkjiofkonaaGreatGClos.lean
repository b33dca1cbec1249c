/- What the small functions tell that are handed to others. -/
import Derived.Test.YtiiadkjiofkonaaGreatGStay
import Derived.WalkKit
import Derived.Below
import Derived.Deep.QuietTactic
import Derived.BigQuiet
import Derived.Shelf.Abstract
namespace Go.Proofs.YtiiadkjiofkonaaGreat
open Go.RowKit
set_option linter.unusedVariables false

theorem edgeNumber_any (a b d : Int) (w : World) : Calls Tryz.prog 83 #[.agg #[.int .i64 a, .int .i64 b, .int .i64 d]] w (Drew (.int .i64 a) w) := by
  go_enter Tryz.func83, Tryz.ntmps83
  go_wp2
  go_ret
  exact ⟨rfl, (Below.refl _ _).alloc (Nat.le_refl _) _⟩

theorem key_any (a b : Int) (w : World) : Calls Tryz.prog 90 #[.agg #[.int .i64 a, .int .i64 b]] w (Drew (.int .i64 a) w) := by
  go_enter Tryz.func90, Tryz.ntmps90
  go_wp2
  go_ret
  exact ⟨rfl, (Below.refl _ _).alloc (Nat.le_refl _) _⟩

theorem nodeNumber_any (a : Int) (A : Option Addr) (n c : Nat) (w : World) : Calls Tryz.prog 87 #[.agg #[.int .i64 a, .slice A n c]] w (Drew (.int .i64 a) w) := by
  go_enter Tryz.func87, Tryz.ntmps87
  go_wp2
  go_ret
  exact ⟨rfl, (Below.refl _ _).alloc (Nat.le_refl _) _⟩

theorem cutP_any (a b d x : Int) (q : Bool) (g : Nat) (u : World) (hg : g < u.heap.size) (hc : u.cell? ⟨g, 0, none⟩ = some (.int .i64 x)) (hq : Hid ((a != x) = q)) : Calls Tryz.prog 85 #[.agg #[.int .i64 a, .int .i64 b, .int .i64 d], .pointer (some ⟨g, 0, none⟩)] u (Drew (.bool q) u) := by
  have hne : g ≠ u.heap.size := by omega
  have hq' := hq.out
  go_enter Tryz.func85, Tryz.ntmps85
  go_wp2
  all_goals (go_ret; exact ⟨by simp_all, (Below.refl _ _).alloc (Nat.le_refl _) _⟩)

theorem fromP_any (a b d x : Int) (q : Bool) (g : Nat) (u : World) (hg : g < u.heap.size) (hc : u.cell? ⟨g, 0, none⟩ = some (.int .i64 x)) (hq : Hid ((b == x) = q)) : Calls Tryz.prog 93 #[.agg #[.int .i64 a, .int .i64 b, .int .i64 d], .pointer (some ⟨g, 0, none⟩)] u (Drew (.bool q) u) := by
  have hne : g ≠ u.heap.size := by omega
  have hq' := hq.out
  go_enter Tryz.func93, Tryz.ntmps93
  go_wp2
  all_goals (go_ret; exact ⟨by simp_all, (Below.refl _ _).alloc (Nat.le_refl _) _⟩)

theorem toP_any (a b d x : Int) (q : Bool) (g : Nat) (u : World) (hg : g < u.heap.size) (hc : u.cell? ⟨g, 0, none⟩ = some (.int .i64 x)) (hq : Hid ((d == x) = q)) : Calls Tryz.prog 94 #[.agg #[.int .i64 a, .int .i64 b, .int .i64 d], .pointer (some ⟨g, 0, none⟩)] u (Drew (.bool q) u) := by
  have hne : g ≠ u.heap.size := by omega
  have hq' := hq.out
  go_enter Tryz.func94, Tryz.ntmps94
  go_wp2
  all_goals (go_ret; exact ⟨by simp_all, (Below.refl _ _).alloc (Nat.le_refl _) _⟩)

theorem delP_any (a b x : Int) (q : Bool) (g : Nat) (u : World) (hg : g < u.heap.size) (hc : u.cell? ⟨g, 0, none⟩ = some (.int .i64 x)) (hq : Hid ((a != x) = q)) : Calls Tryz.prog 92 #[.agg #[.int .i64 a, .int .i64 b], .pointer (some ⟨g, 0, none⟩)] u (Drew (.bool q) u) := by
  have hne : g ≠ u.heap.size := by omega
  have hq' := hq.out
  go_enter Tryz.func92, Tryz.ntmps92
  go_wp2
  all_goals (go_ret; exact ⟨by simp_all, (Below.refl _ _).alloc (Nat.le_refl _) _⟩)

theorem belowP_any (a b x : Int) (q : Bool) (g : Nat) (u : World) (hg : g < u.heap.size) (hc : u.cell? ⟨g, 0, none⟩ = some (.int .i64 x)) (hq : Hid ((decide (a < x)) = q)) : Calls Tryz.prog 105 #[.agg #[.int .i64 a, .int .i64 b], .pointer (some ⟨g, 0, none⟩)] u (Drew (.bool q) u) := by
  have hne : g ≠ u.heap.size := by omega
  have hq' := hq.out
  go_enter Tryz.func105, Tryz.ntmps105
  go_wp2
  all_goals (go_ret; exact ⟨by simp_all, (Below.refl _ _).alloc (Nat.le_refl _) _⟩)

theorem aboveP_any (a b x : Int) (q : Bool) (g : Nat) (u : World) (hg : g < u.heap.size) (hc : u.cell? ⟨g, 0, none⟩ = some (.int .i64 x)) (hq : Hid ((decide (x < a)) = q)) : Calls Tryz.prog 106 #[.agg #[.int .i64 a, .int .i64 b], .pointer (some ⟨g, 0, none⟩)] u (Drew (.bool q) u) := by
  have hne : g ≠ u.heap.size := by omega
  have hq' := hq.out
  go_enter Tryz.func106, Tryz.ntmps106
  go_wp2
  all_goals (go_ret; exact ⟨by simp_all, (Below.refl _ _).alloc (Nat.le_refl _) _⟩)

theorem withoutP_any (a : Int) (A : Option Addr) (n c : Nat) (x : Int) (q : Bool) (g : Nat) (u : World) (hg : g < u.heap.size) (hc : u.cell? ⟨g, 0, none⟩ = some (.int .i64 x)) (hq : Hid ((a != x) = q)) : Calls Tryz.prog 109 #[.agg #[.int .i64 a, .slice A n c], .pointer (some ⟨g, 0, none⟩)] u (Drew (.bool q) u) := by
  have hne : g ≠ u.heap.size := by omega
  have hq' := hq.out
  go_enter Tryz.func109, Tryz.ntmps109
  go_wp2
  all_goals (go_ret; exact ⟨by simp_all, (Below.refl _ _).alloc (Nat.le_refl _) _⟩)

theorem dropP_any (a b d x : Int) (q : Bool) (g : Nat) (u : World) (hg : g < u.heap.size) (hc : u.cell? ⟨g, 0, none⟩ = some (.int .i64 x)) (hq : Hid ((b != x && d != x) = q)) : Calls Tryz.prog 99 #[.agg #[.int .i64 a, .int .i64 b, .int .i64 d], .pointer (some ⟨g, 0, none⟩)] u (Drew (.bool q) u) := by
  have hne : g ≠ u.heap.size := by omega
  have hq' := hq.out
  go_enter Tryz.func99, Tryz.ntmps99
  by_cases e : b = x
  · have t1 : (b != x) = false := by simpa using e
    rw [t1] at hq'
    go_wp2
    go_ret
    exact ⟨by simp_all, (Below.refl _ _).alloc (Nat.le_refl _) _⟩
  · have t1 : (b != x) = true := by simpa using e
    rw [t1] at hq'
    go_wp2
    go_ret
    exact ⟨by simp_all, (Below.refl _ _).alloc (Nat.le_refl _) _⟩

theorem size78 : (Tryz.prog.info? 85).map (·.size) = some 2 := by kernel_rfl

theorem outE_any (a b d : Int) (w : World) : Calls Tryz.prog 96 #[.agg #[.int .i64 a, .int .i64 b, .int .i64 d]] w (Drew (.agg #[.int .i64 a, .int .i64 d]) w) := by
  go_enter Tryz.func96, Tryz.ntmps96
  go_wp2
  exact bodyPost_ret (results_cell_row rfl _ _ (w.heap.size + 1) 85 _ (0, 0) _ rfl (heap_alloc2_new w _ (.cells #[.int .i64 a, .int .i64 d] 85)) Tryz.underlying85 rfl size78) rfl ⟨rfl, ((Below.refl _ _).alloc (Nat.le_refl _) _).alloc (by simp) _⟩

theorem inE_any (a b d : Int) (w : World) : Calls Tryz.prog 97 #[.agg #[.int .i64 a, .int .i64 b, .int .i64 d]] w (Drew (.agg #[.int .i64 a, .int .i64 b]) w) := by
  go_enter Tryz.func97, Tryz.ntmps97
  go_wp2
  exact bodyPost_ret (results_cell_row rfl _ _ (w.heap.size + 1) 85 _ (0, 0) _ rfl (heap_alloc2_new w _ (.cells #[.int .i64 a, .int .i64 b] 85)) Tryz.underlying85 rfl size78) rfl ⟨rfl, ((Below.refl _ _).alloc (Nat.le_refl _) _).alloc (by simp) _⟩

theorem mv_any (z b a : Int) (gb ga : Nat) (u : World) (hb : u.cell? ⟨gb, 0, none⟩ = some (.int .i64 b)) (ha : u.cell? ⟨ga, 0, none⟩ = some (.int .i64 a)) : Calls Tryz.prog 114 #[.int .i64 z, .pointer (some ⟨gb, 0, none⟩), .pointer (some ⟨ga, 0, none⟩)] u (fun e w' => e = .returned (.int .i64 (if z = b then a else z)) ∧ w' = u) := by
  by_cases e : z = b
  · have t1 : (z == b) = true := by simpa using e
    rw [if_pos e]
    go_enter Tryz.func114, Tryz.ntmps114
    go_wp2
    go_ret
    exact ⟨rfl, rfl⟩
  · have t1 : (z == b) = false := by simpa using e
    rw [if_neg e]
    go_enter Tryz.func114, Tryz.ntmps114
    go_wp2
    go_ret
    exact ⟨rfl, rfl⟩

end Go.Proofs.YtiiadkjiofkonaaGreat
