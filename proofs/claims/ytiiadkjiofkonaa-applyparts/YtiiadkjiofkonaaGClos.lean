/- What the small functions tell that are handed to others. -/
import Derived.Test.YtiiadkjiofkonaaGStay
import Derived.WalkKit
import Derived.Below
import Derived.Deep.QuietTactic
import Derived.BigQuiet
import Derived.Shelf.Abstract
namespace Go.Proofs.Ytiiadkjiofkonaa
open Go.RowKit
set_option linter.unusedVariables false

theorem edgeNumber_any (a b d : Int) (w : World) : Calls Try.prog 57 #[.agg #[.int .i64 a, .int .i64 b, .int .i64 d]] w (Drew (.int .i64 a) w) := by
  go_enter Try.func57, Try.ntmps57
  go_wp2
  go_ret
  exact ⟨rfl, (Below.refl _ _).alloc (Nat.le_refl _) _⟩

theorem key_any (a b : Int) (w : World) : Calls Try.prog 75 #[.agg #[.int .i64 a, .int .i64 b]] w (Drew (.int .i64 a) w) := by
  go_enter Try.func75, Try.ntmps75
  go_wp2
  go_ret
  exact ⟨rfl, (Below.refl _ _).alloc (Nat.le_refl _) _⟩

theorem nodeNumber_any (a : Int) (A : Option Addr) (n c : Nat) (w : World) : Calls Try.prog 64 #[.agg #[.int .i64 a, .slice A n c]] w (Drew (.int .i64 a) w) := by
  go_enter Try.func64, Try.ntmps64
  go_wp2
  go_ret
  exact ⟨rfl, (Below.refl _ _).alloc (Nat.le_refl _) _⟩

theorem cutP_any (a b d x : Int) (q : Bool) (g : Nat) (u : World) (hg : g < u.heap.size) (hc : u.cell? ⟨g, 0, none⟩ = some (.int .i64 x)) (hq : Hid ((a != x) = q)) : Calls Try.prog 59 #[.agg #[.int .i64 a, .int .i64 b, .int .i64 d], .pointer (some ⟨g, 0, none⟩)] u (Drew (.bool q) u) := by
  have hne : g ≠ u.heap.size := by omega
  have hq' := hq.out
  go_enter Try.func59, Try.ntmps59
  go_wp2
  all_goals (go_ret; exact ⟨by simp_all, (Below.refl _ _).alloc (Nat.le_refl _) _⟩)

theorem fromP_any (a b d x : Int) (q : Bool) (g : Nat) (u : World) (hg : g < u.heap.size) (hc : u.cell? ⟨g, 0, none⟩ = some (.int .i64 x)) (hq : Hid ((b == x) = q)) : Calls Try.prog 67 #[.agg #[.int .i64 a, .int .i64 b, .int .i64 d], .pointer (some ⟨g, 0, none⟩)] u (Drew (.bool q) u) := by
  have hne : g ≠ u.heap.size := by omega
  have hq' := hq.out
  go_enter Try.func67, Try.ntmps67
  go_wp2
  all_goals (go_ret; exact ⟨by simp_all, (Below.refl _ _).alloc (Nat.le_refl _) _⟩)

theorem toP_any (a b d x : Int) (q : Bool) (g : Nat) (u : World) (hg : g < u.heap.size) (hc : u.cell? ⟨g, 0, none⟩ = some (.int .i64 x)) (hq : Hid ((d == x) = q)) : Calls Try.prog 68 #[.agg #[.int .i64 a, .int .i64 b, .int .i64 d], .pointer (some ⟨g, 0, none⟩)] u (Drew (.bool q) u) := by
  have hne : g ≠ u.heap.size := by omega
  have hq' := hq.out
  go_enter Try.func68, Try.ntmps68
  go_wp2
  all_goals (go_ret; exact ⟨by simp_all, (Below.refl _ _).alloc (Nat.le_refl _) _⟩)

theorem delP_any (a b x : Int) (q : Bool) (g : Nat) (u : World) (hg : g < u.heap.size) (hc : u.cell? ⟨g, 0, none⟩ = some (.int .i64 x)) (hq : Hid ((a != x) = q)) : Calls Try.prog 77 #[.agg #[.int .i64 a, .int .i64 b], .pointer (some ⟨g, 0, none⟩)] u (Drew (.bool q) u) := by
  have hne : g ≠ u.heap.size := by omega
  have hq' := hq.out
  go_enter Try.func77, Try.ntmps77
  go_wp2
  all_goals (go_ret; exact ⟨by simp_all, (Below.refl _ _).alloc (Nat.le_refl _) _⟩)

theorem belowP_any (a b x : Int) (q : Bool) (g : Nat) (u : World) (hg : g < u.heap.size) (hc : u.cell? ⟨g, 0, none⟩ = some (.int .i64 x)) (hq : Hid ((decide (a < x)) = q)) : Calls Try.prog 102 #[.agg #[.int .i64 a, .int .i64 b], .pointer (some ⟨g, 0, none⟩)] u (Drew (.bool q) u) := by
  have hne : g ≠ u.heap.size := by omega
  have hq' := hq.out
  go_enter Try.func102, Try.ntmps102
  go_wp2
  all_goals (go_ret; exact ⟨by simp_all, (Below.refl _ _).alloc (Nat.le_refl _) _⟩)

theorem aboveP_any (a b x : Int) (q : Bool) (g : Nat) (u : World) (hg : g < u.heap.size) (hc : u.cell? ⟨g, 0, none⟩ = some (.int .i64 x)) (hq : Hid ((decide (x < a)) = q)) : Calls Try.prog 103 #[.agg #[.int .i64 a, .int .i64 b], .pointer (some ⟨g, 0, none⟩)] u (Drew (.bool q) u) := by
  have hne : g ≠ u.heap.size := by omega
  have hq' := hq.out
  go_enter Try.func103, Try.ntmps103
  go_wp2
  all_goals (go_ret; exact ⟨by simp_all, (Below.refl _ _).alloc (Nat.le_refl _) _⟩)

theorem withoutP_any (a : Int) (A : Option Addr) (n c : Nat) (x : Int) (q : Bool) (g : Nat) (u : World) (hg : g < u.heap.size) (hc : u.cell? ⟨g, 0, none⟩ = some (.int .i64 x)) (hq : Hid ((a != x) = q)) : Calls Try.prog 93 #[.agg #[.int .i64 a, .slice A n c], .pointer (some ⟨g, 0, none⟩)] u (Drew (.bool q) u) := by
  have hne : g ≠ u.heap.size := by omega
  have hq' := hq.out
  go_enter Try.func93, Try.ntmps93
  go_wp2
  all_goals (go_ret; exact ⟨by simp_all, (Below.refl _ _).alloc (Nat.le_refl _) _⟩)

theorem dropP_any (a b d x : Int) (q : Bool) (g : Nat) (u : World) (hg : g < u.heap.size) (hc : u.cell? ⟨g, 0, none⟩ = some (.int .i64 x)) (hq : Hid ((b != x && d != x) = q)) : Calls Try.prog 61 #[.agg #[.int .i64 a, .int .i64 b, .int .i64 d], .pointer (some ⟨g, 0, none⟩)] u (Drew (.bool q) u) := by
  have hne : g ≠ u.heap.size := by omega
  have hq' := hq.out
  go_enter Try.func61, Try.ntmps61
  by_cases e : b = x
  · have t1 : (b != x) = false := by simpa using e
    rw [t1] at hq'
    go_wp2
    go_ret
    exact ⟨by simp_all, (Below.refl _ _).alloc (Nat.le_refl _) _⟩
  · have t1 : (b != x) = true := by simpa using e
    rw [t1] at hq'
    go_wp2
    go_ret
    exact ⟨by simp_all, (Below.refl _ _).alloc (Nat.le_refl _) _⟩

theorem size78 : (Try.prog.info? 78).map (·.size) = some 2 := by kernel_rfl

theorem outE_any (a b d : Int) (w : World) : Calls Try.prog 70 #[.agg #[.int .i64 a, .int .i64 b, .int .i64 d]] w (Drew (.agg #[.int .i64 a, .int .i64 d]) w) := by
  go_enter Try.func70, Try.ntmps70
  go_wp2
  exact bodyPost_ret (results_cell_row rfl _ _ (w.heap.size + 1) 78 _ (0, 0) _ rfl (heap_alloc2_new w _ (.cells #[.int .i64 a, .int .i64 d] 78)) Try.underlying78 rfl size78) rfl ⟨rfl, ((Below.refl _ _).alloc (Nat.le_refl _) _).alloc (by simp) _⟩

theorem inE_any (a b d : Int) (w : World) : Calls Try.prog 71 #[.agg #[.int .i64 a, .int .i64 b, .int .i64 d]] w (Drew (.agg #[.int .i64 a, .int .i64 b]) w) := by
  go_enter Try.func71, Try.ntmps71
  go_wp2
  exact bodyPost_ret (results_cell_row rfl _ _ (w.heap.size + 1) 78 _ (0, 0) _ rfl (heap_alloc2_new w _ (.cells #[.int .i64 a, .int .i64 b] 78)) Try.underlying78 rfl size78) rfl ⟨rfl, ((Below.refl _ _).alloc (Nat.le_refl _) _).alloc (by simp) _⟩

theorem mv_any (z b a : Int) (gb ga : Nat) (u : World) (hb : u.cell? ⟨gb, 0, none⟩ = some (.int .i64 b)) (ha : u.cell? ⟨ga, 0, none⟩ = some (.int .i64 a)) : Calls Try.prog 99 #[.int .i64 z, .pointer (some ⟨gb, 0, none⟩), .pointer (some ⟨ga, 0, none⟩)] u (fun e w' => e = .returned (.int .i64 (if z = b then a else z)) ∧ w' = u) := by
  by_cases e : z = b
  · have t1 : (z == b) = true := by simpa using e
    rw [if_pos e]
    go_enter Try.func99, Try.ntmps99
    go_wp2
    go_ret
    exact ⟨rfl, rfl⟩
  · have t1 : (z == b) = false := by simpa using e
    rw [if_neg e]
    go_enter Try.func99, Try.ntmps99
    go_wp2
    go_ret
    exact ⟨rfl, rfl⟩

end Go.Proofs.Ytiiadkjiofkonaa
