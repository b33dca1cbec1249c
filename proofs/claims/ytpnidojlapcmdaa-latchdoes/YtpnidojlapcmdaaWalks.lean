/- What each function of layer 8 answers, for every word: no latch (N), held (H), not held (E), the last one (L): the contracts that the six proofs share. No conditions beyond these. -/
import Derived.Test.YtpnidojlapcmdaaRows
import Derived.WalkKit
import Derived.Below
namespace Go.Proofs.Ytpnidojlapcmdaa
open Go.RowKit
set_option linter.unusedVariables false

theorem hide {p : Prop} (h : p) : Hid p := h
theorem ret_two {a b : Int} {x : Value} (h : a = b) : Ending.returned (.tuple #[.int .i64 a, x]) = .returned (.tuple #[.int .i64 b, x]) := by rw [h]

set_option maxHeartbeats 400000 in
theorem mayBe_N (w : Int) (u : World) (h : w < 0 ∨ 4611686018427387904 < w) :
    Calls Try.prog 20 #[.int .i64 w] u fun e u' => e = .returned (.bool false) ∧ u = u' := by
  by_cases c1 : w < 0
  · clear h
    go_enter Try.func20, Try.ntmps20
    go_wp2
    go_ret
    exact ⟨rfl, rfl⟩
  have c2 : 4611686018427387904 < w := by omega
  have c3 : 0 ≤ w := by omega
  have d1 : decide (w ≤ 4611686018427387904) = false := by rw [decide_eq_false_iff_not]; omega
  clear h c1
  go_enter Try.func20, Try.ntmps20
  go_wp2
  go_ret
  exact ⟨rfl, rfl⟩

set_option maxHeartbeats 400000 in
theorem mayBe_H (w : Int) (u : World) (h1 : 0 ≤ w) (h2 : w ≤ 4611686018427387904) (h3 : w % 2 = 1) :
    Calls Try.prog 20 #[.int .i64 w] u fun e u' => e = .returned (.bool true) ∧ u = u' := by
  go_enter Try.func20, Try.ntmps20
  go_wp2
  go_ret
  exact ⟨rfl, rfl⟩

set_option maxHeartbeats 400000 in
theorem mayBe_E (w : Int) (u : World) (h1 : 0 ≤ w) (h2 : w < 4611686018427387904) (h3 : w % 2 = 0) :
    Calls Try.prog 20 #[.int .i64 w] u fun e u' => e = .returned (.bool true) ∧ u = u' := by
  have d1 : decide (w ≤ 4611686018427387904) = true := by rw [decide_eq_true_iff]; omega
  go_enter Try.func20, Try.ntmps20
  go_wp2
  go_ret
  exact ⟨rfl, rfl⟩

set_option maxHeartbeats 400000 in
theorem mayBe_L (w : Int) (u : World) (h : w = 4611686018427387904) :
    Calls Try.prog 20 #[.int .i64 w] u fun e u' => e = .returned (.bool true) ∧ u = u' := by
  subst h
  go_enter Try.func20, Try.ntmps20
  go_wp2
  go_ret
  exact ⟨rfl, rfl⟩

set_option maxHeartbeats 400000 in
theorem chk_N (w : Int) (u : World) (h : w < 0 ∨ 4611686018427387904 < w) :
    Calls Try.prog 10 #[.int .i64 w] u fun e u' => e = .returned (.int .i64 (1)) ∧ u = u' := by
  have HN := hide h
  clear h
  go_enter Try.func10, Try.ntmps10
  go_wp2_with fail
  refine (mayBe_N _ _ HN.out).mono ?_
  rintro e w' ⟨rfl, rfl⟩
  go_wp2
  go_ret
  exact ⟨rfl, rfl⟩

set_option maxHeartbeats 400000 in
theorem chk_H (w : Int) (u : World) (h1 : 0 ≤ w) (h2 : w ≤ 4611686018427387904) (h3 : w % 2 = 1) :
    Calls Try.prog 10 #[.int .i64 w] u fun e u' => e = .returned (.int .i64 (0)) ∧ u = u' := by
  go_enter Try.func10, Try.ntmps10
  go_wp2_with fail
  refine (mayBe_H _ _ h1 h2 h3).mono ?_
  rintro e w' ⟨rfl, rfl⟩
  go_wp2
  go_ret
  exact ⟨rfl, rfl⟩

set_option maxHeartbeats 400000 in
theorem chk_E (w : Int) (u : World) (h1 : 0 ≤ w) (h2 : w < 4611686018427387904) (h3 : w % 2 = 0) :
    Calls Try.prog 10 #[.int .i64 w] u fun e u' => e = .returned (.int .i64 (0)) ∧ u = u' := by
  go_enter Try.func10, Try.ntmps10
  go_wp2_with fail
  refine (mayBe_E _ _ h1 h2 h3).mono ?_
  rintro e w' ⟨rfl, rfl⟩
  go_wp2
  go_ret
  exact ⟨rfl, rfl⟩

set_option maxHeartbeats 400000 in
theorem chk_L (w : Int) (u : World) (h : w = 4611686018427387904) :
    Calls Try.prog 10 #[.int .i64 w] u fun e u' => e = .returned (.int .i64 (0)) ∧ u = u' := by
  subst h
  go_enter Try.func10, Try.ntmps10
  go_wp2_with fail
  refine (mayBe_L _ _ rfl).mono ?_
  rintro e w' ⟨rfl, rfl⟩
  go_wp2
  go_ret
  exact ⟨rfl, rfl⟩

set_option maxHeartbeats 400000 in
theorem rchk_N (w : Int) (u : World) (h : w < 0 ∨ 4611686018427387904 < w) :
    Calls Try.prog 11 #[.int .i64 w] u fun e u' => e = .returned (.int .i64 (1)) ∧ u = u' := by
  by_cases c1 : w < 0
  · clear h
    go_enter Try.func11, Try.ntmps11
    go_wp2
    go_ret
    exact ⟨rfl, rfl⟩
  have c2 : 4611686018427387904 < w := by omega
  have c3 : 0 ≤ w := by omega
  have d1 : decide (w ≤ 4611686018427387904) = false := by rw [decide_eq_false_iff_not]; omega
  clear h c1
  go_enter Try.func11, Try.ntmps11
  go_wp2
  go_ret
  exact ⟨rfl, rfl⟩

set_option maxHeartbeats 400000 in
theorem rchk_H (w : Int) (u : World) (h1 : 0 ≤ w) (h2 : w ≤ 4611686018427387904) (h3 : w % 2 = 1) :
    Calls Try.prog 11 #[.int .i64 w] u fun e u' => e = .returned (.int .i64 (0)) ∧ u = u' := by
  go_enter Try.func11, Try.ntmps11
  go_wp2
  go_ret
  exact ⟨rfl, rfl⟩

set_option maxHeartbeats 400000 in
theorem rchk_E (w : Int) (u : World) (h1 : 0 ≤ w) (h2 : w < 4611686018427387904) (h3 : w % 2 = 0) :
    Calls Try.prog 11 #[.int .i64 w] u fun e u' => e = .returned (.int .i64 (0)) ∧ u = u' := by
  go_enter Try.func11, Try.ntmps11
  go_wp2
  go_ret
  exact ⟨rfl, rfl⟩

set_option maxHeartbeats 400000 in
theorem rchk_L (w : Int) (u : World) (h : w = 4611686018427387904) :
    Calls Try.prog 11 #[.int .i64 w] u fun e u' => e = .returned (.int .i64 (0)) ∧ u = u' := by
  subst h
  go_enter Try.func11, Try.ntmps11
  go_wp2
  go_ret
  exact ⟨rfl, rfl⟩

set_option maxHeartbeats 400000 in
theorem held_N (w : Int) (u : World) (h : w < 0 ∨ 4611686018427387904 < w) :
    Calls Try.prog 12 #[.int .i64 w] u fun e u' => e = .returned (.bool false) ∧ u = u' := by
  have HN := hide h
  clear h
  go_enter Try.func12, Try.ntmps12
  go_wp2_with fail
  refine (mayBe_N _ _ HN.out).mono ?_
  rintro e w' ⟨rfl, rfl⟩
  go_wp2
  go_ret
  exact ⟨rfl, rfl⟩

set_option maxHeartbeats 400000 in
theorem held_H (w : Int) (u : World) (h1 : 0 ≤ w) (h2 : w ≤ 4611686018427387904) (h3 : w % 2 = 1) :
    Calls Try.prog 12 #[.int .i64 w] u fun e u' => e = .returned (.bool true) ∧ u = u' := by
  go_enter Try.func12, Try.ntmps12
  go_wp2_with fail
  refine (mayBe_H _ _ h1 h2 h3).mono ?_
  rintro e w' ⟨rfl, rfl⟩
  go_wp2
  go_ret
  exact ⟨rfl, rfl⟩

set_option maxHeartbeats 400000 in
theorem held_E (w : Int) (u : World) (h1 : 0 ≤ w) (h2 : w < 4611686018427387904) (h3 : w % 2 = 0) :
    Calls Try.prog 12 #[.int .i64 w] u fun e u' => e = .returned (.bool false) ∧ u = u' := by
  go_enter Try.func12, Try.ntmps12
  go_wp2_with fail
  refine (mayBe_E _ _ h1 h2 h3).mono ?_
  rintro e w' ⟨rfl, rfl⟩
  go_wp2
  go_ret
  exact ⟨rfl, rfl⟩

set_option maxHeartbeats 400000 in
theorem held_L (w : Int) (u : World) (h : w = 4611686018427387904) :
    Calls Try.prog 12 #[.int .i64 w] u fun e u' => e = .returned (.bool false) ∧ u = u' := by
  subst h
  go_enter Try.func12, Try.ntmps12
  go_wp2_with fail
  refine (mayBe_L _ _ rfl).mono ?_
  rintro e w' ⟨rfl, rfl⟩
  go_wp2
  go_ret
  exact ⟨rfl, rfl⟩

set_option maxHeartbeats 400000 in
theorem rheld_N (w : Int) (u : World) (h : w < 0 ∨ 4611686018427387904 < w) :
    Calls Try.prog 13 #[.int .i64 w] u fun e u' => e = .returned (.bool false) ∧ u = u' := by
  have HN := hide h
  clear h
  go_enter Try.func13, Try.ntmps13
  go_wp2_with fail
  refine (rchk_N _ _ HN.out).mono ?_
  rintro e w' ⟨rfl, rfl⟩
  go_wp2
  go_ret
  exact ⟨rfl, rfl⟩

set_option maxHeartbeats 400000 in
theorem rheld_H (w : Int) (u : World) (h1 : 0 ≤ w) (h2 : w ≤ 4611686018427387904) (h3 : w % 2 = 1) :
    Calls Try.prog 13 #[.int .i64 w] u fun e u' => e = .returned (.bool true) ∧ u = u' := by
  go_enter Try.func13, Try.ntmps13
  go_wp2_with fail
  refine (rchk_H _ _ h1 h2 h3).mono ?_
  rintro e w' ⟨rfl, rfl⟩
  go_wp2
  go_ret
  exact ⟨rfl, rfl⟩

set_option maxHeartbeats 400000 in
theorem rheld_E (w : Int) (u : World) (h1 : 0 ≤ w) (h2 : w < 4611686018427387904) (h3 : w % 2 = 0) :
    Calls Try.prog 13 #[.int .i64 w] u fun e u' => e = .returned (.bool false) ∧ u = u' := by
  go_enter Try.func13, Try.ntmps13
  go_wp2_with fail
  refine (rchk_E _ _ h1 h2 h3).mono ?_
  rintro e w' ⟨rfl, rfl⟩
  go_wp2
  go_ret
  exact ⟨rfl, rfl⟩

set_option maxHeartbeats 400000 in
theorem rheld_L (w : Int) (u : World) (h : w = 4611686018427387904) :
    Calls Try.prog 13 #[.int .i64 w] u fun e u' => e = .returned (.bool false) ∧ u = u' := by
  subst h
  go_enter Try.func13, Try.ntmps13
  go_wp2_with fail
  refine (rchk_L _ _ rfl).mono ?_
  rintro e w' ⟨rfl, rfl⟩
  go_wp2
  go_ret
  exact ⟨rfl, rfl⟩

set_option maxHeartbeats 400000 in
theorem ver_N (w : Int) (u : World) (h : w < 0 ∨ 4611686018427387904 < w) :
    Calls Try.prog 14 #[.int .i64 w] u fun e u' => e = .returned (.int .i64 (-1)) ∧ u = u' := by
  have HN := hide h
  clear h
  go_enter Try.func14, Try.ntmps14
  go_wp2_with fail
  refine (mayBe_N _ _ HN.out).mono ?_
  rintro e w' ⟨rfl, rfl⟩
  go_wp2
  go_ret
  exact ⟨rfl, rfl⟩

set_option maxHeartbeats 400000 in
theorem ver_H (w : Int) (u : World) (h1 : 0 ≤ w) (h2 : w ≤ 4611686018427387904) (h3 : w % 2 = 1) :
    Calls Try.prog 14 #[.int .i64 w] u fun e u' => e = .returned (.int .i64 (w / 2)) ∧ u = u' := by
  go_enter Try.func14, Try.ntmps14
  go_wp2_with fail
  refine (mayBe_H _ _ h1 h2 h3).mono ?_
  rintro e w' ⟨rfl, rfl⟩
  go_wp2
  go_ret
  exact ⟨rfl, rfl⟩

set_option maxHeartbeats 400000 in
theorem ver_E (w : Int) (u : World) (h1 : 0 ≤ w) (h2 : w < 4611686018427387904) (h3 : w % 2 = 0) :
    Calls Try.prog 14 #[.int .i64 w] u fun e u' => e = .returned (.int .i64 (w / 2)) ∧ u = u' := by
  go_enter Try.func14, Try.ntmps14
  go_wp2_with fail
  refine (mayBe_E _ _ h1 h2 h3).mono ?_
  rintro e w' ⟨rfl, rfl⟩
  go_wp2
  go_ret
  exact ⟨rfl, rfl⟩

set_option maxHeartbeats 400000 in
theorem ver_L (w : Int) (u : World) (h : w = 4611686018427387904) :
    Calls Try.prog 14 #[.int .i64 w] u fun e u' => e = .returned (.int .i64 (2305843009213693952)) ∧ u = u' := by
  subst h
  go_enter Try.func14, Try.ntmps14
  go_wp2_with fail
  refine (mayBe_L _ _ rfl).mono ?_
  rintro e w' ⟨rfl, rfl⟩
  go_wp2
  go_ret
  exact ⟨rfl, rfl⟩

set_option maxHeartbeats 400000 in
theorem rver_N (w : Int) (u : World) (h : w < 0 ∨ 4611686018427387904 < w) :
    Calls Try.prog 15 #[.int .i64 w] u fun e u' => e = .returned (.int .i64 (-1)) ∧ u = u' := by
  have HN := hide h
  clear h
  go_enter Try.func15, Try.ntmps15
  go_wp2_with fail
  refine (rchk_N _ _ HN.out).mono ?_
  rintro e w' ⟨rfl, rfl⟩
  go_wp2
  go_ret
  exact ⟨rfl, rfl⟩

set_option maxHeartbeats 400000 in
theorem rver_H (w : Int) (u : World) (h1 : 0 ≤ w) (h2 : w ≤ 4611686018427387904) (h3 : w % 2 = 1) :
    Calls Try.prog 15 #[.int .i64 w] u fun e u' => e = .returned (.int .i64 (w / 2)) ∧ u = u' := by
  go_enter Try.func15, Try.ntmps15
  go_wp2_with fail
  refine (rchk_H _ _ h1 h2 h3).mono ?_
  rintro e w' ⟨rfl, rfl⟩
  go_wp2
  go_ret
  exact ⟨rfl, rfl⟩

set_option maxHeartbeats 400000 in
theorem rver_E (w : Int) (u : World) (h1 : 0 ≤ w) (h2 : w < 4611686018427387904) (h3 : w % 2 = 0) :
    Calls Try.prog 15 #[.int .i64 w] u fun e u' => e = .returned (.int .i64 (w / 2)) ∧ u = u' := by
  go_enter Try.func15, Try.ntmps15
  go_wp2_with fail
  refine (rchk_E _ _ h1 h2 h3).mono ?_
  rintro e w' ⟨rfl, rfl⟩
  go_wp2
  go_ret
  exact ⟨rfl, rfl⟩

set_option maxHeartbeats 400000 in
theorem rver_L (w : Int) (u : World) (h : w = 4611686018427387904) :
    Calls Try.prog 15 #[.int .i64 w] u fun e u' => e = .returned (.int .i64 (2305843009213693952)) ∧ u = u' := by
  subst h
  go_enter Try.func15, Try.ntmps15
  go_wp2_with fail
  refine (rchk_L _ _ rfl).mono ?_
  rintro e w' ⟨rfl, rfl⟩
  go_wp2
  go_ret
  exact ⟨rfl, rfl⟩

set_option maxHeartbeats 400000 in
theorem tri_N (w : Int) (u : World) (h : w < 0 ∨ 4611686018427387904 < w) :
    Calls Try.prog 16 #[.int .i64 w] u fun e u' => e = .returned (.tuple #[.int .i64 (w), .bool false]) ∧ u = u' := by
  have HN := hide h
  clear h
  go_enter Try.func16, Try.ntmps16
  go_wp2_with fail
  refine (mayBe_N _ _ HN.out).mono ?_
  rintro e w' ⟨rfl, rfl⟩
  go_wp2
  go_ret2
  exact ⟨rfl, rfl⟩

set_option maxHeartbeats 400000 in
theorem tri_H (w : Int) (u : World) (h1 : 0 ≤ w) (h2 : w ≤ 4611686018427387904) (h3 : w % 2 = 1) :
    Calls Try.prog 16 #[.int .i64 w] u fun e u' => e = .returned (.tuple #[.int .i64 (w), .bool false]) ∧ u = u' := by
  go_enter Try.func16, Try.ntmps16
  go_wp2_with fail
  refine (mayBe_H _ _ h1 h2 h3).mono ?_
  rintro e w' ⟨rfl, rfl⟩
  go_wp2_with fail
  refine (held_H _ _ h1 h2 h3).mono ?_
  rintro e w' ⟨rfl, rfl⟩
  go_wp2
  go_ret2
  exact ⟨rfl, rfl⟩

set_option maxHeartbeats 400000 in
theorem tri_E (w : Int) (u : World) (h1 : 0 ≤ w) (h2 : w < 4611686018427387904) (h3 : w % 2 = 0) :
    Calls Try.prog 16 #[.int .i64 w] u fun e u' => e = .returned (.tuple #[.int .i64 (w + 1), .bool true]) ∧ u = u' := by
  go_enter Try.func16, Try.ntmps16
  go_wp2_with fail
  refine (mayBe_E _ _ h1 h2 h3).mono ?_
  rintro e w' ⟨rfl, rfl⟩
  go_wp2_with fail
  refine (held_E _ _ h1 h2 h3).mono ?_
  rintro e w' ⟨rfl, rfl⟩
  go_wp2
  go_ret2
  exact ⟨rfl, rfl⟩

set_option maxHeartbeats 400000 in
theorem tri_L (w : Int) (u : World) (h : w = 4611686018427387904) :
    Calls Try.prog 16 #[.int .i64 w] u fun e u' => e = .returned (.tuple #[.int .i64 (w), .bool false]) ∧ u = u' := by
  subst h
  go_enter Try.func16, Try.ntmps16
  go_wp2_with fail
  refine (mayBe_L _ _ rfl).mono ?_
  rintro e w' ⟨rfl, rfl⟩
  go_wp2_with fail
  refine (held_L _ _ rfl).mono ?_
  rintro e w' ⟨rfl, rfl⟩
  go_wp2
  go_ret2
  exact ⟨rfl, rfl⟩

set_option maxHeartbeats 400000 in
theorem rtri_N (w : Int) (u : World) (h : w < 0 ∨ 4611686018427387904 < w) :
    Calls Try.prog 17 #[.int .i64 w] u fun e u' => e = .returned (.tuple #[.int .i64 (w), .bool false]) ∧ u = u' := by
  have HN := hide h
  clear h
  go_enter Try.func17, Try.ntmps17
  go_wp2_with fail
  refine (rchk_N _ _ HN.out).mono ?_
  rintro e w' ⟨rfl, rfl⟩
  go_wp2
  go_ret2
  exact ⟨rfl, rfl⟩

set_option maxHeartbeats 400000 in
theorem rtri_H (w : Int) (u : World) (h1 : 0 ≤ w) (h2 : w ≤ 4611686018427387904) (h3 : w % 2 = 1) :
    Calls Try.prog 17 #[.int .i64 w] u fun e u' => e = .returned (.tuple #[.int .i64 (w), .bool false]) ∧ u = u' := by
  go_enter Try.func17, Try.ntmps17
  go_wp2_with fail
  refine (rchk_H _ _ h1 h2 h3).mono ?_
  rintro e w' ⟨rfl, rfl⟩
  go_wp2
  go_ret2
  exact ⟨rfl, rfl⟩

set_option maxHeartbeats 400000 in
theorem rtri_E (w : Int) (u : World) (h1 : 0 ≤ w) (h2 : w < 4611686018427387904) (h3 : w % 2 = 0) :
    Calls Try.prog 17 #[.int .i64 w] u fun e u' => e = .returned (.tuple #[.int .i64 (w + 1), .bool true]) ∧ u = u' := by
  go_enter Try.func17, Try.ntmps17
  go_wp2_with fail
  refine (rchk_E _ _ h1 h2 h3).mono ?_
  rintro e w' ⟨rfl, rfl⟩
  go_wp2
  go_ret2
  exact ⟨rfl, rfl⟩

set_option maxHeartbeats 400000 in
theorem rtri_L (w : Int) (u : World) (h : w = 4611686018427387904) :
    Calls Try.prog 17 #[.int .i64 w] u fun e u' => e = .returned (.tuple #[.int .i64 (w), .bool false]) ∧ u = u' := by
  subst h
  go_enter Try.func17, Try.ntmps17
  go_wp2_with fail
  refine (rchk_L _ _ rfl).mono ?_
  rintro e w' ⟨rfl, rfl⟩
  go_wp2
  go_ret2
  exact ⟨rfl, rfl⟩

set_option maxHeartbeats 400000 in
theorem free_N (w : Int) (u : World) (h : w < 0 ∨ 4611686018427387904 < w) :
    Calls Try.prog 18 #[.int .i64 w] u fun e u' => e = .returned (.tuple #[.int .i64 (0), .int .i64 (1)]) ∧ u = u' := by
  have HN := hide h
  clear h
  go_enter Try.func18, Try.ntmps18
  go_wp2_with fail
  refine (mayBe_N _ _ HN.out).mono ?_
  rintro e w' ⟨rfl, rfl⟩
  go_wp2
  go_ret2
  exact ⟨rfl, rfl⟩

set_option maxHeartbeats 400000 in
theorem free_H (w : Int) (u : World) (h1 : 0 ≤ w) (h2 : w ≤ 4611686018427387904) (h3 : w % 2 = 1) :
    Calls Try.prog 18 #[.int .i64 w] u fun e u' => e = .returned (.tuple #[.int .i64 (w + 1), .int .i64 (0)]) ∧ u = u' := by
  go_enter Try.func18, Try.ntmps18
  go_wp2_with fail
  refine (mayBe_H _ _ h1 h2 h3).mono ?_
  rintro e w' ⟨rfl, rfl⟩
  go_wp2_with fail
  refine (held_H _ _ h1 h2 h3).mono ?_
  rintro e w' ⟨rfl, rfl⟩
  go_wp2
  go_ret2
  exact ⟨rfl, rfl⟩

set_option maxHeartbeats 400000 in
theorem free_E (w : Int) (u : World) (h1 : 0 ≤ w) (h2 : w < 4611686018427387904) (h3 : w % 2 = 0) :
    Calls Try.prog 18 #[.int .i64 w] u fun e u' => e = .returned (.tuple #[.int .i64 (0), .int .i64 (2)]) ∧ u = u' := by
  go_enter Try.func18, Try.ntmps18
  go_wp2_with fail
  refine (mayBe_E _ _ h1 h2 h3).mono ?_
  rintro e w' ⟨rfl, rfl⟩
  go_wp2_with fail
  refine (held_E _ _ h1 h2 h3).mono ?_
  rintro e w' ⟨rfl, rfl⟩
  go_wp2
  go_ret2
  exact ⟨rfl, rfl⟩

set_option maxHeartbeats 400000 in
theorem free_L (w : Int) (u : World) (h : w = 4611686018427387904) :
    Calls Try.prog 18 #[.int .i64 w] u fun e u' => e = .returned (.tuple #[.int .i64 (0), .int .i64 (2)]) ∧ u = u' := by
  subst h
  go_enter Try.func18, Try.ntmps18
  go_wp2_with fail
  refine (mayBe_L _ _ rfl).mono ?_
  rintro e w' ⟨rfl, rfl⟩
  go_wp2_with fail
  refine (held_L _ _ rfl).mono ?_
  rintro e w' ⟨rfl, rfl⟩
  go_wp2
  go_ret2
  exact ⟨rfl, rfl⟩

set_option maxHeartbeats 400000 in
theorem rfree_N (w : Int) (u : World) (h : w < 0 ∨ 4611686018427387904 < w) :
    Calls Try.prog 19 #[.int .i64 w] u fun e u' => e = .returned (.tuple #[.int .i64 (0), .int .i64 (1)]) ∧ u = u' := by
  have HN := hide h
  clear h
  go_enter Try.func19, Try.ntmps19
  go_wp2_with fail
  refine (rchk_N _ _ HN.out).mono ?_
  rintro e w' ⟨rfl, rfl⟩
  go_wp2
  go_ret2
  exact ⟨rfl, rfl⟩

set_option maxHeartbeats 400000 in
theorem rfree_H (w : Int) (u : World) (h1 : 0 ≤ w) (h2 : w ≤ 4611686018427387904) (h3 : w % 2 = 1) :
    Calls Try.prog 19 #[.int .i64 w] u fun e u' => e = .returned (.tuple #[.int .i64 (w + 1), .int .i64 (0)]) ∧ u = u' := by
  go_enter Try.func19, Try.ntmps19
  go_wp2_with fail
  refine (rchk_H _ _ h1 h2 h3).mono ?_
  rintro e w' ⟨rfl, rfl⟩
  go_wp2
  go_ret2
  exact ⟨rfl, rfl⟩

set_option maxHeartbeats 400000 in
theorem rfree_E (w : Int) (u : World) (h1 : 0 ≤ w) (h2 : w < 4611686018427387904) (h3 : w % 2 = 0) :
    Calls Try.prog 19 #[.int .i64 w] u fun e u' => e = .returned (.tuple #[.int .i64 (0), .int .i64 (2)]) ∧ u = u' := by
  go_enter Try.func19, Try.ntmps19
  go_wp2_with fail
  refine (rchk_E _ _ h1 h2 h3).mono ?_
  rintro e w' ⟨rfl, rfl⟩
  go_wp2
  go_ret2
  exact ⟨rfl, rfl⟩

set_option maxHeartbeats 400000 in
theorem rfree_L (w : Int) (u : World) (h : w = 4611686018427387904) :
    Calls Try.prog 19 #[.int .i64 w] u fun e u' => e = .returned (.tuple #[.int .i64 (0), .int .i64 (2)]) ∧ u = u' := by
  subst h
  go_enter Try.func19, Try.ntmps19
  go_wp2_with fail
  refine (rchk_L _ _ rfl).mono ?_
  rintro e w' ⟨rfl, rfl⟩
  go_wp2
  go_ret2
  exact ⟨rfl, rfl⟩

set_option maxHeartbeats 400000 in
theorem live_yes (u : World) : Calls Try.prog 9 #[] u fun e u' => e = .returned (.bool true) ∧ u = u' := by
  go_enter Try.func9, Try.ntmps9
  go_wp2_with fail
  refine (tri_E _ _ (by omega) (by omega) (by omega)).mono ?_
  rintro e w' ⟨rfl, rfl⟩
  go_wp2_with fail
  refine (free_H _ _ (by omega) (by omega) (by omega)).mono ?_
  rintro e w' ⟨rfl, rfl⟩
  go_wp2_with fail
  refine (ver_E _ _ (by omega) (by omega) (by omega)).mono ?_
  rintro e w' ⟨rfl, rfl⟩
  go_wp2_with fail
  refine (held_H _ _ (by omega) (by omega) (by omega)).mono ?_
  rintro e w' ⟨rfl, rfl⟩
  go_wp2
  go_ret
  exact ⟨rfl, rfl⟩

/-- Each word is one of the four. -/
theorem four (w : Int) : (w < 0 ∨ 4611686018427387904 < w) ∨ (0 ≤ w ∧ w ≤ 4611686018427387904 ∧ w % 2 = 1) ∨ (0 ≤ w ∧ w < 4611686018427387904 ∧ w % 2 = 0) ∨ w = 4611686018427387904 := by omega

end Go.Proofs.Ytpnidojlapcmdaa
