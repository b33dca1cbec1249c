/- What each function of layer 1 answers, for every input: the callees' contracts that the six proofs share. -/
import Derived.Test.YtccmklgfeofceaaRows
import Derived.WalkKit
import Derived.Below
namespace Go.Proofs.Ytccmklgfeofceaa
open Go.RowKit

theorem ret_two {a b : Int} {x : Value} (h : a = b) : Ending.returned (.tuple #[.int .i64 a, x]) = .returned (.tuple #[.int .i64 b, x]) := by rw [h]

set_option maxHeartbeats 400000 in
theorem pack_ok (a b : Int) (w : World) (h1 : 0 ≤ a) (h2 : a ≤ 1023) (h3 : 0 ≤ b) (h4 : b ≤ 1099511627775) :
    Calls Try.prog 10 #[.int .i64 a, .int .i64 b] w fun e w' => e = .returned (.tuple #[.int .i64 (1 + 1024 * b + a), .int .i64 0]) ∧ w = w' := by
  go_enter Try.func10, Try.ntmps10
  go_wp2
  go_ret2
  exact ⟨rfl, rfl⟩

set_option maxHeartbeats 400000 in
theorem pack_no (a b : Int) (w : World) (h : a < 0 ∨ 1024 ≤ a ∨ b < 0 ∨ 1099511627776 ≤ b) :
    Calls Try.prog 10 #[.int .i64 a, .int .i64 b] w fun e w' => e = .returned (.tuple #[.int .i64 0, .int .i64 1]) ∧ w = w' := by
  by_cases c1 : a < 0
  · clear h
    go_enter Try.func10, Try.ntmps10
    go_wp2
    go_ret2
    exact ⟨rfl, rfl⟩
  by_cases c2 : 1024 ≤ a
  · clear h
    go_enter Try.func10, Try.ntmps10
    go_wp2
    go_ret2
    exact ⟨rfl, rfl⟩
  by_cases c3 : b < 0
  · clear h
    go_enter Try.func10, Try.ntmps10
    go_wp2
    go_ret2
    exact ⟨rfl, rfl⟩
  have c4 : 1099511627776 ≤ b := by omega
  clear h
  go_enter Try.func10, Try.ntmps10
  go_wp2
  go_ret2
  exact ⟨rfl, rfl⟩

set_option maxHeartbeats 400000 in
theorem rpack_ok (a b : Int) (w : World) (h1 : 0 ≤ a) (h2 : a ≤ 1023) (h3 : 0 ≤ b) (h4 : b ≤ 1099511627775) :
    Calls Try.prog 11 #[.int .i64 a, .int .i64 b] w fun e w' => e = .returned (.tuple #[.int .i64 (1 + 1024 * b + a), .int .i64 0]) ∧ w = w' := by
  go_enter Try.func11, Try.ntmps11
  go_wp2
  go_ret2
  exact ⟨rfl, rfl⟩

set_option maxHeartbeats 400000 in
theorem rpack_no (a b : Int) (w : World) (h : a < 0 ∨ 1024 ≤ a ∨ b < 0 ∨ 1099511627776 ≤ b) :
    Calls Try.prog 11 #[.int .i64 a, .int .i64 b] w fun e w' => e = .returned (.tuple #[.int .i64 0, .int .i64 1]) ∧ w = w' := by
  by_cases c1 : a < 0
  · clear h
    go_enter Try.func11, Try.ntmps11
    go_wp2
    go_ret2
    exact ⟨rfl, rfl⟩
  by_cases c2 : 1024 ≤ a
  · clear h
    go_enter Try.func11, Try.ntmps11
    go_wp2
    go_ret2
    exact ⟨rfl, rfl⟩
  by_cases c3 : b < 0
  · clear h
    go_enter Try.func11, Try.ntmps11
    go_wp2
    go_ret2
    exact ⟨rfl, rfl⟩
  have c4 : 1099511627776 ≤ b := by omega
  clear h
  go_enter Try.func11, Try.ntmps11
  go_wp2
  go_ret2
  exact ⟨rfl, rfl⟩

set_option maxHeartbeats 400000 in
theorem unpack_ok (n : Int) (w : World) (h1 : 1 ≤ n) (h2 : n ≤ 1125899906842624) :
    Calls Try.prog 12 #[.int .i64 n] w fun e w' => e = .returned (.tuple #[.int .i64 ((n - 1) % 1024), .int .i64 ((n - 1) / 1024), .int .i64 0]) ∧ w = w' := by
  go_enter Try.func12, Try.ntmps12
  go_wp2
  go_ret3
  exact ⟨rfl, rfl⟩

set_option maxHeartbeats 400000 in
theorem unpack_no (n : Int) (w : World) (h : n < 1 ∨ 1125899906842624 < n) :
    Calls Try.prog 12 #[.int .i64 n] w fun e w' => e = .returned (.tuple #[.int .i64 0, .int .i64 0, .int .i64 1]) ∧ w = w' := by
  by_cases c1 : n < 1
  · clear h
    go_enter Try.func12, Try.ntmps12
    go_wp2
    go_ret3
    exact ⟨rfl, rfl⟩
  have c2 : 1125899906842624 < n := by omega
  clear h
  go_enter Try.func12, Try.ntmps12
  go_wp2
  go_ret3
  exact ⟨rfl, rfl⟩

set_option maxHeartbeats 400000 in
theorem runpack_ok (n : Int) (w : World) (h1 : 1 ≤ n) (h2 : n ≤ 1125899906842624) :
    Calls Try.prog 13 #[.int .i64 n] w fun e w' => e = .returned (.tuple #[.int .i64 ((n - 1) % 1024), .int .i64 ((n - 1) / 1024), .int .i64 0]) ∧ w = w' := by
  go_enter Try.func13, Try.ntmps13
  go_wp2
  go_ret3
  exact ⟨rfl, rfl⟩

set_option maxHeartbeats 400000 in
theorem runpack_no (n : Int) (w : World) (h : n < 1 ∨ 1125899906842624 < n) :
    Calls Try.prog 13 #[.int .i64 n] w fun e w' => e = .returned (.tuple #[.int .i64 0, .int .i64 0, .int .i64 1]) ∧ w = w' := by
  by_cases c1 : n < 1
  · clear h
    go_enter Try.func13, Try.ntmps13
    go_wp2
    go_ret3
    exact ⟨rfl, rfl⟩
  have c2 : 1125899906842624 < n := by omega
  clear h
  go_enter Try.func13, Try.ntmps13
  go_wp2
  go_ret3
  exact ⟨rfl, rfl⟩

set_option maxHeartbeats 400000 in
theorem next_ok (n : Int) (w : World) (h1 : 1 ≤ n) (h2 : n ≤ 1125899906841600) :
    Calls Try.prog 14 #[.int .i64 n] w fun e w' => e = .returned (.tuple #[.int .i64 (n + 1024), .int .i64 0]) ∧ w = w' := by
  have HE : Hid (1 + 1024 * ((n - 1) / 1024 + 1) + (n - 1) % 1024 = n + 1024) := (by omega : 1 + 1024 * ((n - 1) / 1024 + 1) + (n - 1) % 1024 = n + 1024)
  have q1 : 0 ≤ (n - 1) % 1024 := by omega
  have q2 : (n - 1) % 1024 ≤ 1023 := by omega
  have q3 : 0 ≤ (n - 1) / 1024 := by omega
  have q4 : (n - 1) / 1024 ≤ 1099511627774 := by omega
  go_enter Try.func14, Try.ntmps14
  go_wp2_with fail
  refine (unpack_ok _ _ (by omega) (by omega)).mono ?_
  rintro e w' ⟨rfl, rfl⟩
  go_wp2_with fail
  refine (pack_ok _ _ _ (by omega) (by omega) (by omega) (by omega)).mono ?_
  rintro e w' ⟨rfl, rfl⟩
  go_wp2
  go_ret2
  exact ⟨ret_two HE.out, rfl⟩

set_option maxHeartbeats 400000 in
theorem next_last (n : Int) (w : World) (h1 : 1125899906841600 < n) (h2 : n ≤ 1125899906842624) :
    Calls Try.prog 14 #[.int .i64 n] w fun e w' => e = .returned (.tuple #[.int .i64 0, .int .i64 1]) ∧ w = w' := by
  have q1 : 0 ≤ (n - 1) % 1024 := by omega
  have q2 : (n - 1) % 1024 ≤ 1023 := by omega
  have q3 : 1099511627775 ≤ (n - 1) / 1024 := by omega
  have q4 : (n - 1) / 1024 ≤ 1099511627775 := by omega
  go_enter Try.func14, Try.ntmps14
  go_wp2_with fail
  refine (unpack_ok _ _ (by omega) (by omega)).mono ?_
  rintro e w' ⟨rfl, rfl⟩
  go_wp2_with fail
  refine (pack_no _ _ _ (by omega)).mono ?_
  rintro e w' ⟨rfl, rfl⟩
  go_wp2
  go_ret2
  exact ⟨rfl, rfl⟩

set_option maxHeartbeats 400000 in
theorem next_no (n : Int) (w : World) (h : n < 1 ∨ 1125899906842624 < n) :
    Calls Try.prog 14 #[.int .i64 n] w fun e w' => e = .returned (.tuple #[.int .i64 0, .int .i64 1]) ∧ w = w' := by
  have HN : Hid (n < 1 ∨ 1125899906842624 < n) := h
  clear h
  go_enter Try.func14, Try.ntmps14
  go_wp2_with fail
  refine (unpack_no _ _ HN.out).mono ?_
  rintro e w' ⟨rfl, rfl⟩
  go_wp2
  go_ret2
  exact ⟨rfl, rfl⟩

set_option maxHeartbeats 400000 in
theorem rnext_ok (n : Int) (w : World) (h1 : 1 ≤ n) (h2 : n ≤ 1125899906841600) :
    Calls Try.prog 15 #[.int .i64 n] w fun e w' => e = .returned (.tuple #[.int .i64 (n + 1024), .int .i64 0]) ∧ w = w' := by
  have HE : Hid (1 + 1024 * ((n - 1) / 1024 + 1) + (n - 1) % 1024 = n + 1024) := (by omega : 1 + 1024 * ((n - 1) / 1024 + 1) + (n - 1) % 1024 = n + 1024)
  have q1 : 0 ≤ (n - 1) % 1024 := by omega
  have q2 : (n - 1) % 1024 ≤ 1023 := by omega
  have q3 : 0 ≤ (n - 1) / 1024 := by omega
  have q4 : (n - 1) / 1024 ≤ 1099511627774 := by omega
  go_enter Try.func15, Try.ntmps15
  go_wp2_with fail
  refine (runpack_ok _ _ (by omega) (by omega)).mono ?_
  rintro e w' ⟨rfl, rfl⟩
  go_wp2_with fail
  refine (rpack_ok _ _ _ (by omega) (by omega) (by omega) (by omega)).mono ?_
  rintro e w' ⟨rfl, rfl⟩
  go_wp2
  go_ret2
  exact ⟨ret_two HE.out, rfl⟩

set_option maxHeartbeats 400000 in
theorem rnext_last (n : Int) (w : World) (h1 : 1125899906841600 < n) (h2 : n ≤ 1125899906842624) :
    Calls Try.prog 15 #[.int .i64 n] w fun e w' => e = .returned (.tuple #[.int .i64 0, .int .i64 1]) ∧ w = w' := by
  have q1 : 0 ≤ (n - 1) % 1024 := by omega
  have q2 : (n - 1) % 1024 ≤ 1023 := by omega
  have q3 : 1099511627775 ≤ (n - 1) / 1024 := by omega
  have q4 : (n - 1) / 1024 ≤ 1099511627775 := by omega
  go_enter Try.func15, Try.ntmps15
  go_wp2_with fail
  refine (runpack_ok _ _ (by omega) (by omega)).mono ?_
  rintro e w' ⟨rfl, rfl⟩
  go_wp2_with fail
  refine (rpack_no _ _ _ (by omega)).mono ?_
  rintro e w' ⟨rfl, rfl⟩
  go_wp2
  go_ret2
  exact ⟨rfl, rfl⟩

set_option maxHeartbeats 400000 in
theorem rnext_no (n : Int) (w : World) (h : n < 1 ∨ 1125899906842624 < n) :
    Calls Try.prog 15 #[.int .i64 n] w fun e w' => e = .returned (.tuple #[.int .i64 0, .int .i64 1]) ∧ w = w' := by
  have HN : Hid (n < 1 ∨ 1125899906842624 < n) := h
  clear h
  go_enter Try.func15, Try.ntmps15
  go_wp2_with fail
  refine (runpack_no _ _ HN.out).mono ?_
  rintro e w' ⟨rfl, rfl⟩
  go_wp2
  go_ret2
  exact ⟨rfl, rfl⟩

set_option maxHeartbeats 400000 in
theorem live_yes (w : World) :
    Calls Try.prog 9 #[] w fun e w' => e = .returned (.bool true) ∧ w = w' := by
  go_enter Try.func9, Try.ntmps9
  go_wp2_with fail
  refine (pack_ok _ _ _ (by omega) (by omega) (by omega) (by omega)).mono ?_
  rintro e w' ⟨rfl, rfl⟩
  go_wp2
  go_ret
  exact ⟨rfl, rfl⟩

theorem ret_three {a b c d : Int} {x : Value} (h : a = c) (g : b = d) : Ending.returned (.tuple #[.int .i64 a, .int .i64 b, x]) = .returned (.tuple #[.int .i64 c, .int .i64 d, x]) := by rw [h, g]

theorem unpack_packed (a b : Int) (w : World) (h1 : 0 ≤ a) (h2 : a ≤ 1023) (h3 : 0 ≤ b) (h4 : b ≤ 1099511627775) :
    Calls Try.prog 12 #[.int .i64 (1 + 1024 * b + a)] w fun e w' => e = .returned (.tuple #[.int .i64 a, .int .i64 b, .int .i64 0]) ∧ w = w' :=
  (unpack_ok (1 + 1024 * b + a) w (by omega) (by omega)).mono fun _ _ ⟨he, hw⟩ => ⟨he.trans (ret_three (by omega) (by omega)), hw⟩

theorem pack_unpacked (n : Int) (w : World) (h1 : 1 ≤ n) (h2 : n ≤ 1125899906842624) :
    Calls Try.prog 10 #[.int .i64 ((n - 1) % 1024), .int .i64 ((n - 1) / 1024)] w fun e w' => e = .returned (.tuple #[.int .i64 n, .int .i64 0]) ∧ w = w' :=
  (pack_ok ((n - 1) % 1024) ((n - 1) / 1024) w (by omega) (by omega) (by omega) (by omega)).mono fun _ _ ⟨he, hw⟩ => ⟨he.trans (ret_two (by omega)), hw⟩

end Go.Proofs.Ytccmklgfeofceaa
