/- The chapter's example comes out; and what a slice that came in, or that a call told, gives to the next call. -/
import Derived.Test.YtpldcmhbbhjhgaaWalksC
import Derived.Test.YtpldcmhbbhjhgaaWalksF
namespace Go.Proofs.Ytpldcmhbbhjhgaa
open Go.RowKit
set_option linter.unusedVariables false

theorem Nums.lit (w : World) (zs : List Int) (t n s : Nat) (h : zs.length = n * s) : Nums (w.alloc (.cells (ints zs).toArray t)) (w.heap.size + 1) s (some ⟨w.heap.size, 0, none⟩) n zs := by
  refine ⟨h, fun _ => ⟨w.heap.size, 0, rfl, by omega, fun i hi => ?_⟩⟩
  rw [Nat.zero_add, cell_of_row _ w.heap.size i _ t (0, 0) (heap_alloc_new w _)]
  simp [List.getD_eq_getElem?_getD, show i < zs.length by omega]

/-- How many elements a told slice has. -/
theorem own_count {w : World} {B e s n m : Nat} {v : Value} {zs : List Int} (h : w.ownsRow B e s v n (ints zs)) (hs : 0 < s) (hz : zs.length = m * s) : n = m := by
  have h1 := h.1
  simp only [List.length_map] at h1
  rw [hz] at h1
  exact (Nat.eq_of_mul_eq_mul_right hs h1).symm
/-- Its room is no less. -/
theorem own_cap {w : World} {B e s n c : Nat} {A : Option Addr} {xs : List Value} (h : w.ownsRow B e s (.slice A n c) n xs) : n ≤ c := by
  rcases h.2 with ⟨hv, h0⟩ | ⟨g, cap, cur, hv, _, _, hc, _⟩
  · omega
  · simp at hv
    omega

theorem flat_live : flat [2, 1, 3, 9, 9, 7] = [2, 1, 3, 0, 0] := by decide

theorem live_ops (w : World) : Calls Try.prog 15 #[.slice (some ⟨w.heap.size, 0, none⟩) 6 6] (w.alloc (.cells #[.int .i64 2, .int .i64 1, .int .i64 3, .int .i64 9, .int .i64 9, .int .i64 7] 3)) (Told (w.alloc (.cells #[.int .i64 2, .int .i64 1, .int .i64 3, .int .i64 9, .int .i64 9, .int .i64 7] 3)) 23 5 [2, 1, 3, 0, 0]) := by
  rw [← flat_live]
  exact ops_any _ 6 6 (w.heap.size + 1) [2, 1, 3, 9, 9, 7] _ (Nums.lit w [2, 1, 3, 9, 9, 7] 3 6 1 rfl) (by omega) (by simp) (by omega)

set_option maxHeartbeats 400000 in
theorem live_yes (w : World) : Calls Try.prog 9 #[] w (Drew (.bool true) w) := by
  go_enter Try.func9, Try.ntmps9
  go_wp2_with fail
  refine (live_ops w).mono ?_
  rintro e w1 ⟨A1, n1, c1, rfl, hA, hr, hb⟩
  obtain rfl : n1 = 1 := own_count hr (by omega) rfl
  have HR := hide hr
  have HB : Hid (Below w.heap.size w w1) := ((Below.refl _ _).alloc (Nat.le_refl _) _).trans (hb.mono (by simp))
  clear hr hb hA
  go_wp2_with fail
  refine (sameOps_yes _ _ _ _ _ w1.heap.size (w1.heap.size + 1) [2, 1, 3, 0, 0] _ ((own_nums HR.out).below ((Below.refl _ _).alloc (Nat.le_refl _) _) (Nat.le_refl _)) (Nums.lit w1 [2, 1, 3, 0, 0] 23 1 5 rfl) (by omega)).mono ?_
  rintro e w2 ⟨rfl, hb2⟩
  go_wp2
  go_ret
  exact ⟨rfl, (HB.out.alloc HB.out.size _).trans (hb2.mono (by have := HB.out.size; simp; omega))⟩

end Go.Proofs.Ytpldcmhbbhjhgaa
