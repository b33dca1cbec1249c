/- What the functions of layer 9 that only read tell, for every list: the code's and the document's. -/
import Derived.Test.YtijiolkjnlgleaaRows
import Derived.Test.YtijiolkjnlgleaaWords
import Derived.Test.YtijiolkjnlgleaaMath
import Derived.WalkKit
import Derived.Below
import Derived.Deep.QuietTactic
import Derived.BigQuiet
namespace Go.Proofs.Ytijiolkjnlgleaa
open Go.RowKit
set_option linter.unusedVariables false

theorem Try.info3 : (Try.prog.info? 3).map (fun i => (i.zero, i.size, i.bytes)) = some (some (.int .i64 0), 1, 8) := by kernel_rfl

theorem differ {xs ys : List Int} (hl : xs.length = ys.length) (h : ∀ i, i < xs.length → xs.getD i 0 = ys.getD i 0) : xs = ys :=
  List.ext_getElem hl fun i h1 h2 => by have := h i h1; simpa [h1, h2] using this

/-- The error that Check tells. -/
def errOf (q : Bool) : Int := if q then 0 else 1

theorem not_within {xs ys : List Int} {k : Nat} (hk : k < xs.length) (h : ys.contains (xs.getD k 0) = false) : within xs ys = false := by
  cases e : within xs ys
  · rfl
  · have h1 := within_iff.1 e (xs.getD k 0) (by simp [hk])
    rw [List.contains_iff_mem.2 h1] at h
    cases h
theorem all_within {xs ys : List Int} (h : ∀ j, j < xs.length → ys.contains (xs.getD j 0) = true) : within xs ys = true :=
  within_iff.2 fun z hz => by
    obtain ⟨j, hj, rfl⟩ := List.getElem_of_mem hz
    have := h j hj
    simpa [hj] using this

set_option maxHeartbeats 400000 in
theorem same_yes (A A' : Option Addr) (n c c' B B' : Nat) (zs : List Int) (w : World) (h : Nums w B 1 A n zs) (h' : Nums w B' 1 A' n zs) (hn : n ≤ 17592186044416) :
    Calls Try.prog 12 #[.slice A n c, .slice A' n c'] w (Drew (.bool true) w) := by
  have h0 : (((n : Nat) : Int) != (n : Int)) = false := by simp
  go_enter Try.func12, Try.ntmps12
  go_wp2
  go_loopw [13] (fun i wr => ∃ k q : Nat, k ≤ n ∧ i = .int .i64 k ∧ wr = w.drewN q) (fun i _ => n - (intOf i).toNat)
  case atStart => exact ⟨0, 0, by omega, rfl, rfl⟩
  case round =>
    obtain ⟨k, q, hk, rfl, rfl⟩ := hrel
    by_cases hlt : k < n
    · obtain ⟨b, off, rfl, _, hc⟩ := h.at_ hlt
      obtain ⟨b', off', rfl, _, hc'⟩ := h'.at_ hlt
      generalize zs.getD k 0 = z at hc hc'
      go_wp2
      go_quiet (fail)
      go_wp2
      go_roundw
      case rel => exact ⟨k + 1, _, by omega, by go_num, rfl⟩
      case measure => simp [intOf]; omega
    · go_wp2
      go_ret
      exact ⟨rfl, Below.drewN (Below.refl _ _) _⟩

set_option maxHeartbeats 400000 in
theorem same_no (A A' : Option Addr) (n c c' B B' : Nat) (xs ys : List Int) (w : World) (h : Nums w B 1 A n xs) (h' : Nums w B' 1 A' n ys) (hd : Hid (xs ≠ ys)) (hn : n ≤ 17592186044416) :
    Calls Try.prog 12 #[.slice A n c, .slice A' n c'] w (Drew (.bool false) w) := by
  have h0 : (((n : Nat) : Int) != (n : Int)) = false := by simp
  have HL : Hid (xs.length = n ∧ ys.length = n) := by have := h.1; have := h'.1; exact ⟨by omega, by omega⟩
  go_enter Try.func12, Try.ntmps12
  go_wp2
  go_loopw [13] (fun i wr => ∃ k q : Nat, k ≤ n ∧ i = .int .i64 k ∧ Hid (∀ j, j < k → xs.getD j 0 = ys.getD j 0) ∧ wr = w.drewN q) (fun i _ => n - (intOf i).toNat)
  case atStart => exact ⟨0, 0, by omega, rfl, (fun j hj => by omega), rfl⟩
  case round =>
    obtain ⟨k, q, hk, rfl, HS, rfl⟩ := hrel
    by_cases hlt : k < n
    · obtain ⟨b, off, rfl, _, hc⟩ := h.at_ hlt
      obtain ⟨b', off', rfl, _, hc'⟩ := h'.at_ hlt
      by_cases e : xs.getD k 0 = ys.getD k 0
      · have HE := hide e
        rw [e] at hc
        clear e
        have HS' : Hid (∀ j, j < k + 1 → xs.getD j 0 = ys.getD j 0) := fun j hj => by
          by_cases ej : j = k
          · subst ej; exact HE.out
          · exact HS.out j (by omega)
        clear HE HS
        generalize ys.getD k 0 = z at hc hc'
        go_wp2
        go_quiet (fail)
        go_wp2
        go_roundw
        case rel => exact ⟨k + 1, _, by omega, by go_num, HS', rfl⟩
        case measure => simp [intOf]; omega
      · have HE : Hid (xs.getD k 0 ≠ ys.getD k 0) := e
        clear e
        generalize xs.getD k 0 = z at hc HE
        generalize ys.getD k 0 = z' at hc' HE
        have t1 : (z != z') = true := by simpa using HE.out
        go_wp2
        go_quiet (fail)
        go_wp2
        go_ret
        exact ⟨rfl, Below.drewN (Below.drewN (Below.refl _ _) _) _⟩
    · exact absurd (differ (by rw [HL.out.1, HL.out.2]) fun j hj => HS.out j (by rw [HL.out.1] at hj; omega)) hd.out

set_option maxHeartbeats 400000 in
theorem same_len (A A' : Option Addr) (n m c c' : Nat) (w : World) (hd : n ≠ m) (hn : n ≤ 17592186044416) (hm : m ≤ 17592186044416) :
    Calls Try.prog 12 #[.slice A n c, .slice A' m c'] w (Drew (.bool false) w) := by
  have h0 : (((n : Nat) : Int) != (m : Int)) = true := by simp; omega
  go_enter Try.func12, Try.ntmps12
  go_wp2
  go_ret
  exact ⟨rfl, Below.refl _ _⟩

/-- Same tells whether they are the same. -/
theorem same_any (A A' : Option Addr) (n m c c' B B' : Nat) (xs ys : List Int) (q : Bool) (w : World) (h : Nums w B 1 A n xs) (h' : Nums w B' 1 A' m ys) (hq : Hid (q = true ↔ xs = ys)) (hn : n ≤ 17592186044416) (hm : m ≤ 17592186044416) :
    Calls Try.prog 12 #[.slice A n c, .slice A' m c'] w (Drew (.bool q) w) := by
  have l1 := h.1
  have l2 := h'.1
  have hq' := hq.out
  cases q
  · have hne : xs ≠ ys := fun e => by simp [e] at hq'
    by_cases e : n = m
    · subst e
      exact same_no A A' n c c' B B' xs ys w h h' hne hn
    · exact same_len A A' n m c c' w e hn hm
  · obtain rfl := hq'.1 rfl
    obtain rfl : n = m := by omega
    exact same_yes A A' n c c' B B' xs w h h' hn

set_option maxHeartbeats 400000 in
theorem rhas_yes (A : Option Addr) (n c B : Nat) (zs : List Int) (x : Int) (w : World) (h : Nums w B 1 A n zs) (hx : Hid (zs.contains x = true)) (hn : n ≤ 17592186044416) :
    Calls Try.prog 19 #[.slice A n c, .int .i64 x] w fun e w' => e = .returned (.bool true) ∧ w = w' := by
  have HL : Hid (zs.length = n) := by have := h.1; show _ = _; omega
  go_enter Try.func19, Try.ntmps19
  go_wp2
  go_loopw [9] (fun i wr => ∃ k : Nat, k ≤ n ∧ i = .int .i64 k ∧ Hid ((zs.take k).contains x = false) ∧ wr = w) (fun i _ => n - (intOf i).toNat)
  case atStart => exact ⟨0, by omega, rfl, rfl, rfl⟩
  case round =>
    obtain ⟨k, hk, rfl, HS, rfl⟩ := hrel
    by_cases hlt : k < n
    · obtain ⟨b, off, rfl, _, hc⟩ := h.at_ hlt
      have HN := hide (contains_take (l := zs) (n := x) (k := k) (by have := HL.out; omega))
      generalize zs.getD k 0 = z at hc HN
      by_cases e : z = x
      · subst e
        go_wp2
        go_ret
        exact ⟨rfl, rfl⟩
      · have HS' : Hid ((zs.take (k + 1)).contains x = false) := by show _ = _; rw [HN.out, HS.out]; simpa using e
        have t1 : (z == x) = false := by simpa using e
        clear e
        go_wp2
        go_roundw
        case rel => exact ⟨k + 1, by omega, by go_num, HS', trivial⟩
        case measure => simp [intOf]; omega
    · have e := HS.out
      rw [List.take_of_length_le (by have := HL.out; omega), hx.out] at e
      cases e

set_option maxHeartbeats 400000 in
theorem rhas_no (A : Option Addr) (n c B : Nat) (zs : List Int) (x : Int) (w : World) (h : Nums w B 1 A n zs) (hx : Hid (zs.contains x = false)) (hn : n ≤ 17592186044416) :
    Calls Try.prog 19 #[.slice A n c, .int .i64 x] w fun e w' => e = .returned (.bool false) ∧ w = w' := by
  have HL : Hid (zs.length = n) := by have := h.1; show _ = _; omega
  go_enter Try.func19, Try.ntmps19
  go_wp2
  go_loopw [9] (fun i wr => ∃ k : Nat, k ≤ n ∧ i = .int .i64 k ∧ wr = w) (fun i _ => n - (intOf i).toNat)
  case atStart => exact ⟨0, by omega, rfl, rfl⟩
  case round =>
    obtain ⟨k, hk, rfl, rfl⟩ := hrel
    by_cases hlt : k < n
    · obtain ⟨b, off, rfl, _, hc⟩ := h.at_ hlt
      have HN : Hid (zs.getD k 0 ≠ x) := fun e => by
        have h1 := hx.out
        have h2 : k < zs.length := by have := HL.out; omega
        have h3 : x ∈ zs := by rw [← e]; simp [h2]
        simp [h3] at h1
      generalize zs.getD k 0 = z at hc HN
      have t1 : (z == x) = false := by simpa using HN.out
      go_wp2
      go_roundw
      case rel => exact ⟨k + 1, by omega, by go_num, trivial⟩
      case measure => simp [intOf]; omega
    · go_wp2
      go_ret
      exact ⟨rfl, rfl⟩

set_option maxHeartbeats 400000 in
theorem index_yes (A : Option Addr) (n c B : Nat) (zs : List Int) (x : Int) (w : World) (h : Nums w B 1 A n zs) (hx : Hid (zs.contains x = true)) (hn : n ≤ 17592186044416) :
    Calls Try.prog 28 #[.slice A n c, .int .i64 x] w fun e w' => (∃ k : Nat, k ≤ 17592186044416 ∧ e = .returned (.int .i64 (k : Int))) ∧ w = w' := by
  have HL : Hid (zs.length = n) := by have := h.1; show _ = _; omega
  go_enter Try.func28, Try.ntmps28
  go_wp2
  go_loopw [8] (fun i wr => ∃ k : Nat, k ≤ n ∧ i = .int .i64 k ∧ Hid ((zs.take k).contains x = false) ∧ wr = w) (fun i _ => n - (intOf i).toNat)
  case atStart => exact ⟨0, by omega, rfl, rfl, rfl⟩
  case round =>
    obtain ⟨k, hk, rfl, HS, rfl⟩ := hrel
    by_cases hlt : k < n
    · obtain ⟨b, off, rfl, _, hc⟩ := h.at_ hlt
      have HN := hide (contains_take (l := zs) (n := x) (k := k) (by have := HL.out; omega))
      generalize zs.getD k 0 = z at hc HN
      by_cases e : z = x
      · subst e
        go_wp2
        go_ret
        exact ⟨⟨k, by omega, rfl⟩, rfl⟩
      · have HS' : Hid ((zs.take (k + 1)).contains x = false) := by show _ = _; rw [HN.out, HS.out]; simpa using e
        have t1 : (x == z) = false := by simpa using fun h => e h.symm
        clear e
        go_wp2
        go_roundw
        case rel => exact ⟨k + 1, by omega, by go_num, HS', trivial⟩
        case measure => simp [intOf]; omega
    · have e := HS.out
      rw [List.take_of_length_le (by have := HL.out; omega), hx.out] at e
      cases e

set_option maxHeartbeats 400000 in
theorem index_no (A : Option Addr) (n c B : Nat) (zs : List Int) (x : Int) (w : World) (h : Nums w B 1 A n zs) (hx : Hid (zs.contains x = false)) (hn : n ≤ 17592186044416) :
    Calls Try.prog 28 #[.slice A n c, .int .i64 x] w fun e w' => e = .returned (.int .i64 (-1)) ∧ w = w' := by
  have HL : Hid (zs.length = n) := by have := h.1; show _ = _; omega
  go_enter Try.func28, Try.ntmps28
  go_wp2
  go_loopw [8] (fun i wr => ∃ k : Nat, k ≤ n ∧ i = .int .i64 k ∧ wr = w) (fun i _ => n - (intOf i).toNat)
  case atStart => exact ⟨0, by omega, rfl, rfl⟩
  case round =>
    obtain ⟨k, hk, rfl, rfl⟩ := hrel
    by_cases hlt : k < n
    · obtain ⟨b, off, rfl, _, hc⟩ := h.at_ hlt
      have HN : Hid (zs.getD k 0 ≠ x) := fun e => by
        have h1 := hx.out
        have h2 : k < zs.length := by have := HL.out; omega
        have h3 : x ∈ zs := by rw [← e]; simp [h2]
        simp [h3] at h1
      generalize zs.getD k 0 = z at hc HN
      have t1 : (x == z) = false := by simpa using fun h => HN.out h.symm
      go_wp2
      go_roundw
      case rel => exact ⟨k + 1, by omega, by go_num, trivial⟩
      case measure => simp [intOf]; omega
    · go_wp2
      go_ret
      exact ⟨rfl, rfl⟩

theorem rhas_any (A : Option Addr) (n c B : Nat) (zs : List Int) (x : Int) (q : Bool) (w : World) (h : Nums w B 1 A n zs) (hq : Hid (zs.contains x = q)) (hn : n ≤ 17592186044416) :
    Calls Try.prog 19 #[.slice A n c, .int .i64 x] w fun e w' => e = .returned (.bool q) ∧ w = w' := by
  cases q
  · exact rhas_no A n c B zs x w h hq hn
  · exact rhas_yes A n c B zs x w h hq hn

set_option maxHeartbeats 400000 in
theorem contains_any (A : Option Addr) (n c B : Nat) (zs : List Int) (x : Int) (q : Bool) (w : World) (h : Nums w B 1 A n zs) (hq : Hid (zs.contains x = q)) (hn : n ≤ 17592186044416) :
    Calls Try.prog 26 #[.slice A n c, .int .i64 x] w fun e w' => e = .returned (.bool q) ∧ w = w' := by
  cases q
  · go_enter Try.func26, Try.ntmps26
    go_wp2_with fail
    refine (index_no A n c B zs x w h hq hn).mono ?_
    rintro e w' ⟨rfl, rfl⟩
    go_wp2
    go_ret
    exact ⟨rfl, rfl⟩
  · go_enter Try.func26, Try.ntmps26
    go_wp2_with fail
    refine (index_yes A n c B zs x w h hq hn).mono ?_
    rintro e w' ⟨⟨k, hk, rfl⟩, rfl⟩
    have t1 : decide ((0 : Int) ≤ (k : Int)) = true := by simp
    go_wp2
    go_ret
    exact ⟨rfl, rfl⟩

set_option maxHeartbeats 400000 in
theorem has_any (A : Option Addr) (n c B : Nat) (zs : List Int) (x : Int) (q : Bool) (w : World) (h : Nums w B 1 A n zs) (hq : Hid (zs.contains x = q)) (hn : n ≤ 17592186044416) :
    Calls Try.prog 18 #[.slice A n c, .int .i64 x] w fun e w' => e = .returned (.bool q) ∧ w = w' := by
  go_enter Try.func18, Try.ntmps18
  go_wp2_with fail
  refine (contains_any A n c B zs x q w h hq hn).mono ?_
  rintro e w' ⟨rfl, rfl⟩
  go_wp2
  go_ret
  exact ⟨rfl, rfl⟩

set_option maxHeartbeats 400000 in
theorem chk_any (A : Option Addr) (n c B : Nat) (zs : List Int) (q : Bool) (w : World) (h : Nums w B 1 A n zs) (hq : Hid (q = true ↔ Ups zs)) (hn : n ≤ 17592186044416) :
    Calls Try.prog 14 #[.slice A n c] w (Drew (.int .i64 (errOf q)) w) := by
  have HL : Hid (zs.length = n) := by have := h.1; show _ = _; omega
  go_enter Try.func14, Try.ntmps14
  go_wp2
  go_loopw [3] (fun i wr => ∃ k d : Nat, 1 ≤ k ∧ k ≤ n + 1 ∧ i = .int .i64 k ∧ Hid (∀ j, j + 1 < k → j + 1 < n → zs.getD j 0 < zs.getD (j + 1) 0) ∧ wr = w.drewN d) (fun i _ => n + 1 - (intOf i).toNat)
  case atStart => exact ⟨1, 0, by omega, by omega, rfl, (fun j hj => by omega), rfl⟩
  case round =>
    obtain ⟨k, d, hk1, hk, rfl, HS, rfl⟩ := hrel
    by_cases hlt : k < n
    · obtain ⟨b, off, rfl, _, hc⟩ := h.at_ hlt
      obtain ⟨j, rfl⟩ : ∃ j, k = j + 1 := ⟨k - 1, by omega⟩
      obtain ⟨b1, off1, e1, _, hc1⟩ := h.at_ (k := j) (by omega)
      simp only [Option.some.injEq, Addr.mk.injEq, and_true] at e1
      obtain ⟨rfl, rfl⟩ := e1
      have i1 : (0 : Int) ≤ (j : Int) := by omega
      have i2 : ((j : Int)) < (n : Int) := by omega
      by_cases e : zs.getD j 0 < zs.getD (j + 1) 0
      · have HS' : Hid (∀ i, i + 1 < j + 1 + 1 → i + 1 < n → zs.getD i 0 < zs.getD (i + 1) 0) := fun i hi h2 => by
          by_cases ei : i = j
          · subst ei; exact e
          · exact HS.out i (by omega) h2
        clear HS
        generalize zs.getD j 0 = x at hc1 e
        generalize zs.getD (j + 1) 0 = y at hc e
        have t1 : decide (y ≤ x) = false := by simp; omega
        clear e
        go_wp2
        go_quiet (fail)
        go_wp2
        go_roundw
        case rel => exact ⟨j + 2, _, by omega, by omega, by go_num, HS', rfl⟩
        case measure => simp [intOf]; omega
      · have HF : Hid (q = false) := by
          cases q
          · rfl
          · exact absurd (hq.out.1 rfl j (by have := HL.out; omega)) e
        generalize zs.getD j 0 = x at hc1 e
        generalize zs.getD (j + 1) 0 = y at hc e
        have t1 : decide (y ≤ x) = true := by simp; omega
        clear e HS
        go_wp2
        go_quiet (fail)
        go_wp2
        go_ret
        rw [HF.out]
        exact ⟨rfl, Below.drewN (Below.drewN (Below.refl _ _) _) _⟩
    · have HF : Hid (q = true) := hq.out.2 fun i hi => HS.out i (by have := HL.out; omega) (by have := HL.out; omega)
      go_wp2
      go_ret
      rw [HF.out]
      exact ⟨rfl, Below.drewN (Below.refl _ _) _⟩

set_option maxHeartbeats 400000 in
theorem rchk_any (A : Option Addr) (n c B : Nat) (zs : List Int) (q : Bool) (w : World) (h : Nums w B 1 A n zs) (hq : Hid (q = true ↔ Ups zs)) (hn : n ≤ 17592186044416) :
    Calls Try.prog 15 #[.slice A n c] w (Drew (.int .i64 (errOf q)) w) := by
  have HL : Hid (zs.length = n) := by have := h.1; show _ = _; omega
  go_enter Try.func15, Try.ntmps15
  go_wp2
  go_loopw [3] (fun i wr => ∃ k d : Nat, 1 ≤ k ∧ k ≤ n + 1 ∧ i = .int .i64 k ∧ Hid (∀ j, j + 1 < k → j + 1 < n → zs.getD j 0 < zs.getD (j + 1) 0) ∧ wr = w.drewN d) (fun i _ => n + 1 - (intOf i).toNat)
  case atStart => exact ⟨1, 0, by omega, by omega, rfl, (fun j hj => by omega), rfl⟩
  case round =>
    obtain ⟨k, d, hk1, hk, rfl, HS, rfl⟩ := hrel
    by_cases hlt : k < n
    · obtain ⟨b, off, rfl, _, hc⟩ := h.at_ hlt
      obtain ⟨j, rfl⟩ : ∃ j, k = j + 1 := ⟨k - 1, by omega⟩
      obtain ⟨b1, off1, e1, _, hc1⟩ := h.at_ (k := j) (by omega)
      simp only [Option.some.injEq, Addr.mk.injEq, and_true] at e1
      obtain ⟨rfl, rfl⟩ := e1
      have i1 : (0 : Int) ≤ (j : Int) := by omega
      have i2 : ((j : Int)) < (n : Int) := by omega
      by_cases e : zs.getD j 0 < zs.getD (j + 1) 0
      · have HS' : Hid (∀ i, i + 1 < j + 1 + 1 → i + 1 < n → zs.getD i 0 < zs.getD (i + 1) 0) := fun i hi h2 => by
          by_cases ei : i = j
          · subst ei; exact e
          · exact HS.out i (by omega) h2
        clear HS
        generalize zs.getD j 0 = x at hc1 e
        generalize zs.getD (j + 1) 0 = y at hc e
        have t1 : decide (y ≤ x) = false := by simp; omega
        clear e
        go_wp2
        go_quiet (fail)
        go_wp2
        go_roundw
        case rel => exact ⟨j + 2, _, by omega, by omega, by go_num, HS', rfl⟩
        case measure => simp [intOf]; omega
      · have HF : Hid (q = false) := by
          cases q
          · rfl
          · exact absurd (hq.out.1 rfl j (by have := HL.out; omega)) e
        generalize zs.getD j 0 = x at hc1 e
        generalize zs.getD (j + 1) 0 = y at hc e
        have t1 : decide (y ≤ x) = true := by simp; omega
        clear e HS
        go_wp2
        go_quiet (fail)
        go_wp2
        go_ret
        rw [HF.out]
        exact ⟨rfl, Below.drewN (Below.drewN (Below.refl _ _) _) _⟩
    · have HF : Hid (q = true) := hq.out.2 fun i hi => HS.out i (by have := HL.out; omega) (by have := HL.out; omega)
      go_wp2
      go_ret
      rw [HF.out]
      exact ⟨rfl, Below.drewN (Below.refl _ _) _⟩

set_option maxHeartbeats 400000 in
theorem above_any (A : Option Addr) (n c B : Nat) (zs : List Int) (a r : Int) (q : Bool) (w : World) (h : Nums w B 1 A n zs) (hq : Hid (pick (fun z => decide (a < z)) zs = (r, q))) (hn : n ≤ 17592186044416) :
    Calls Try.prog 16 #[.slice A n c, .int .i64 a] w fun e w' => e = .returned (.tuple #[.int .i64 r, .bool q]) ∧ w = w' := by
  have HL : Hid (zs.length = n) := by have := h.1; show _ = _; omega
  go_enter Try.func16, Try.ntmps16
  go_wp2
  go_loopw [6, 7, 12] (fun x y i wr => ∃ (k : Nat) (b : Int) (m : Bool), k ≤ n ∧ i = .int .i64 k ∧ x = .int .i64 b ∧ y = .bool m ∧ Hid (pick (fun z => decide (a < z)) (zs.take k) = (b, m)) ∧ wr = w) (fun _ _ i _ => n - (intOf i).toNat)
  case atStart => exact ⟨0, 0, false, by omega, rfl, rfl, rfl, rfl, rfl⟩
  case round =>
    obtain ⟨k, b, m, hk, rfl, rfl, rfl, HP, rfl⟩ := hrel
    by_cases hlt : k < n
    · obtain ⟨g, off, rfl, _, hc⟩ := h.at_ hlt
      have HT := hide (take_snoc (l := zs) (k := k) (by have := HL.out; omega))
      generalize zs.getD k 0 = z at hc HT
      by_cases c1 : a < z
      · cases m
        · have t1 : decide (a < z) = true := by simp; omega
          have HP' : Hid (pick (fun z => decide (a < z)) (zs.take (k + 1)) = (z, true)) := by show _ = _; rw [HT.out, pick_snoc, HP.out]; simp [t1]
          clear HP HT
          go_wp2
          go_roundw
          case rel => exact ⟨k + 1, z, true, by omega, by go_num, rfl, rfl, HP', trivial⟩
          case measure => simp [intOf]; omega
        · by_cases c2 : z < b
          · have t1 : decide (a < z) = true := by simp; omega
            have t2 : decide (z < b) = true := by simp; omega
            have HP' : Hid (pick (fun z => decide (a < z)) (zs.take (k + 1)) = (z, true)) := by show _ = _; rw [HT.out, pick_snoc, HP.out]; simp [t1, t2]
            clear HP HT
            go_wp2
            go_roundw
            case rel => exact ⟨k + 1, z, true, by omega, by go_num, rfl, rfl, HP', trivial⟩
            case measure => simp [intOf]; omega
          · have t1 : decide (a < z) = true := by simp; omega
            have t2 : decide (z < b) = false := by simp; omega
            have HP' : Hid (pick (fun z => decide (a < z)) (zs.take (k + 1)) = (b, true)) := by show _ = _; rw [HT.out, pick_snoc, HP.out]; simp [t1, t2]
            clear HP HT
            go_wp2
            go_roundw
            case rel => exact ⟨k + 1, b, true, by omega, by go_num, rfl, rfl, HP', trivial⟩
            case measure => simp [intOf]; omega
      · cases m
        · have t1 : decide (a < z) = false := by simp; omega
          have HP' : Hid (pick (fun z => decide (a < z)) (zs.take (k + 1)) = (b, false)) := by show _ = _; rw [HT.out, pick_snoc, HP.out]; simp [t1]
          clear HP HT
          go_wp2
          go_roundw
          case rel => exact ⟨k + 1, b, false, by omega, by go_num, rfl, rfl, HP', trivial⟩
          case measure => simp [intOf]; omega
        · have t1 : decide (a < z) = false := by simp; omega
          have HP' : Hid (pick (fun z => decide (a < z)) (zs.take (k + 1)) = (b, true)) := by show _ = _; rw [HT.out, pick_snoc, HP.out]; simp [t1]
          clear HP HT
          go_wp2
          go_roundw
          case rel => exact ⟨k + 1, b, true, by omega, by go_num, rfl, rfl, HP', trivial⟩
          case measure => simp [intOf]; omega
    · have e := HP.out
      rw [List.take_of_length_le (by have := HL.out; omega), hq.out] at e
      simp only [Prod.mk.injEq] at e
      obtain ⟨rfl, rfl⟩ := e
      go_wp2
      go_ret2
      exact ⟨rfl, rfl⟩

set_option maxHeartbeats 400000 in
theorem rabove_any (A : Option Addr) (n c B : Nat) (zs : List Int) (a r : Int) (q : Bool) (w : World) (h : Nums w B 1 A n zs) (hq : Hid (pick (fun z => decide (a < z)) zs = (r, q))) (hn : n ≤ 17592186044416) :
    Calls Try.prog 17 #[.slice A n c, .int .i64 a] w fun e w' => e = .returned (.tuple #[.int .i64 r, .bool q]) ∧ w = w' := by
  have HL : Hid (zs.length = n) := by have := h.1; show _ = _; omega
  go_enter Try.func17, Try.ntmps17
  go_wp2
  go_loopw [6, 7, 12] (fun x y i wr => ∃ (k : Nat) (b : Int) (m : Bool), k ≤ n ∧ i = .int .i64 k ∧ x = .int .i64 b ∧ y = .bool m ∧ Hid (pick (fun z => decide (a < z)) (zs.take k) = (b, m)) ∧ wr = w) (fun _ _ i _ => n - (intOf i).toNat)
  case atStart => exact ⟨0, 0, false, by omega, rfl, rfl, rfl, rfl, rfl⟩
  case round =>
    obtain ⟨k, b, m, hk, rfl, rfl, rfl, HP, rfl⟩ := hrel
    by_cases hlt : k < n
    · obtain ⟨g, off, rfl, _, hc⟩ := h.at_ hlt
      have HT := hide (take_snoc (l := zs) (k := k) (by have := HL.out; omega))
      generalize zs.getD k 0 = z at hc HT
      by_cases c1 : a < z
      · cases m
        · have t1 : decide (a < z) = true := by simp; omega
          have HP' : Hid (pick (fun z => decide (a < z)) (zs.take (k + 1)) = (z, true)) := by show _ = _; rw [HT.out, pick_snoc, HP.out]; simp [t1]
          clear HP HT
          go_wp2
          go_roundw
          case rel => exact ⟨k + 1, z, true, by omega, by go_num, rfl, rfl, HP', trivial⟩
          case measure => simp [intOf]; omega
        · by_cases c2 : z < b
          · have t1 : decide (a < z) = true := by simp; omega
            have t2 : decide (z < b) = true := by simp; omega
            have HP' : Hid (pick (fun z => decide (a < z)) (zs.take (k + 1)) = (z, true)) := by show _ = _; rw [HT.out, pick_snoc, HP.out]; simp [t1, t2]
            clear HP HT
            go_wp2
            go_roundw
            case rel => exact ⟨k + 1, z, true, by omega, by go_num, rfl, rfl, HP', trivial⟩
            case measure => simp [intOf]; omega
          · have t1 : decide (a < z) = true := by simp; omega
            have t2 : decide (z < b) = false := by simp; omega
            have HP' : Hid (pick (fun z => decide (a < z)) (zs.take (k + 1)) = (b, true)) := by show _ = _; rw [HT.out, pick_snoc, HP.out]; simp [t1, t2]
            clear HP HT
            go_wp2
            go_roundw
            case rel => exact ⟨k + 1, b, true, by omega, by go_num, rfl, rfl, HP', trivial⟩
            case measure => simp [intOf]; omega
      · cases m
        · have t1 : decide (a < z) = false := by simp; omega
          have HP' : Hid (pick (fun z => decide (a < z)) (zs.take (k + 1)) = (b, false)) := by show _ = _; rw [HT.out, pick_snoc, HP.out]; simp [t1]
          clear HP HT
          go_wp2
          go_roundw
          case rel => exact ⟨k + 1, b, false, by omega, by go_num, rfl, rfl, HP', trivial⟩
          case measure => simp [intOf]; omega
        · have t1 : decide (a < z) = false := by simp; omega
          have HP' : Hid (pick (fun z => decide (a < z)) (zs.take (k + 1)) = (b, true)) := by show _ = _; rw [HT.out, pick_snoc, HP.out]; simp [t1]
          clear HP HT
          go_wp2
          go_roundw
          case rel => exact ⟨k + 1, b, true, by omega, by go_num, rfl, rfl, HP', trivial⟩
          case measure => simp [intOf]; omega
    · have e := HP.out
      rw [List.take_of_length_le (by have := HL.out; omega), hq.out] at e
      simp only [Prod.mk.injEq] at e
      obtain ⟨rfl, rfl⟩ := e
      go_wp2
      go_ret2
      exact ⟨rfl, rfl⟩

set_option maxHeartbeats 400000 in
theorem rwithin_any (A A' : Option Addr) (n m c c' B B' : Nat) (xs ys : List Int) (q : Bool) (w : World) (h : Nums w B 1 A n xs) (h' : Nums w B' 1 A' m ys) (hq : Hid (within xs ys = q)) (hn : n ≤ 17592186044416) (hm : m ≤ 17592186044416) :
    Calls Try.prog 21 #[.slice A n c, .slice A' m c'] w fun e w' => e = .returned (.bool q) ∧ w = w' := by
  have HL : Hid (xs.length = n) := by have := h.1; show _ = _; omega
  go_enter Try.func21, Try.ntmps21
  go_wp2
  go_loopw [9] (fun i wr => ∃ k : Nat, k ≤ n ∧ i = .int .i64 k ∧ Hid (∀ j, j < k → ys.contains (xs.getD j 0) = true) ∧ wr = w) (fun i _ => n - (intOf i).toNat)
  case atStart => exact ⟨0, by omega, rfl, (fun j hj => by omega), rfl⟩
  case round =>
    obtain ⟨k, hk, rfl, HS, rfl⟩ := hrel
    by_cases hlt : k < n
    · obtain ⟨b, off, rfl, _, hc⟩ := h.at_ hlt
      cases e : ys.contains (xs.getD k 0)
      · have HF : Hid (q = false) := by
          rw [← hq.out]
          exact not_within (by have := HL.out; omega) e
        have HE := hide e
        clear e HS
        generalize xs.getD k 0 = z at hc HE
        go_wp2_with fail
        refine (rhas_no A' m c' B' ys z wr h' HE hm).mono ?_
        rintro e w' ⟨rfl, rfl⟩
        go_wp2
        go_ret
        rw [HF.out]
        exact ⟨rfl, rfl⟩
      · have HS' : Hid (∀ j, j < k + 1 → ys.contains (xs.getD j 0) = true) := fun j hj => by
          by_cases ej : j = k
          · subst ej; exact e
          · exact HS.out j (by omega)
        have HE := hide e
        clear e HS
        generalize xs.getD k 0 = z at hc HE
        go_wp2_with fail
        refine (rhas_yes A' m c' B' ys z wr h' HE hm).mono ?_
        rintro e w' ⟨rfl, rfl⟩
        go_wp2
        go_roundw
        case rel => exact ⟨k + 1, by omega, by go_num, HS', trivial⟩
        case measure => simp [intOf]; omega
    · have HF : Hid (q = true) := by
        rw [← hq.out]
        exact all_within fun j hj => HS.out j (by have := HL.out; omega)
      go_wp2
      go_ret
      rw [HF.out]
      exact ⟨rfl, rfl⟩

end Go.Proofs.Ytijiolkjnlgleaa
