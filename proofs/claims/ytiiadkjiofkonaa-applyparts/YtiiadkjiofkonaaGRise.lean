/- Whether a list rises. -/
import Derived.Test.YtiiadkjiofkonaaGClos
import Derived.WalkKit
import Derived.Below
import Derived.Deep.QuietTactic
import Derived.BigQuiet
import Derived.Deep.RegionHeld3
import Derived.Shelf.Abstract
namespace Go.Proofs.Ytiiadkjiofkonaa
open Go.RowKit
set_option linter.unusedVariables false

set_option maxRecDepth 100000 in
set_option maxHeartbeats 4000000 in
theorem risesE_any (A : Option Addr) (n c : Nat) (L : List Ed) (q : Bool) (w : World) (hN : Nums w w.heap.size 3 A n (flat3 L)) (hn : n ≤ 1000) (hq : Hid (q = true ↔ Rise (fun z : Ed => z.1) (0, 0, 0) L)) :
    Calls Try.prog 128 #[.slice A n c, .func (.func 57) #[] #[]] w (Drew (.bool q) w) := by
  have HN := hide hN
  have HL := hide (edges_len hN)
  clear hN
  go_enter Try.func128, Try.ntmps128
  go_wp2
  go_loopw [5] (fun i wr => ∃ k : Nat, 1 ≤ k ∧ k ≤ n + 1 ∧ i = .int .i64 k ∧ Hid (∀ j, j + 1 < k → j + 1 < n → (L.getD j (0, 0, 0)).1 < (L.getD (j + 1) (0, 0, 0)).1) ∧ Hid (Below w.heap.size w wr)) (fun i _ => n + 1 - (intOf i).toNat)
  case atStart => exact ⟨1, by omega, by omega, rfl, (fun j hj => by omega), Below.refl _ _⟩
  case round =>
    obtain ⟨k, hk1, hk, rfl, HS, HB⟩ := hrel
    by_cases hlt : k < n
    · obtain ⟨j, rfl⟩ : ∃ j, k = j + 1 := ⟨k - 1, by omega⟩
      obtain ⟨b00, off0, e00, hb00, c00, c10, c20⟩ := edge_at (k := j) (HN.out.below HB.out (Nat.le_refl _)) (show j < n by omega)
      obtain ⟨b01, off1, e01, hb01, c01, c11, c21⟩ := edge_at (k := (j + 1)) (HN.out.below HB.out (Nat.le_refl _)) (by omega)
      subst e00
      simp only [Option.some.injEq, Addr.mk.injEq, and_true] at e01
      obtain ⟨rfl, rfl⟩ := e01
      generalize (L.getD j (0, 0, 0)).2.1 = b0 at c10
      generalize (L.getD j (0, 0, 0)).2.2 = d0 at c20
      generalize (L.getD (j + 1) (0, 0, 0)).2.1 = b1 at c11
      generalize (L.getD (j + 1) (0, 0, 0)).2.2 = d1 at c21
      have i1 : (0 : Int) ≤ (j : Int) := by omega
      have i2 : ((j : Int)) < (n : Int) := by omega
      have i3 : (0 : Int) ≤ (j : Int) + 1 := by omega
      have i4 : (j : Int) + 1 < (n : Int) := by omega
      have i5 : IntKind.i64.wrap ((j : Int) + 1 - 1) = (j : Int) := by simp [IntKind.wrap, IntKind.bits, IntKind.signed]; omega
      have i6 : IntKind.i64.wrap (j : Int) = (j : Int) := by simp [IntKind.wrap, IntKind.bits, IntKind.signed]; omega
      have HBW : Hid (b00 < wr.heap.size) := Nat.lt_of_lt_of_le hb00 HB.out.size
      have D0 := hide ((Below.refl wr.heap.size wr).drew)
      by_cases e : (L.getD j (0, 0, 0)).1 < (L.getD (j + 1) (0, 0, 0)).1
      · have HS' : Hid (∀ i, i + 1 < j + 1 + 1 → i + 1 < n → (L.getD i (0, 0, 0)).1 < (L.getD (i + 1) (0, 0, 0)).1) := fun i hi h2 => by
          by_cases ei : i = j
          · subst ei; exact e
          · exact HS.out i (by omega) h2
        clear HS
        generalize (L.getD j (0, 0, 0)).1 = x at c00 e
        generalize (L.getD (j + 1) (0, 0, 0)).1 = y at c01 e
        have t1 : decide (y ≤ x) = false := by simp; omega
        clear e
        have RD : Hid (∀ u, Hid (Below wr.heap.size wr u) → (fun u => u.cell? ⟨b00, off0 + j * 3, none⟩ = some (.int .i64 x) ∧ u.cell? ⟨b00, off0 + j * 3 + 1, none⟩ = some (.int .i64 b0) ∧ u.cell? ⟨b00, off0 + j * 3 + 2, none⟩ = some (.int .i64 d0) ∧ u.cell? ⟨b00, off0 + (j + 1) * 3, none⟩ = some (.int .i64 y) ∧ u.cell? ⟨b00, off0 + (j + 1) * 3 + 1, none⟩ = some (.int .i64 b1) ∧ u.cell? ⟨b00, off0 + (j + 1) * 3 + 2, none⟩ = some (.int .i64 d1) ∧ Hid (Below wr.heap.size wr u)) u) := fun u hu => ⟨(hu.out.cell (p := ⟨b00, _, none⟩) HBW.out).trans c00, (hu.out.cell (p := ⟨b00, _, none⟩) HBW.out).trans c10, (hu.out.cell (p := ⟨b00, _, none⟩) HBW.out).trans c20, (hu.out.cell (p := ⟨b00, _, none⟩) HBW.out).trans c01, (hu.out.cell (p := ⟨b00, _, none⟩) HBW.out).trans c11, (hu.out.cell (p := ⟨b00, _, none⟩) HBW.out).trans c21, hu⟩
        have LST : Hid (∀ u u1, (fun u => u.cell? ⟨b00, off0 + j * 3, none⟩ = some (.int .i64 x) ∧ u.cell? ⟨b00, off0 + j * 3 + 1, none⟩ = some (.int .i64 b0) ∧ u.cell? ⟨b00, off0 + j * 3 + 2, none⟩ = some (.int .i64 d0) ∧ u.cell? ⟨b00, off0 + (j + 1) * 3, none⟩ = some (.int .i64 y) ∧ u.cell? ⟨b00, off0 + (j + 1) * 3 + 1, none⟩ = some (.int .i64 b1) ∧ u.cell? ⟨b00, off0 + (j + 1) * 3 + 2, none⟩ = some (.int .i64 d1) ∧ Hid (Below wr.heap.size wr u)) u → Below u.heap.size u u1 → Hid (Below wr.heap.size wr u1)) := fun u u1 h h1 => (h.2.2.2.2.2.2).out.trans (h1.mono (h.2.2.2.2.2.2).out.size)
        go_wp2
        go_region_held3 (fun u => u.cell? ⟨b00, off0 + j * 3, none⟩ = some (.int .i64 x) ∧ u.cell? ⟨b00, off0 + j * 3 + 1, none⟩ = some (.int .i64 b0) ∧ u.cell? ⟨b00, off0 + j * 3 + 2, none⟩ = some (.int .i64 d0) ∧ u.cell? ⟨b00, off0 + (j + 1) * 3, none⟩ = some (.int .i64 y) ∧ u.cell? ⟨b00, off0 + (j + 1) * 3 + 1, none⟩ = some (.int .i64 b1) ∧ u.cell? ⟨b00, off0 + (j + 1) * 3 + 2, none⟩ = some (.int .i64 d1) ∧ Hid (Below wr.heap.size wr u)) (first | exact RD.out _ D0 | exact RD.out _ (by assumption))
          ((go_at_call 57; refine (edgeNumber_any _ _ _ _).mono ?_; rintro r u1 ⟨rfl, hu1⟩; have BU := LST.out _ _ (by assumption) hu1))
        have BW := hide (HB.out.trans (BU.out.mono HB.out.size))
        go_wp2
        go_roundw
        case rel => exact ⟨j + 2, by omega, by omega, by go_num, HS', BW⟩
        case measure => simp [intOf]; omega
      · have HF : Hid (q = false) := by
          cases q
          · rfl
          · exact absurd (hq.out.1 rfl j (by have := HL.out; omega)) e
        generalize (L.getD j (0, 0, 0)).1 = x at c00 e
        generalize (L.getD (j + 1) (0, 0, 0)).1 = y at c01 e
        have t1 : decide (y ≤ x) = true := by simp; omega
        clear e HS
        have RD : Hid (∀ u, Hid (Below wr.heap.size wr u) → (fun u => u.cell? ⟨b00, off0 + j * 3, none⟩ = some (.int .i64 x) ∧ u.cell? ⟨b00, off0 + j * 3 + 1, none⟩ = some (.int .i64 b0) ∧ u.cell? ⟨b00, off0 + j * 3 + 2, none⟩ = some (.int .i64 d0) ∧ u.cell? ⟨b00, off0 + (j + 1) * 3, none⟩ = some (.int .i64 y) ∧ u.cell? ⟨b00, off0 + (j + 1) * 3 + 1, none⟩ = some (.int .i64 b1) ∧ u.cell? ⟨b00, off0 + (j + 1) * 3 + 2, none⟩ = some (.int .i64 d1) ∧ Hid (Below wr.heap.size wr u)) u) := fun u hu => ⟨(hu.out.cell (p := ⟨b00, _, none⟩) HBW.out).trans c00, (hu.out.cell (p := ⟨b00, _, none⟩) HBW.out).trans c10, (hu.out.cell (p := ⟨b00, _, none⟩) HBW.out).trans c20, (hu.out.cell (p := ⟨b00, _, none⟩) HBW.out).trans c01, (hu.out.cell (p := ⟨b00, _, none⟩) HBW.out).trans c11, (hu.out.cell (p := ⟨b00, _, none⟩) HBW.out).trans c21, hu⟩
        have LST : Hid (∀ u u1, (fun u => u.cell? ⟨b00, off0 + j * 3, none⟩ = some (.int .i64 x) ∧ u.cell? ⟨b00, off0 + j * 3 + 1, none⟩ = some (.int .i64 b0) ∧ u.cell? ⟨b00, off0 + j * 3 + 2, none⟩ = some (.int .i64 d0) ∧ u.cell? ⟨b00, off0 + (j + 1) * 3, none⟩ = some (.int .i64 y) ∧ u.cell? ⟨b00, off0 + (j + 1) * 3 + 1, none⟩ = some (.int .i64 b1) ∧ u.cell? ⟨b00, off0 + (j + 1) * 3 + 2, none⟩ = some (.int .i64 d1) ∧ Hid (Below wr.heap.size wr u)) u → Below u.heap.size u u1 → Hid (Below wr.heap.size wr u1)) := fun u u1 h h1 => (h.2.2.2.2.2.2).out.trans (h1.mono (h.2.2.2.2.2.2).out.size)
        go_wp2
        go_region_held3 (fun u => u.cell? ⟨b00, off0 + j * 3, none⟩ = some (.int .i64 x) ∧ u.cell? ⟨b00, off0 + j * 3 + 1, none⟩ = some (.int .i64 b0) ∧ u.cell? ⟨b00, off0 + j * 3 + 2, none⟩ = some (.int .i64 d0) ∧ u.cell? ⟨b00, off0 + (j + 1) * 3, none⟩ = some (.int .i64 y) ∧ u.cell? ⟨b00, off0 + (j + 1) * 3 + 1, none⟩ = some (.int .i64 b1) ∧ u.cell? ⟨b00, off0 + (j + 1) * 3 + 2, none⟩ = some (.int .i64 d1) ∧ Hid (Below wr.heap.size wr u)) (first | exact RD.out _ D0 | exact RD.out _ (by assumption))
          ((go_at_call 57; refine (edgeNumber_any _ _ _ _).mono ?_; rintro r u1 ⟨rfl, hu1⟩; have BU := LST.out _ _ (by assumption) hu1))
        have BW := hide (HB.out.trans (BU.out.mono HB.out.size))
        go_wp2
        go_ret
        rw [HF.out]
        exact ⟨rfl, BW.out⟩
    · have HF : Hid (q = true) := hq.out.2 fun i hi => HS.out i (by have := HL.out; omega) (by have := HL.out; omega)
      go_wp2
      go_ret
      rw [HF.out]
      exact ⟨rfl, HB.out⟩

set_option maxRecDepth 100000 in
set_option maxHeartbeats 4000000 in
theorem risesP_any (A : Option Addr) (n c : Nat) (L : List Pr) (q : Bool) (w : World) (hN : Nums w w.heap.size 2 A n (flat2 L)) (hn : n ≤ 1000) (hq : Hid (q = true ↔ Rise (fun z : Pr => z.1) (0, 0) L)) :
    Calls Try.prog 119 #[.slice A n c, .func (.func 75) #[] #[]] w (Drew (.bool q) w) := by
  have HN := hide hN
  have HL := hide (pairs_len hN)
  clear hN
  go_enter Try.func119, Try.ntmps119
  go_wp2
  go_loopw [5] (fun i wr => ∃ k : Nat, 1 ≤ k ∧ k ≤ n + 1 ∧ i = .int .i64 k ∧ Hid (∀ j, j + 1 < k → j + 1 < n → (L.getD j (0, 0)).1 < (L.getD (j + 1) (0, 0)).1) ∧ Hid (Below w.heap.size w wr)) (fun i _ => n + 1 - (intOf i).toNat)
  case atStart => exact ⟨1, by omega, by omega, rfl, (fun j hj => by omega), Below.refl _ _⟩
  case round =>
    obtain ⟨k, hk1, hk, rfl, HS, HB⟩ := hrel
    by_cases hlt : k < n
    · obtain ⟨j, rfl⟩ : ∃ j, k = j + 1 := ⟨k - 1, by omega⟩
      obtain ⟨b00, off0, e00, hb00, c00, c10⟩ := pair_at (k := j) (HN.out.below HB.out (Nat.le_refl _)) (show j < n by omega)
      obtain ⟨b01, off1, e01, hb01, c01, c11⟩ := pair_at (k := (j + 1)) (HN.out.below HB.out (Nat.le_refl _)) (by omega)
      subst e00
      simp only [Option.some.injEq, Addr.mk.injEq, and_true] at e01
      obtain ⟨rfl, rfl⟩ := e01
      generalize (L.getD j (0, 0)).2 = b0 at c10
      generalize (L.getD (j + 1) (0, 0)).2 = b1 at c11
      have i1 : (0 : Int) ≤ (j : Int) := by omega
      have i2 : ((j : Int)) < (n : Int) := by omega
      have i3 : (0 : Int) ≤ (j : Int) + 1 := by omega
      have i4 : (j : Int) + 1 < (n : Int) := by omega
      have i5 : IntKind.i64.wrap ((j : Int) + 1 - 1) = (j : Int) := by simp [IntKind.wrap, IntKind.bits, IntKind.signed]; omega
      have i6 : IntKind.i64.wrap (j : Int) = (j : Int) := by simp [IntKind.wrap, IntKind.bits, IntKind.signed]; omega
      have HBW : Hid (b00 < wr.heap.size) := Nat.lt_of_lt_of_le hb00 HB.out.size
      have D0 := hide ((Below.refl wr.heap.size wr).drew)
      by_cases e : (L.getD j (0, 0)).1 < (L.getD (j + 1) (0, 0)).1
      · have HS' : Hid (∀ i, i + 1 < j + 1 + 1 → i + 1 < n → (L.getD i (0, 0)).1 < (L.getD (i + 1) (0, 0)).1) := fun i hi h2 => by
          by_cases ei : i = j
          · subst ei; exact e
          · exact HS.out i (by omega) h2
        clear HS
        generalize (L.getD j (0, 0)).1 = x at c00 e
        generalize (L.getD (j + 1) (0, 0)).1 = y at c01 e
        have t1 : decide (y ≤ x) = false := by simp; omega
        clear e
        have RD : Hid (∀ u, Hid (Below wr.heap.size wr u) → (fun u => u.cell? ⟨b00, off0 + j * 2, none⟩ = some (.int .i64 x) ∧ u.cell? ⟨b00, off0 + j * 2 + 1, none⟩ = some (.int .i64 b0) ∧ u.cell? ⟨b00, off0 + (j + 1) * 2, none⟩ = some (.int .i64 y) ∧ u.cell? ⟨b00, off0 + (j + 1) * 2 + 1, none⟩ = some (.int .i64 b1) ∧ Hid (Below wr.heap.size wr u)) u) := fun u hu => ⟨(hu.out.cell (p := ⟨b00, _, none⟩) HBW.out).trans c00, (hu.out.cell (p := ⟨b00, _, none⟩) HBW.out).trans c10, (hu.out.cell (p := ⟨b00, _, none⟩) HBW.out).trans c01, (hu.out.cell (p := ⟨b00, _, none⟩) HBW.out).trans c11, hu⟩
        have LST : Hid (∀ u u1, (fun u => u.cell? ⟨b00, off0 + j * 2, none⟩ = some (.int .i64 x) ∧ u.cell? ⟨b00, off0 + j * 2 + 1, none⟩ = some (.int .i64 b0) ∧ u.cell? ⟨b00, off0 + (j + 1) * 2, none⟩ = some (.int .i64 y) ∧ u.cell? ⟨b00, off0 + (j + 1) * 2 + 1, none⟩ = some (.int .i64 b1) ∧ Hid (Below wr.heap.size wr u)) u → Below u.heap.size u u1 → Hid (Below wr.heap.size wr u1)) := fun u u1 h h1 => (h.2.2.2.2).out.trans (h1.mono (h.2.2.2.2).out.size)
        go_wp2
        go_region_held3 (fun u => u.cell? ⟨b00, off0 + j * 2, none⟩ = some (.int .i64 x) ∧ u.cell? ⟨b00, off0 + j * 2 + 1, none⟩ = some (.int .i64 b0) ∧ u.cell? ⟨b00, off0 + (j + 1) * 2, none⟩ = some (.int .i64 y) ∧ u.cell? ⟨b00, off0 + (j + 1) * 2 + 1, none⟩ = some (.int .i64 b1) ∧ Hid (Below wr.heap.size wr u)) (first | exact RD.out _ D0 | exact RD.out _ (by assumption))
          ((go_at_call 75; refine (key_any _ _ _).mono ?_; rintro r u1 ⟨rfl, hu1⟩; have BU := LST.out _ _ (by assumption) hu1))
        have BW := hide (HB.out.trans (BU.out.mono HB.out.size))
        go_wp2
        go_roundw
        case rel => exact ⟨j + 2, by omega, by omega, by go_num, HS', BW⟩
        case measure => simp [intOf]; omega
      · have HF : Hid (q = false) := by
          cases q
          · rfl
          · exact absurd (hq.out.1 rfl j (by have := HL.out; omega)) e
        generalize (L.getD j (0, 0)).1 = x at c00 e
        generalize (L.getD (j + 1) (0, 0)).1 = y at c01 e
        have t1 : decide (y ≤ x) = true := by simp; omega
        clear e HS
        have RD : Hid (∀ u, Hid (Below wr.heap.size wr u) → (fun u => u.cell? ⟨b00, off0 + j * 2, none⟩ = some (.int .i64 x) ∧ u.cell? ⟨b00, off0 + j * 2 + 1, none⟩ = some (.int .i64 b0) ∧ u.cell? ⟨b00, off0 + (j + 1) * 2, none⟩ = some (.int .i64 y) ∧ u.cell? ⟨b00, off0 + (j + 1) * 2 + 1, none⟩ = some (.int .i64 b1) ∧ Hid (Below wr.heap.size wr u)) u) := fun u hu => ⟨(hu.out.cell (p := ⟨b00, _, none⟩) HBW.out).trans c00, (hu.out.cell (p := ⟨b00, _, none⟩) HBW.out).trans c10, (hu.out.cell (p := ⟨b00, _, none⟩) HBW.out).trans c01, (hu.out.cell (p := ⟨b00, _, none⟩) HBW.out).trans c11, hu⟩
        have LST : Hid (∀ u u1, (fun u => u.cell? ⟨b00, off0 + j * 2, none⟩ = some (.int .i64 x) ∧ u.cell? ⟨b00, off0 + j * 2 + 1, none⟩ = some (.int .i64 b0) ∧ u.cell? ⟨b00, off0 + (j + 1) * 2, none⟩ = some (.int .i64 y) ∧ u.cell? ⟨b00, off0 + (j + 1) * 2 + 1, none⟩ = some (.int .i64 b1) ∧ Hid (Below wr.heap.size wr u)) u → Below u.heap.size u u1 → Hid (Below wr.heap.size wr u1)) := fun u u1 h h1 => (h.2.2.2.2).out.trans (h1.mono (h.2.2.2.2).out.size)
        go_wp2
        go_region_held3 (fun u => u.cell? ⟨b00, off0 + j * 2, none⟩ = some (.int .i64 x) ∧ u.cell? ⟨b00, off0 + j * 2 + 1, none⟩ = some (.int .i64 b0) ∧ u.cell? ⟨b00, off0 + (j + 1) * 2, none⟩ = some (.int .i64 y) ∧ u.cell? ⟨b00, off0 + (j + 1) * 2 + 1, none⟩ = some (.int .i64 b1) ∧ Hid (Below wr.heap.size wr u)) (first | exact RD.out _ D0 | exact RD.out _ (by assumption))
          ((go_at_call 75; refine (key_any _ _ _).mono ?_; rintro r u1 ⟨rfl, hu1⟩; have BU := LST.out _ _ (by assumption) hu1))
        have BW := hide (HB.out.trans (BU.out.mono HB.out.size))
        go_wp2
        go_ret
        rw [HF.out]
        exact ⟨rfl, BW.out⟩
    · have HF : Hid (q = true) := hq.out.2 fun i hi => HS.out i (by have := HL.out; omega) (by have := HL.out; omega)
      go_wp2
      go_ret
      rw [HF.out]
      exact ⟨rfl, HB.out⟩

set_option maxRecDepth 100000 in
set_option maxHeartbeats 4000000 in
theorem risesN_any (v : Sl) (L : List Nd) (q : Bool) (w : World) (hN : Nodes w w.heap.size v L) (hn : v.n ≤ 1000) (hq : Hid (q = true ↔ Rise (fun z : Nd => z.1) (0, []) L)) :
    Calls Try.prog 127 #[.slice v.A v.n v.c, .func (.func 64) #[] #[]] w (Drew (.bool q) w) := by
  obtain ⟨A, n, c⟩ := v
  have HN := hide hN
  have HL : Hid (n = L.length) := hN.1.symm
  dsimp only at hn
  clear hN
  go_enter Try.func127, Try.ntmps127
  go_wp2
  go_loopw [5] (fun i wr => ∃ k : Nat, 1 ≤ k ∧ k ≤ n + 1 ∧ i = .int .i64 k ∧ Hid (∀ j, j + 1 < k → j + 1 < n → (L.getD j (0, [])).1 < (L.getD (j + 1) (0, [])).1) ∧ Hid (Below w.heap.size w wr)) (fun i _ => n + 1 - (intOf i).toNat)
  case atStart => exact ⟨1, by omega, by omega, rfl, (fun j hj => by omega), Below.refl _ _⟩
  case round =>
    obtain ⟨k, hk1, hk, rfl, HS, HB⟩ := hrel
    by_cases hlt : k < n
    · obtain ⟨j, rfl⟩ : ∃ j, k = j + 1 := ⟨k - 1, by omega⟩
      obtain ⟨b00, off0, e00, hb00, c00, ⟨hA0, hh0, hcc0⟩, c10, -⟩ := (HN.out.below HB.out (Nat.le_refl _)).at_ (k := j) (show j < n by omega)
      dsimp only at e00 c10
      obtain ⟨b01, off1, e01, hb01, c01, ⟨hA1, hh1, hcc1⟩, c11, -⟩ := (HN.out.below HB.out (Nat.le_refl _)).at_ (k := (j + 1)) (by omega)
      dsimp only at e01 c11
      subst e00
      simp only [Option.some.injEq, Addr.mk.injEq, and_true] at e01
      obtain ⟨rfl, rfl⟩ := e01
      have i1 : (0 : Int) ≤ (j : Int) := by omega
      have i2 : ((j : Int)) < (n : Int) := by omega
      have i3 : (0 : Int) ≤ (j : Int) + 1 := by omega
      have i4 : (j : Int) + 1 < (n : Int) := by omega
      have i5 : IntKind.i64.wrap ((j : Int) + 1 - 1) = (j : Int) := by simp [IntKind.wrap, IntKind.bits, IntKind.signed]; omega
      have i6 : IntKind.i64.wrap (j : Int) = (j : Int) := by simp [IntKind.wrap, IntKind.bits, IntKind.signed]; omega
      have HBW : Hid (b00 < wr.heap.size) := Nat.lt_of_lt_of_le hb00 HB.out.size
      have D0 := hide ((Below.refl wr.heap.size wr).drew)
      by_cases e : (L.getD j (0, [])).1 < (L.getD (j + 1) (0, [])).1
      · have HS' : Hid (∀ i, i + 1 < j + 1 + 1 → i + 1 < n → (L.getD i (0, [])).1 < (L.getD (i + 1) (0, [])).1) := fun i hi h2 => by
          by_cases ei : i = j
          · subst ei; exact e
          · exact HS.out i (by omega) h2
        clear HS
        generalize (L.getD j (0, [])).1 = x at c00 e
        generalize (L.getD (j + 1) (0, [])).1 = y at c01 e
        have t1 : decide (y ≤ x) = false := by simp; omega
        clear e
        have RD : Hid (∀ u, Hid (Below wr.heap.size wr u) → (fun u => u.cell? ⟨b00, off0 + j * 2, none⟩ = some (.int .i64 x) ∧ u.cell? ⟨b00, off0 + j * 2 + 1, none⟩ = some (.slice hA0 hh0 hcc0) ∧ u.cell? ⟨b00, off0 + (j + 1) * 2, none⟩ = some (.int .i64 y) ∧ u.cell? ⟨b00, off0 + (j + 1) * 2 + 1, none⟩ = some (.slice hA1 hh1 hcc1) ∧ Hid (Below wr.heap.size wr u)) u) := fun u hu => ⟨(hu.out.cell (p := ⟨b00, _, none⟩) HBW.out).trans c00, (hu.out.cell (p := ⟨b00, _, none⟩) HBW.out).trans c10, (hu.out.cell (p := ⟨b00, _, none⟩) HBW.out).trans c01, (hu.out.cell (p := ⟨b00, _, none⟩) HBW.out).trans c11, hu⟩
        have LST : Hid (∀ u u1, (fun u => u.cell? ⟨b00, off0 + j * 2, none⟩ = some (.int .i64 x) ∧ u.cell? ⟨b00, off0 + j * 2 + 1, none⟩ = some (.slice hA0 hh0 hcc0) ∧ u.cell? ⟨b00, off0 + (j + 1) * 2, none⟩ = some (.int .i64 y) ∧ u.cell? ⟨b00, off0 + (j + 1) * 2 + 1, none⟩ = some (.slice hA1 hh1 hcc1) ∧ Hid (Below wr.heap.size wr u)) u → Below u.heap.size u u1 → Hid (Below wr.heap.size wr u1)) := fun u u1 h h1 => (h.2.2.2.2).out.trans (h1.mono (h.2.2.2.2).out.size)
        go_wp2
        go_region_held3 (fun u => u.cell? ⟨b00, off0 + j * 2, none⟩ = some (.int .i64 x) ∧ u.cell? ⟨b00, off0 + j * 2 + 1, none⟩ = some (.slice hA0 hh0 hcc0) ∧ u.cell? ⟨b00, off0 + (j + 1) * 2, none⟩ = some (.int .i64 y) ∧ u.cell? ⟨b00, off0 + (j + 1) * 2 + 1, none⟩ = some (.slice hA1 hh1 hcc1) ∧ Hid (Below wr.heap.size wr u)) (first | exact RD.out _ D0 | exact RD.out _ (by assumption))
          ((go_at_call 64; refine (nodeNumber_any _ _ _ _ _).mono ?_; rintro r u1 ⟨rfl, hu1⟩; have BU := LST.out _ _ (by assumption) hu1))
        have BW := hide (HB.out.trans (BU.out.mono HB.out.size))
        go_wp2
        go_roundw
        case rel => exact ⟨j + 2, by omega, by omega, by go_num, HS', BW⟩
        case measure => simp [intOf]; omega
      · have HF : Hid (q = false) := by
          cases q
          · rfl
          · exact absurd (hq.out.1 rfl j (by have := HL.out; omega)) e
        generalize (L.getD j (0, [])).1 = x at c00 e
        generalize (L.getD (j + 1) (0, [])).1 = y at c01 e
        have t1 : decide (y ≤ x) = true := by simp; omega
        clear e HS
        have RD : Hid (∀ u, Hid (Below wr.heap.size wr u) → (fun u => u.cell? ⟨b00, off0 + j * 2, none⟩ = some (.int .i64 x) ∧ u.cell? ⟨b00, off0 + j * 2 + 1, none⟩ = some (.slice hA0 hh0 hcc0) ∧ u.cell? ⟨b00, off0 + (j + 1) * 2, none⟩ = some (.int .i64 y) ∧ u.cell? ⟨b00, off0 + (j + 1) * 2 + 1, none⟩ = some (.slice hA1 hh1 hcc1) ∧ Hid (Below wr.heap.size wr u)) u) := fun u hu => ⟨(hu.out.cell (p := ⟨b00, _, none⟩) HBW.out).trans c00, (hu.out.cell (p := ⟨b00, _, none⟩) HBW.out).trans c10, (hu.out.cell (p := ⟨b00, _, none⟩) HBW.out).trans c01, (hu.out.cell (p := ⟨b00, _, none⟩) HBW.out).trans c11, hu⟩
        have LST : Hid (∀ u u1, (fun u => u.cell? ⟨b00, off0 + j * 2, none⟩ = some (.int .i64 x) ∧ u.cell? ⟨b00, off0 + j * 2 + 1, none⟩ = some (.slice hA0 hh0 hcc0) ∧ u.cell? ⟨b00, off0 + (j + 1) * 2, none⟩ = some (.int .i64 y) ∧ u.cell? ⟨b00, off0 + (j + 1) * 2 + 1, none⟩ = some (.slice hA1 hh1 hcc1) ∧ Hid (Below wr.heap.size wr u)) u → Below u.heap.size u u1 → Hid (Below wr.heap.size wr u1)) := fun u u1 h h1 => (h.2.2.2.2).out.trans (h1.mono (h.2.2.2.2).out.size)
        go_wp2
        go_region_held3 (fun u => u.cell? ⟨b00, off0 + j * 2, none⟩ = some (.int .i64 x) ∧ u.cell? ⟨b00, off0 + j * 2 + 1, none⟩ = some (.slice hA0 hh0 hcc0) ∧ u.cell? ⟨b00, off0 + (j + 1) * 2, none⟩ = some (.int .i64 y) ∧ u.cell? ⟨b00, off0 + (j + 1) * 2 + 1, none⟩ = some (.slice hA1 hh1 hcc1) ∧ Hid (Below wr.heap.size wr u)) (first | exact RD.out _ D0 | exact RD.out _ (by assumption))
          ((go_at_call 64; refine (nodeNumber_any _ _ _ _ _).mono ?_; rintro r u1 ⟨rfl, hu1⟩; have BU := LST.out _ _ (by assumption) hu1))
        have BW := hide (HB.out.trans (BU.out.mono HB.out.size))
        go_wp2
        go_ret
        rw [HF.out]
        exact ⟨rfl, BW.out⟩
    · have HF : Hid (q = true) := hq.out.2 fun i hi => HS.out i (by have := HL.out; omega) (by have := HL.out; omega)
      go_wp2
      go_ret
      rw [HF.out]
      exact ⟨rfl, HB.out⟩

end Go.Proofs.Ytiiadkjiofkonaa
