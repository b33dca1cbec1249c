/- Whether two lists of pairs, of ends, and two graphs are the same: the document's answer. -/
import Derived.Test.YtiiadkjiofkonaaGreatGWalksA
import Derived.WalkKit
import Derived.Below
import Derived.Deep.QuietTactic
import Derived.BigQuiet
import Derived.Deep.RegionHeld3
namespace Go.Proofs.YtiiadkjiofkonaaGreat
open Go.RowKit
set_option linter.unusedVariables false

theorem eq54 (a b c d : Int) (w : World) : (Op.equalIn 10000 83 (.agg #[.int .i64 a, .int .i64 b]) (.agg #[.int .i64 c, .int .i64 d])).run Tryz.prog w = .ok (a == c && b == d) w := by
  have u3 := Tryz.underlying3
  have a3 := Tryz.isAgg3
  have z3 := Tryz.sizeOf3
  rw [show (10000 : Nat) = 9999 + 1 from rfl, Op.equalIn]
  simp only [Sem.run_bind, run_underlying Tryz.underlying83, Result.andThen_ok]
  go_simp
  by_cases h1 : a = c <;> by_cases h2 : b = d <;> simp [h1, h2]

theorem eq78 (a b c d : Int) (w : World) : (Op.equalIn 10000 85 (.agg #[.int .i64 a, .int .i64 b]) (.agg #[.int .i64 c, .int .i64 d])).run Tryz.prog w = .ok (a == c && b == d) w := by
  have u3 := Tryz.underlying3
  have a3 := Tryz.isAgg3
  have z3 := Tryz.sizeOf3
  rw [show (10000 : Nat) = 9999 + 1 from rfl, Op.equalIn]
  simp only [Sem.run_bind, run_underlying Tryz.underlying85, Result.andThen_ok]
  go_simp
  by_cases h1 : a = c <;> by_cases h2 : b = d <;> simp [h1, h2]

theorem differ2 {xs ys : List Pr} (hl : xs.length = ys.length) (h : ∀ i, i < xs.length → xs.getD i (0, 0) = ys.getD i (0, 0)) : xs = ys :=
  List.ext_getElem hl fun i h1 h2 => by have := h i h1; simpa [h1, h2] using this

set_option maxHeartbeats 1000000 in
theorem samePairs_yes (h h' : Sl) (B B' : Nat) (l : List Pr) (w : World) (p : Props w B h l) (p' : Props w B' h' l) (hn : h.n ≤ 17592186044416) :
    Calls Tryz.prog 41 #[h.val, h'.val] w (Drew (.bool true) w) := by
  obtain ⟨A, n, c⟩ := h
  obtain ⟨A', n', c'⟩ := h'
  show Calls Tryz.prog 41 #[.slice A n c, .slice A' n' c'] w _
  have e1 := p.len
  have e2 := p'.len
  dsimp only at e1 e2 hn
  obtain rfl : n = n' := by omega
  clear e1 e2
  have h0 : (((n : Nat) : Int) != (n : Int)) = false := by simp
  go_enter Tryz.func41, Tryz.ntmps41
  go_wp2
  go_loopw [13] (fun i wr => ∃ k q : Nat, k ≤ n ∧ i = .int .i64 k ∧ wr = w.drewN q) (fun i _ => n - (intOf i).toNat)
  case atStart => exact ⟨0, 0, by omega, rfl, rfl⟩
  case round =>
    obtain ⟨k, q, hk, rfl, rfl⟩ := hrel
    by_cases hlt : k < n
    · obtain ⟨b, off, e, _, hc0, hc1⟩ := p.at_ (k := k) hlt
      obtain ⟨b', off', e', _, hd0, hd1⟩ := p'.at_ (k := k) hlt
      dsimp only at e e'
      subst e e'
      generalize (l.getD k (0, 0)).1 = x at hc0 hd0
      generalize (l.getD k (0, 0)).2 = y at hc1 hd1
      have he : ∀ u : World, (Op.equalIn 10000 83 (.agg #[.int .i64 x, .int .i64 y]) (.agg #[.int .i64 x, .int .i64 y])).run Tryz.prog u = .ok true u := fun u => by rw [eq54]; simp
      have i1 : (0 : Int) ≤ (k : Int) := by omega
      have i2 : (k : Int) < (n : Int) := by omega
      go_wp2
      go_quiet (fail)
      go_wp2
      go_roundw
      case rel => exact ⟨k + 1, _, by omega, by go_num, rfl⟩
      case measure => simp [intOf]; omega
    · go_wp2
      go_ret
      exact ⟨rfl, Below.drewN (Below.refl _ _) _⟩

set_option maxHeartbeats 1000000 in
theorem samePairs_no (h h' : Sl) (B B' : Nat) (l l' : List Pr) (w : World) (p : Props w B h l) (p' : Props w B' h' l') (hn : h.n ≤ 17592186044416) (hn' : h'.n ≤ 17592186044416) (hd : Hid (l ≠ l')) :
    Calls Tryz.prog 41 #[h.val, h'.val] w (Drew (.bool false) w) := by
  obtain ⟨A, n, c⟩ := h
  obtain ⟨A', n', c'⟩ := h'
  show Calls Tryz.prog 41 #[.slice A n c, .slice A' n' c'] w _
  have e1 := hide p.len
  have e2 := hide p'.len
  dsimp only at e1 e2 hn hn'
  by_cases hnn : n = n'
  · subst hnn
    have h0 : (((n : Nat) : Int) != (n : Int)) = false := by simp
    go_enter Tryz.func41, Tryz.ntmps41
    go_wp2
    go_loopw [13] (fun i wr => ∃ k q : Nat, k ≤ n ∧ i = .int .i64 k ∧ Hid (∀ j, j < k → l.getD j (0, 0) = l'.getD j (0, 0)) ∧ wr = w.drewN q) (fun i _ => n - (intOf i).toNat)
    case atStart => exact ⟨0, 0, by omega, rfl, (fun j hj => by omega), rfl⟩
    case round =>
      obtain ⟨k, q, hk, rfl, HS, rfl⟩ := hrel
      by_cases hlt : k < n
      · obtain ⟨b, off, e, _, hc0, hc1⟩ := p.at_ (k := k) hlt
        obtain ⟨b', off', e', _, hd0, hd1⟩ := p'.at_ (k := k) hlt
        dsimp only at e e'
        subst e e'
        have i1 : (0 : Int) ≤ (k : Int) := by omega
        have i2 : (k : Int) < (n : Int) := by omega
        by_cases e : l.getD k (0, 0) = l'.getD k (0, 0)
        · have HS' : Hid (∀ j, j < k + 1 → l.getD j (0, 0) = l'.getD j (0, 0)) := fun j hj => by
            by_cases ej : j = k
            · subst ej; exact e
            · exact HS.out j (by omega)
          rw [e] at hc0 hc1
          clear e HS
          generalize (l'.getD k (0, 0)).1 = x at hc0 hd0
          generalize (l'.getD k (0, 0)).2 = y at hc1 hd1
          have he : ∀ u : World, (Op.equalIn 10000 83 (.agg #[.int .i64 x, .int .i64 y]) (.agg #[.int .i64 x, .int .i64 y])).run Tryz.prog u = .ok true u := fun u => by rw [eq54]; simp
          go_wp2
          go_quiet (fail)
          go_wp2
          go_roundw
          case rel => exact ⟨k + 1, _, by omega, by go_num, HS', rfl⟩
          case measure => simp [intOf]; omega
        · have he : ∀ u : World, (Op.equalIn 10000 83 (.agg #[.int .i64 (l.getD k (0, 0)).1, .int .i64 (l.getD k (0, 0)).2]) (.agg #[.int .i64 (l'.getD k (0, 0)).1, .int .i64 (l'.getD k (0, 0)).2])).run Tryz.prog u = .ok false u := fun u => by
            rw [eq54]
            congr 1
            cases hx : ((l.getD k (0, 0)).1 == (l'.getD k (0, 0)).1 && (l.getD k (0, 0)).2 == (l'.getD k (0, 0)).2) with
            | false => rfl
            | true => exact absurd (by simp only [Bool.and_eq_true, beq_iff_eq] at hx; exact Prod.ext hx.1 hx.2) e
          clear e HS
          generalize (l.getD k (0, 0)).1 = x at hc0 he
          generalize (l.getD k (0, 0)).2 = y at hc1 he
          generalize (l'.getD k (0, 0)).1 = x' at hd0 he
          generalize (l'.getD k (0, 0)).2 = y' at hd1 he
          go_wp2
          go_quiet (fail)
          go_wp2
          go_ret
          exact ⟨rfl, Below.drewN (Below.drewN (Below.refl _ _) _) _⟩
      · exact absurd (differ2 (by rw [← e1.out, ← e2.out]) fun j hj => HS.out j (by rw [← e1.out] at hj; omega)) hd.out
  · have h0 : (((n : Nat) : Int) != (n' : Int)) = true := by simp; omega
    go_enter Tryz.func41, Tryz.ntmps41
    go_wp2
    go_ret
    exact ⟨rfl, Below.refl _ _⟩

theorem samePairs_any (h h' : Sl) (B B' : Nat) (l l' : List Pr) (q : Bool) (w : World) (p : Props w B h l) (p' : Props w B' h' l') (hn : h.n ≤ 17592186044416) (hn' : h'.n ≤ 17592186044416) (hq : Hid (q = true ↔ l = l')) :
    Calls Tryz.prog 41 #[h.val, h'.val] w (Drew (.bool q) w) := by
  have hq' := hq.out
  cases q
  · exact samePairs_no h h' B B' l l' w p p' hn hn' fun e => by simp [e] at hq'
  · obtain rfl := hq'.1 rfl
    exact samePairs_yes h h' B B' l w p p' hn

theorem samePairs_eq (h h' : Sl) (B B' : Nat) (l l' : List Pr) (w : World) (p : Props w B h l) (p' : Props w B' h' l') (hn : h.n ≤ 17592186044416) (hn' : h'.n ≤ 17592186044416) (e : Hid (l = l')) : Calls Tryz.prog 41 #[h.val, h'.val] w (Drew (.bool true) w) :=
  samePairs_any h h' B B' l l' true w p p' hn hn' ⟨fun _ => e.out, fun _ => rfl⟩
theorem samePairs_ne (h h' : Sl) (B B' : Nat) (l l' : List Pr) (w : World) (p : Props w B h l) (p' : Props w B' h' l') (hn : h.n ≤ 17592186044416) (hn' : h'.n ≤ 17592186044416) (e : Hid (l ≠ l')) : Calls Tryz.prog 41 #[h.val, h'.val] w (Drew (.bool false) w) :=
  samePairs_any h h' B B' l l' false w p p' hn hn' ⟨(fun h => by cases h), fun h => absurd h e.out⟩

set_option maxHeartbeats 1000000 in
theorem sameEnds_yes (h h' : Sl) (B B' : Nat) (l : List Pr) (w : World) (p : Props w B h l) (p' : Props w B' h' l) (hn : h.n ≤ 17592186044416) :
    Calls Tryz.prog 42 #[h.val, h'.val] w (Drew (.bool true) w) := by
  obtain ⟨A, n, c⟩ := h
  obtain ⟨A', n', c'⟩ := h'
  show Calls Tryz.prog 42 #[.slice A n c, .slice A' n' c'] w _
  have e1 := p.len
  have e2 := p'.len
  dsimp only at e1 e2 hn
  obtain rfl : n = n' := by omega
  clear e1 e2
  have h0 : (((n : Nat) : Int) != (n : Int)) = false := by simp
  go_enter Tryz.func42, Tryz.ntmps42
  go_wp2
  go_loopw [13] (fun i wr => ∃ k q : Nat, k ≤ n ∧ i = .int .i64 k ∧ wr = w.drewN q) (fun i _ => n - (intOf i).toNat)
  case atStart => exact ⟨0, 0, by omega, rfl, rfl⟩
  case round =>
    obtain ⟨k, q, hk, rfl, rfl⟩ := hrel
    by_cases hlt : k < n
    · obtain ⟨b, off, e, _, hc0, hc1⟩ := p.at_ (k := k) hlt
      obtain ⟨b', off', e', _, hd0, hd1⟩ := p'.at_ (k := k) hlt
      dsimp only at e e'
      subst e e'
      generalize (l.getD k (0, 0)).1 = x at hc0 hd0
      generalize (l.getD k (0, 0)).2 = y at hc1 hd1
      have he : ∀ u : World, (Op.equalIn 10000 85 (.agg #[.int .i64 x, .int .i64 y]) (.agg #[.int .i64 x, .int .i64 y])).run Tryz.prog u = .ok true u := fun u => by rw [eq78]; simp
      have i1 : (0 : Int) ≤ (k : Int) := by omega
      have i2 : (k : Int) < (n : Int) := by omega
      go_wp2
      go_quiet (fail)
      go_wp2
      go_roundw
      case rel => exact ⟨k + 1, _, by omega, by go_num, rfl⟩
      case measure => simp [intOf]; omega
    · go_wp2
      go_ret
      exact ⟨rfl, Below.drewN (Below.refl _ _) _⟩

set_option maxHeartbeats 1000000 in
theorem sameEnds_no (h h' : Sl) (B B' : Nat) (l l' : List Pr) (w : World) (p : Props w B h l) (p' : Props w B' h' l') (hn : h.n ≤ 17592186044416) (hn' : h'.n ≤ 17592186044416) (hd : Hid (l ≠ l')) :
    Calls Tryz.prog 42 #[h.val, h'.val] w (Drew (.bool false) w) := by
  obtain ⟨A, n, c⟩ := h
  obtain ⟨A', n', c'⟩ := h'
  show Calls Tryz.prog 42 #[.slice A n c, .slice A' n' c'] w _
  have e1 := hide p.len
  have e2 := hide p'.len
  dsimp only at e1 e2 hn hn'
  by_cases hnn : n = n'
  · subst hnn
    have h0 : (((n : Nat) : Int) != (n : Int)) = false := by simp
    go_enter Tryz.func42, Tryz.ntmps42
    go_wp2
    go_loopw [13] (fun i wr => ∃ k q : Nat, k ≤ n ∧ i = .int .i64 k ∧ Hid (∀ j, j < k → l.getD j (0, 0) = l'.getD j (0, 0)) ∧ wr = w.drewN q) (fun i _ => n - (intOf i).toNat)
    case atStart => exact ⟨0, 0, by omega, rfl, (fun j hj => by omega), rfl⟩
    case round =>
      obtain ⟨k, q, hk, rfl, HS, rfl⟩ := hrel
      by_cases hlt : k < n
      · obtain ⟨b, off, e, _, hc0, hc1⟩ := p.at_ (k := k) hlt
        obtain ⟨b', off', e', _, hd0, hd1⟩ := p'.at_ (k := k) hlt
        dsimp only at e e'
        subst e e'
        have i1 : (0 : Int) ≤ (k : Int) := by omega
        have i2 : (k : Int) < (n : Int) := by omega
        by_cases e : l.getD k (0, 0) = l'.getD k (0, 0)
        · have HS' : Hid (∀ j, j < k + 1 → l.getD j (0, 0) = l'.getD j (0, 0)) := fun j hj => by
            by_cases ej : j = k
            · subst ej; exact e
            · exact HS.out j (by omega)
          rw [e] at hc0 hc1
          clear e HS
          generalize (l'.getD k (0, 0)).1 = x at hc0 hd0
          generalize (l'.getD k (0, 0)).2 = y at hc1 hd1
          have he : ∀ u : World, (Op.equalIn 10000 85 (.agg #[.int .i64 x, .int .i64 y]) (.agg #[.int .i64 x, .int .i64 y])).run Tryz.prog u = .ok true u := fun u => by rw [eq78]; simp
          go_wp2
          go_quiet (fail)
          go_wp2
          go_roundw
          case rel => exact ⟨k + 1, _, by omega, by go_num, HS', rfl⟩
          case measure => simp [intOf]; omega
        · have he : ∀ u : World, (Op.equalIn 10000 85 (.agg #[.int .i64 (l.getD k (0, 0)).1, .int .i64 (l.getD k (0, 0)).2]) (.agg #[.int .i64 (l'.getD k (0, 0)).1, .int .i64 (l'.getD k (0, 0)).2])).run Tryz.prog u = .ok false u := fun u => by
            rw [eq78]
            congr 1
            cases hx : ((l.getD k (0, 0)).1 == (l'.getD k (0, 0)).1 && (l.getD k (0, 0)).2 == (l'.getD k (0, 0)).2) with
            | false => rfl
            | true => exact absurd (by simp only [Bool.and_eq_true, beq_iff_eq] at hx; exact Prod.ext hx.1 hx.2) e
          clear e HS
          generalize (l.getD k (0, 0)).1 = x at hc0 he
          generalize (l.getD k (0, 0)).2 = y at hc1 he
          generalize (l'.getD k (0, 0)).1 = x' at hd0 he
          generalize (l'.getD k (0, 0)).2 = y' at hd1 he
          go_wp2
          go_quiet (fail)
          go_wp2
          go_ret
          exact ⟨rfl, Below.drewN (Below.drewN (Below.refl _ _) _) _⟩
      · exact absurd (differ2 (by rw [← e1.out, ← e2.out]) fun j hj => HS.out j (by rw [← e1.out] at hj; omega)) hd.out
  · have h0 : (((n : Nat) : Int) != (n' : Int)) = true := by simp; omega
    go_enter Tryz.func42, Tryz.ntmps42
    go_wp2
    go_ret
    exact ⟨rfl, Below.refl _ _⟩

theorem sameEnds_any (h h' : Sl) (B B' : Nat) (l l' : List Pr) (q : Bool) (w : World) (p : Props w B h l) (p' : Props w B' h' l') (hn : h.n ≤ 17592186044416) (hn' : h'.n ≤ 17592186044416) (hq : Hid (q = true ↔ l = l')) :
    Calls Tryz.prog 42 #[h.val, h'.val] w (Drew (.bool q) w) := by
  have hq' := hq.out
  cases q
  · exact sameEnds_no h h' B B' l l' w p p' hn hn' fun e => by simp [e] at hq'
  · obtain rfl := hq'.1 rfl
    exact sameEnds_yes h h' B B' l w p p' hn

theorem sameEnds_eq (h h' : Sl) (B B' : Nat) (l l' : List Pr) (w : World) (p : Props w B h l) (p' : Props w B' h' l') (hn : h.n ≤ 17592186044416) (hn' : h'.n ≤ 17592186044416) (e : Hid (l = l')) : Calls Tryz.prog 42 #[h.val, h'.val] w (Drew (.bool true) w) :=
  sameEnds_any h h' B B' l l' true w p p' hn hn' ⟨fun _ => e.out, fun _ => rfl⟩
theorem sameEnds_ne (h h' : Sl) (B B' : Nat) (l l' : List Pr) (w : World) (p : Props w B h l) (p' : Props w B' h' l') (hn : h.n ≤ 17592186044416) (hn' : h'.n ≤ 17592186044416) (e : Hid (l ≠ l')) : Calls Tryz.prog 42 #[h.val, h'.val] w (Drew (.bool false) w) :=
  sameEnds_any h h' B B' l l' false w p p' hn hn' ⟨(fun h => by cases h), fun h => absurd h e.out⟩

end Go.Proofs.YtiiadkjiofkonaaGreat
