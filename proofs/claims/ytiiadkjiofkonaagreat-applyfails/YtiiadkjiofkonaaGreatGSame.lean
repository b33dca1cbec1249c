/- Whether two graphs are the same: the code. -/
import Derived.Test.YtiiadkjiofkonaaGreatGWalksC
import Derived.Test.YtiiadkjiofkonaaGreatCSem
import Derived.WalkKit
import Derived.Below
import Derived.Deep.QuietTactic
import Derived.BigQuiet
import Derived.Deep.RegionHeld3
import Derived.Deep.DeepCutAuto
import Derived.Shelf.Abstract
namespace Go.Proofs.YtiiadkjiofkonaaGreat
open Go.RowKit
set_option linter.unusedVariables false

theorem boolOf (p : Prop) : ∃ q : Bool, (q = true ↔ p) := by
  rcases Classical.em p with h | h
  · exact ⟨true, by simp [h]⟩
  · exact ⟨false, by simp [h]⟩

set_option maxHeartbeats 1000000 in
theorem eqP_yes (h h' : Sl) (B B' : Nat) (l : List Pr) (w : World) (p : Props w B h l) (p' : Props w B' h' l) (hn : h.n ≤ 17592186044416) :
    Calls Tryz.prog 45 #[h.val, h'.val] w (Drew (.bool true) w) := by
  obtain ⟨A, n, c⟩ := h
  obtain ⟨A', n', c'⟩ := h'
  show Calls Tryz.prog 45 #[.slice A n c, .slice A' n' c'] w _
  have e1 := p.len
  have e2 := p'.len
  dsimp only at e1 e2 hn
  obtain rfl : n = n' := by omega
  clear e1 e2
  have h0 : (((n : Nat) : Int) != (n : Int)) = false := by simp
  go_enter Tryz.func45, Tryz.ntmps45
  go_wp2
  go_loopw [13] (fun i wr => ∃ k q : Nat, k ≤ n ∧ i = .int .i64 k ∧ wr = w.drewN q) (fun i _ => n - (intOf i).toNat)
  case atStart => exact ⟨0, 0, by omega, rfl, rfl⟩
  case round =>
    obtain ⟨k, q, hk, rfl, rfl⟩ := hrel
    by_cases hlt : k < n
    · obtain ⟨b, off, e, _, hc0, hc1⟩ := p.at_ (k := k) hlt
      obtain ⟨b', off', e', _, hd0, hd1⟩ := p'.at_ (k := k) hlt
      dsimp only at e e'
      subst e e'
      generalize (l.getD k (0, 0)).1 = x at hc0 hd0
      generalize (l.getD k (0, 0)).2 = y at hc1 hd1
      have he : ∀ u : World, (Op.equalIn 10000 83 (.agg #[.int .i64 x, .int .i64 y]) (.agg #[.int .i64 x, .int .i64 y])).run Tryz.prog u = .ok true u := fun u => by rw [eq54]; simp
      have i1 : (0 : Int) ≤ (k : Int) := by omega
      have i2 : (k : Int) < (n : Int) := by omega
      go_wp2
      go_quiet (fail)
      go_wp2
      go_roundw
      case rel => exact ⟨k + 1, _, by omega, by go_num, rfl⟩
      case measure => simp [intOf]; omega
    · go_wp2
      go_ret
      exact ⟨rfl, Below.drewN (Below.refl _ _) _⟩

set_option maxHeartbeats 1000000 in
theorem eqP_no (h h' : Sl) (B B' : Nat) (l l' : List Pr) (w : World) (p : Props w B h l) (p' : Props w B' h' l') (hn : h.n ≤ 17592186044416) (hn' : h'.n ≤ 17592186044416) (hd : Hid (l ≠ l')) :
    Calls Tryz.prog 45 #[h.val, h'.val] w (Drew (.bool false) w) := by
  obtain ⟨A, n, c⟩ := h
  obtain ⟨A', n', c'⟩ := h'
  show Calls Tryz.prog 45 #[.slice A n c, .slice A' n' c'] w _
  have e1 := hide p.len
  have e2 := hide p'.len
  dsimp only at e1 e2 hn hn'
  by_cases hnn : n = n'
  · subst hnn
    have h0 : (((n : Nat) : Int) != (n : Int)) = false := by simp
    go_enter Tryz.func45, Tryz.ntmps45
    go_wp2
    go_loopw [13] (fun i wr => ∃ k q : Nat, k ≤ n ∧ i = .int .i64 k ∧ Hid (∀ j, j < k → l.getD j (0, 0) = l'.getD j (0, 0)) ∧ wr = w.drewN q) (fun i _ => n - (intOf i).toNat)
    case atStart => exact ⟨0, 0, by omega, rfl, (fun j hj => by omega), rfl⟩
    case round =>
      obtain ⟨k, q, hk, rfl, HS, rfl⟩ := hrel
      by_cases hlt : k < n
      · obtain ⟨b, off, e, _, hc0, hc1⟩ := p.at_ (k := k) hlt
        obtain ⟨b', off', e', _, hd0, hd1⟩ := p'.at_ (k := k) hlt
        dsimp only at e e'
        subst e e'
        have i1 : (0 : Int) ≤ (k : Int) := by omega
        have i2 : (k : Int) < (n : Int) := by omega
        by_cases e : l.getD k (0, 0) = l'.getD k (0, 0)
        · have HS' : Hid (∀ j, j < k + 1 → l.getD j (0, 0) = l'.getD j (0, 0)) := fun j hj => by
            by_cases ej : j = k
            · subst ej; exact e
            · exact HS.out j (by omega)
          rw [e] at hc0 hc1
          clear e HS
          generalize (l'.getD k (0, 0)).1 = x at hc0 hd0
          generalize (l'.getD k (0, 0)).2 = y at hc1 hd1
          have he : ∀ u : World, (Op.equalIn 10000 83 (.agg #[.int .i64 x, .int .i64 y]) (.agg #[.int .i64 x, .int .i64 y])).run Tryz.prog u = .ok true u := fun u => by rw [eq54]; simp
          go_wp2
          go_quiet (fail)
          go_wp2
          go_roundw
          case rel => exact ⟨k + 1, _, by omega, by go_num, HS', rfl⟩
          case measure => simp [intOf]; omega
        · have he : ∀ u : World, (Op.equalIn 10000 83 (.agg #[.int .i64 (l.getD k (0, 0)).1, .int .i64 (l.getD k (0, 0)).2]) (.agg #[.int .i64 (l'.getD k (0, 0)).1, .int .i64 (l'.getD k (0, 0)).2])).run Tryz.prog u = .ok false u := fun u => by
            rw [eq54]
            congr 1
            cases hx : ((l.getD k (0, 0)).1 == (l'.getD k (0, 0)).1 && (l.getD k (0, 0)).2 == (l'.getD k (0, 0)).2) with
            | false => rfl
            | true => exact absurd (by simp only [Bool.and_eq_true, beq_iff_eq] at hx; exact Prod.ext hx.1 hx.2) e
          clear e HS
          generalize (l.getD k (0, 0)).1 = x at hc0 he
          generalize (l.getD k (0, 0)).2 = y at hc1 he
          generalize (l'.getD k (0, 0)).1 = x' at hd0 he
          generalize (l'.getD k (0, 0)).2 = y' at hd1 he
          go_wp2
          go_quiet (fail)
          go_wp2
          go_ret
          exact ⟨rfl, Below.drewN (Below.drewN (Below.refl _ _) _) _⟩
      · exact absurd (differ2 (by rw [← e1.out, ← e2.out]) fun j hj => HS.out j (by rw [← e1.out] at hj; omega)) hd.out
  · have h0 : (((n : Nat) : Int) != (n' : Int)) = true := by simp; omega
    go_enter Tryz.func45, Tryz.ntmps45
    go_wp2
    go_ret
    exact ⟨rfl, Below.refl _ _⟩

theorem eqP_any (h h' : Sl) (B B' : Nat) (l l' : List Pr) (q : Bool) (w : World) (p : Props w B h l) (p' : Props w B' h' l') (hn : h.n ≤ 17592186044416) (hn' : h'.n ≤ 17592186044416) (hq : Hid (q = true ↔ l = l')) :
    Calls Tryz.prog 45 #[h.val, h'.val] w (Drew (.bool q) w) := by
  have hq' := hq.out
  cases q
  · exact eqP_no h h' B B' l l' w p p' hn hn' fun e => by simp [e] at hq'
  · obtain rfl := hq'.1 rfl
    exact eqP_yes h h' B B' l w p p' hn

theorem eqP_eq (h h' : Sl) (B B' : Nat) (l l' : List Pr) (w : World) (p : Props w B h l) (p' : Props w B' h' l') (hn : h.n ≤ 17592186044416) (hn' : h'.n ≤ 17592186044416) (e : Hid (l = l')) : Calls Tryz.prog 45 #[h.val, h'.val] w (Drew (.bool true) w) :=
  eqP_any h h' B B' l l' true w p p' hn hn' ⟨fun _ => e.out, fun _ => rfl⟩
theorem eqP_ne (h h' : Sl) (B B' : Nat) (l l' : List Pr) (w : World) (p : Props w B h l) (p' : Props w B' h' l') (hn : h.n ≤ 17592186044416) (hn' : h'.n ≤ 17592186044416) (e : Hid (l ≠ l')) : Calls Tryz.prog 45 #[h.val, h'.val] w (Drew (.bool false) w) :=
  eqP_any h h' B B' l l' false w p p' hn hn' ⟨(fun h => by cases h), fun h => absurd h e.out⟩

set_option maxHeartbeats 1000000 in
theorem eqE_yes (h h' : Sl) (B B' : Nat) (l : List Ed) (w : World) (p : Nums w B 3 h.A h.n (flat3 l)) (p' : Nums w B' 3 h'.A h'.n (flat3 l)) (hn : h.n ≤ 17592186044416) :
    Calls Tryz.prog 51 #[h.val, h'.val] w (Drew (.bool true) w) := by
  obtain ⟨A, n, c⟩ := h
  obtain ⟨A', n', c'⟩ := h'
  show Calls Tryz.prog 51 #[.slice A n c, .slice A' n' c'] w _
  have e1 := edges_len p
  have e2 := edges_len p'
  dsimp only at e1 e2 hn p p'
  obtain rfl : n = n' := by omega
  clear e1 e2
  have h0 : (((n : Nat) : Int) != (n : Int)) = false := by simp
  go_enter Tryz.func51, Tryz.ntmps51
  go_wp2
  go_loopw [13] (fun i wr => ∃ k q : Nat, k ≤ n ∧ i = .int .i64 k ∧ wr = w.drewN q) (fun i _ => n - (intOf i).toNat)
  case atStart => exact ⟨0, 0, by omega, rfl, rfl⟩
  case round =>
    obtain ⟨k, q, hk, rfl, rfl⟩ := hrel
    by_cases hlt : k < n
    · obtain ⟨b, off, e, _, hc0, hc1, hc2⟩ := edge_at (k := k) p hlt
      obtain ⟨b', off', e', _, hd0, hd1, hd2⟩ := edge_at (k := k) p' hlt
      subst e e'
      generalize (l.getD k (0, 0, 0)).1 = x at hc0 hd0
      generalize (l.getD k (0, 0, 0)).2.1 = y at hc1 hd1
      generalize (l.getD k (0, 0, 0)).2.2 = z at hc2 hd2
      have he : ∀ u : World, (Op.equalIn 10000 79 (.agg #[.int .i64 x, .int .i64 y, .int .i64 z]) (.agg #[.int .i64 x, .int .i64 y, .int .i64 z])).run Tryz.prog u = .ok true u := fun u => by rw [eq80]; simp
      have i1 : (0 : Int) ≤ (k : Int) := by omega
      have i2 : (k : Int) < (n : Int) := by omega
      go_wp2
      go_quiet (fail)
      go_wp2
      go_roundw
      case rel => exact ⟨k + 1, _, by omega, by go_num, rfl⟩
      case measure => simp [intOf]; omega
    · go_wp2
      go_ret
      exact ⟨rfl, Below.drewN (Below.refl _ _) _⟩

set_option maxHeartbeats 1000000 in
theorem eqE_no (h h' : Sl) (B B' : Nat) (l l' : List Ed) (w : World) (p : Nums w B 3 h.A h.n (flat3 l)) (p' : Nums w B' 3 h'.A h'.n (flat3 l')) (hn : h.n ≤ 17592186044416) (hn' : h'.n ≤ 17592186044416) (hd : Hid (l ≠ l')) :
    Calls Tryz.prog 51 #[h.val, h'.val] w (Drew (.bool false) w) := by
  obtain ⟨A, n, c⟩ := h
  obtain ⟨A', n', c'⟩ := h'
  show Calls Tryz.prog 51 #[.slice A n c, .slice A' n' c'] w _
  have e1 := hide (edges_len p)
  have e2 := hide (edges_len p')
  dsimp only at e1 e2 hn hn' p p'
  by_cases hnn : n = n'
  · subst hnn
    have h0 : (((n : Nat) : Int) != (n : Int)) = false := by simp
    go_enter Tryz.func51, Tryz.ntmps51
    go_wp2
    go_loopw [13] (fun i wr => ∃ k q : Nat, k ≤ n ∧ i = .int .i64 k ∧ Hid (∀ j, j < k → l.getD j (0, 0, 0) = l'.getD j (0, 0, 0)) ∧ wr = w.drewN q) (fun i _ => n - (intOf i).toNat)
    case atStart => exact ⟨0, 0, by omega, rfl, (fun j hj => by omega), rfl⟩
    case round =>
      obtain ⟨k, q, hk, rfl, HS, rfl⟩ := hrel
      by_cases hlt : k < n
      · obtain ⟨b, off, e, _, hc0, hc1, hc2⟩ := edge_at (k := k) p hlt
        obtain ⟨b', off', e', _, hd0, hd1, hd2⟩ := edge_at (k := k) p' hlt
        subst e e'
        have i1 : (0 : Int) ≤ (k : Int) := by omega
        have i2 : (k : Int) < (n : Int) := by omega
        by_cases e : l.getD k (0, 0, 0) = l'.getD k (0, 0, 0)
        · have HS' : Hid (∀ j, j < k + 1 → l.getD j (0, 0, 0) = l'.getD j (0, 0, 0)) := fun j hj => by
            by_cases ej : j = k
            · subst ej; exact e
            · exact HS.out j (by omega)
          rw [e] at hc0 hc1 hc2
          clear e HS
          generalize (l'.getD k (0, 0, 0)).1 = x at hc0 hd0
          generalize (l'.getD k (0, 0, 0)).2.1 = y at hc1 hd1
          generalize (l'.getD k (0, 0, 0)).2.2 = z at hc2 hd2
          have he : ∀ u : World, (Op.equalIn 10000 79 (.agg #[.int .i64 x, .int .i64 y, .int .i64 z]) (.agg #[.int .i64 x, .int .i64 y, .int .i64 z])).run Tryz.prog u = .ok true u := fun u => by rw [eq80]; simp
          go_wp2
          go_quiet (fail)
          go_wp2
          go_roundw
          case rel => exact ⟨k + 1, _, by omega, by go_num, HS', rfl⟩
          case measure => simp [intOf]; omega
        · have he : ∀ u : World, (Op.equalIn 10000 79 (.agg #[.int .i64 (l.getD k (0, 0, 0)).1, .int .i64 (l.getD k (0, 0, 0)).2.1, .int .i64 (l.getD k (0, 0, 0)).2.2]) (.agg #[.int .i64 (l'.getD k (0, 0, 0)).1, .int .i64 (l'.getD k (0, 0, 0)).2.1, .int .i64 (l'.getD k (0, 0, 0)).2.2])).run Tryz.prog u = .ok false u := fun u => by
            rw [eq80]
            congr 1
            cases hx : ((l.getD k (0, 0, 0)).1 == (l'.getD k (0, 0, 0)).1 && (l.getD k (0, 0, 0)).2.1 == (l'.getD k (0, 0, 0)).2.1 && (l.getD k (0, 0, 0)).2.2 == (l'.getD k (0, 0, 0)).2.2) with
            | false => rfl
            | true => exact absurd (by simp only [Bool.and_eq_true, beq_iff_eq] at hx; exact Prod.ext hx.1.1 (Prod.ext hx.1.2 hx.2)) e
          clear e HS
          generalize (l.getD k (0, 0, 0)).1 = y1 at hc0 he
          generalize (l.getD k (0, 0, 0)).2.1 = y2 at hc1 he
          generalize (l.getD k (0, 0, 0)).2.2 = y3 at hc2 he
          generalize (l'.getD k (0, 0, 0)).1 = z1 at hd0 he
          generalize (l'.getD k (0, 0, 0)).2.1 = z2 at hd1 he
          generalize (l'.getD k (0, 0, 0)).2.2 = z3 at hd2 he
          go_wp2
          go_quiet (fail)
          go_wp2
          go_ret
          exact ⟨rfl, Below.drewN (Below.drewN (Below.refl _ _) _) _⟩
      · exact absurd (edges_ext (by rw [← e1.out, ← e2.out]) fun j hj => HS.out j (by rw [← e1.out] at hj; omega)) hd.out
  · have h0 : (((n : Nat) : Int) != (n' : Int)) = true := by simp; omega
    go_enter Tryz.func51, Tryz.ntmps51
    go_wp2
    go_ret
    exact ⟨rfl, Below.refl _ _⟩

theorem eqE_any (h h' : Sl) (B B' : Nat) (l l' : List Ed) (q : Bool) (w : World) (p : Nums w B 3 h.A h.n (flat3 l)) (p' : Nums w B' 3 h'.A h'.n (flat3 l')) (hn : h.n ≤ 17592186044416) (hn' : h'.n ≤ 17592186044416) (hq : Hid (q = true ↔ l = l')) :
    Calls Tryz.prog 51 #[h.val, h'.val] w (Drew (.bool q) w) := by
  have hq' := hq.out
  cases q
  · exact eqE_no h h' B B' l l' w p p' hn hn' fun e => by simp [e] at hq'
  · obtain rfl := hq'.1 rfl
    exact eqE_yes h h' B B' l w p p' hn

set_option maxHeartbeats 2000000 in
theorem sameNode_any (z z' : Int) (h h' : Sl) (B B' : Nat) (l l' : List Pr) (q : Bool) (w : World) (p : Props w B h l) (p' : Props w B' h' l') (hB : B ≤ w.heap.size) (hB' : B' ≤ w.heap.size) (b1 : h.n ≤ 17592186044416) (b2 : h'.n ≤ 17592186044416) (hq : Hid (q = true ↔ z = z' ∧ l = l')) :
    Calls Tryz.prog 50 #[.agg #[.int .i64 z, h.val], .agg #[.int .i64 z', h'.val]] w (Drew (.bool q) w) := by
  obtain ⟨hA, hh, hcc⟩ := h
  obtain ⟨hA', hh', hcc'⟩ := h'
  show Calls Tryz.prog 50 #[.agg #[.int .i64 z, .slice hA hh hcc], .agg #[.int .i64 z', .slice hA' hh' hcc']] w _
  obtain ⟨W, hW⟩ : ∃ W, Hid ((w.alloc (.cells #[.int .i64 z, .slice hA hh hcc] 61)).alloc (.cells #[.int .i64 z', .slice hA' hh' hcc'] 61) = W) := ⟨_, rfl⟩
  have BW : Hid (Below w.heap.size w W) := by show Below _ _ _; rw [← hW.out]; exact boxed2 w _ _
  have H0 : Hid (W.heap[w.heap.size]? = some (.cells #[.int .i64 z, .slice hA hh hcc] 61 (0, 0))) := by show _ = _; rw [← hW.out]; exact heap_alloc2_old w _ _
  have H1 : Hid (W.heap[w.heap.size + 1]? = some (.cells #[.int .i64 z', .slice hA' hh' hcc'] 61 (0, 0))) := by show _ = _; rw [← hW.out]; exact heap_alloc2_new w _ _
  have HP := hide (p.below BW.out hB)
  have HP' := hide (p'.below BW.out hB')
  clear p p'
  dsimp only at b1 b2
  by_cases e : z = z'
  · subst e
    have HQ : Hid (q = true ↔ l = l') := by
      show _ ↔ _
      rw [hq.out]
      simp
    have t1 : (z == z) = true := by simp
    have RD : Hid (∀ u, Hid (Below W.heap.size W u) → (fun u => u.cell? ⟨w.heap.size, 0, none⟩ = some (.int .i64 z) ∧ u.cell? ⟨w.heap.size, 1, none⟩ = some (.slice hA hh hcc) ∧ u.cell? ⟨w.heap.size + 1, 0, none⟩ = some (.int .i64 z) ∧ u.cell? ⟨w.heap.size + 1, 1, none⟩ = some (.slice hA' hh' hcc') ∧ Hid (Below W.heap.size W u)) u) := fun u hu => by
      have k0 := (bx_all (bx_step H0.out hu.out)).1
      have k1 := (bx_all (bx_step H1.out hu.out)).1
      exact ⟨k0 0, k0 1, k1 0, k1 1, hu⟩
    have LST : Hid (∀ u u1, (fun u => u.cell? ⟨w.heap.size, 0, none⟩ = some (.int .i64 z) ∧ u.cell? ⟨w.heap.size, 1, none⟩ = some (.slice hA hh hcc) ∧ u.cell? ⟨w.heap.size + 1, 0, none⟩ = some (.int .i64 z) ∧ u.cell? ⟨w.heap.size + 1, 1, none⟩ = some (.slice hA' hh' hcc') ∧ Hid (Below W.heap.size W u)) u → Below u.heap.size u u1 → Hid (Below W.heap.size W u1)) := fun u u1 h h1 => (h.2.2.2.2).out.trans (h1.mono (h.2.2.2.2).out.size)
    have CP : Hid (∀ u, (fun u => u.cell? ⟨w.heap.size, 0, none⟩ = some (.int .i64 z) ∧ u.cell? ⟨w.heap.size, 1, none⟩ = some (.slice hA hh hcc) ∧ u.cell? ⟨w.heap.size + 1, 0, none⟩ = some (.int .i64 z) ∧ u.cell? ⟨w.heap.size + 1, 1, none⟩ = some (.slice hA' hh' hcc') ∧ Hid (Below W.heap.size W u)) u → Calls Tryz.prog 45 #[.slice hA hh hcc, .slice hA' hh' hcc'] u (Drew (.bool q) u)) := fun u h => eqP_any ⟨hA, hh, hcc⟩ ⟨hA', hh', hcc'⟩ B B' l l' q u (HP.out.below (h.2.2.2.2).out (Nat.le_trans hB BW.out.size)) (HP'.out.below (h.2.2.2.2).out (Nat.le_trans hB' BW.out.size)) b1 b2 HQ
    have D0 := hide ((Below.refl W.heap.size W).drew)
    obtain ⟨k0, -, l0⟩ := bx_all H0.out
    obtain ⟨k1, -, l1⟩ := bx_all H1.out
    clear hq HQ HP HP'
    go_enter Tryz.func50, Tryz.ntmps50
    go_upto_region 1 with fail
    have hW' := hW.out
    rw [hW']
    clear hW hW'
    go_wp2_with fail
    refine (CP.out _ (RD.out _ (Below.refl _ _))).mono ?_
    rintro r u1 ⟨rfl, BU⟩
    go_wp2
    go_ret
    exact ⟨rfl, BW.out.trans (BU.mono BW.out.size)⟩
  · have HF : Hid (q = false) := by
      cases q
      · rfl
      · exact absurd (hq.out.1 rfl).1 e
    have t1 : (z == z') = false := by simpa using e
    obtain ⟨k0, -, l0⟩ := bx_all H0.out
    obtain ⟨k1, -, l1⟩ := bx_all H1.out
    clear hq HP HP' e
    go_enter Tryz.func50, Tryz.ntmps50
    go_upto_region 1 with fail
    have hW' := hW.out
    rw [hW']
    clear hW hW'
    go_wp2
    go_ret
    rw [HF.out]
    exact ⟨rfl, BW.out⟩

set_option maxHeartbeats 2000000 in
theorem eqN_any (s s' : Sl) (N N' : List Nd) (q : Bool) (w : World) (p : Nodes w w.heap.size s N) (p' : Nodes w w.heap.size s' N') (hn : s.n ≤ 17592186044416) (hn' : s'.n ≤ 17592186044416)
    (hp : Hid (∀ j, j < N.length → (N.getD j (0, [])).2.length ≤ 17592186044416)) (hp' : Hid (∀ j, j < N'.length → (N'.getD j (0, [])).2.length ≤ 17592186044416)) (hq : Hid (q = true ↔ N = N')) :
    Calls Tryz.prog 49 #[s.val, s'.val, .func (.func 50) #[] #[]] w (Drew (.bool q) w) := by
  obtain ⟨A, n, c⟩ := s
  obtain ⟨A', n', c'⟩ := s'
  show Calls Tryz.prog 49 #[.slice A n c, .slice A' n' c', .func (.func 50) #[] #[]] w _
  have LN : Hid (N.length = n) := p.1
  have LN' : Hid (N'.length = n') := p'.1
  have SN := hide p
  have SN' := hide p'
  dsimp only at hn hn'
  clear p p'
  by_cases hnn : n = n'
  · subst hnn
    have h0 : (((n : Nat) : Int) != (n : Int)) = false := by simp
    go_enter Tryz.func49, Tryz.ntmps49
    go_wp2
    go_loopw [17] (fun i wx => ∃ k : Nat, k ≤ n ∧ i = .int .i64 k ∧ Hid (∀ j, j < k → N.getD j (0, []) = N'.getD j (0, [])) ∧ Hid (Below w.heap.size w wx)) (fun i _ => n - (intOf i).toNat)
    case atStart => exact ⟨0, by omega, rfl, (fun j hj => by omega), Below.refl _ _⟩
    case round =>
      obtain ⟨k, hk, rfl, HS, HB⟩ := hrel
      by_cases hlt : k < n
      · obtain ⟨b, off, e, hb, hc0, ⟨hA, hh, hcc⟩, hc1, hP⟩ := (SN.out.below HB.out (Nat.le_refl _)).at_ hlt
        obtain ⟨b', off', e', hb', hd0, ⟨hA', hh', hcc'⟩, hd1, hP'⟩ := (SN'.out.below HB.out (Nat.le_refl _)).at_ hlt
        dsimp only at e e' hc1 hd1
        subst e e'
        have i1 : (0 : Int) ≤ (k : Int) := by omega
        have i2 : (k : Int) < (n : Int) := by omega
        have HP := hide hP
        have HP' := hide hP'
        have b1 : hh ≤ 17592186044416 := by have := hp.out k (by have := LN.out; omega); have := hP.len; dsimp only at this; omega
        have b2 : hh' ≤ 17592186044416 := by have := hp'.out k (by have := LN'.out; omega); have := hP'.len; dsimp only at this; omega
        have hs0 := HB.out.size
        have hbw : b < wr.heap.size := Nat.lt_of_lt_of_le hb hs0
        have hbw' : b' < wr.heap.size := Nat.lt_of_lt_of_le hb' hs0
        have hd0' : ∀ o, (wr.alloc o).cell? ⟨b', off' + k * 2, none⟩ = some (.int .i64 (N'.getD k (0, [])).1) := fun o => (((Below.refl wr.heap.size wr).alloc (Nat.le_refl _) o).cell (p := ⟨b', _, none⟩) hbw').trans hd0
        have hd1' : ∀ o, (wr.alloc o).cell? ⟨b', off' + k * 2 + 1, none⟩ = some (.slice hA' hh' hcc') := fun o => (((Below.refl wr.heap.size wr).alloc (Nat.le_refl _) o).cell (p := ⟨b', _, none⟩) hbw').trans hd1
        clear hP hP' hd0 hd1
        obtain ⟨r, hr⟩ := (show ∃ r : Bool, (r = true ↔ (N.getD k (0, [])).1 = (N'.getD k (0, [])).1 ∧ (N.getD k (0, [])).2 = (N'.getD k (0, [])).2) from ⟨decide ((N.getD k (0, [])).1 = (N'.getD k (0, [])).1 ∧ (N.getD k (0, [])).2 = (N'.getD k (0, [])).2), by simp⟩)
        have HR := hide hr
        clear hr
        generalize hz : (N.getD k (0, [])).1 = z at hc0 HR
        generalize hz' : (N'.getD k (0, [])).1 = z' at hd0' HR
        have HZ := hide hz
        have HZ' := hide hz'
        clear hz hz'
        go_wp2_with fail
        refine (sameNode_any z z' ⟨hA, hh, hcc⟩ ⟨hA', hh', hcc'⟩ w.heap.size w.heap.size _ _ r _ (HP.out.below (boxed2 wr _ _) hs0) (HP'.out.below (boxed2 wr _ _) hs0) (by simp; omega) (by simp; omega) b1 b2 HR).mono ?_
        rintro e u1 ⟨rfl, hu1⟩
        have HB1 := hide (HB.out.trans (((boxed2 wr _ _).trans (hu1.mono (boxed2 wr _ _).size)).mono hs0))
        clear hu1
        cases r
        · have HF : Hid (q = false) := by
            cases q
            · rfl
            · have e := hq.out.1 rfl
              have := HR.out.2 ⟨by rw [← HZ.out, ← HZ'.out, e], by rw [e]⟩
              cases this
          clear HS HR
          go_wp2
          go_ret
          rw [HF.out]
          exact ⟨rfl, HB1.out⟩
        · have HS' : Hid (∀ j, j < k + 1 → N.getD j (0, []) = N'.getD j (0, [])) := fun j hj => by
            by_cases ej : j = k
            · subst ej
              have := HR.out.1 rfl
              exact Prod.ext (by rw [HZ.out, HZ'.out]; exact this.1) this.2
            · exact HS.out j (by omega)
          clear HS HR
          go_wp2
          go_roundw
          case rel => exact ⟨k + 1, by omega, by go_num, HS', HB1⟩
          case measure => simp [intOf]; omega
      · have HT : Hid (q = true) := hq.out.2 (nodes_ext (by rw [LN.out, LN'.out]) fun j hj => HS.out j (by have := LN.out; omega))
        go_wp2
        go_ret
        rw [HT.out]
        exact ⟨rfl, HB.out⟩
  · have h0 : (((n : Nat) : Int) != (n' : Int)) = true := by simp; omega
    have HF : Hid (q = false) := by
      cases q
      · rfl
      · have e := hq.out.1 rfl
        exact absurd (by rw [← LN.out, ← LN'.out, e]) hnn
    go_enter Tryz.func49, Tryz.ntmps49
    go_wp2
    go_ret
    rw [HF.out]
    exact ⟨rfl, Below.refl _ _⟩

set_option maxRecDepth 100000 in
set_option maxHeartbeats 4000000 in
theorem same_any (v v' : Gv) (G G' : GL) (q : Bool) (w : World) (S : Sees w w.heap.size v G) (S' : Sees w w.heap.size v' G') (hn : v.N.n ≤ 17592186044416) (he : v.E.n ≤ 17592186044416) (hn' : v'.N.n ≤ 17592186044416) (he' : v'.E.n ≤ 17592186044416)
    (hp : Hid (∀ j, j < G.N.length → (G.N.getD j (0, [])).2.length ≤ 17592186044416)) (hp' : Hid (∀ j, j < G'.N.length → (G'.N.getD j (0, [])).2.length ≤ 17592186044416)) (hq : Hid (q = true ↔ G = G')) :
    Calls Tryz.prog 26 #[v.val, v'.val] w (Drew (.bool q) w) := by
  have HF : G ≠ G' → Hid (q = false) := fun h => by
    cases q
    · rfl
    · exact absurd (hq.out.1 rfl) h
  have HT : G = G' → Hid (q = true) := fun h => hq.out.2 h
  obtain ⟨⟨nA, nn, nc⟩, ⟨eA, en, ec⟩, x, y⟩ := v
  obtain ⟨⟨nA', nn', nc'⟩, ⟨eA', en', ec'⟩, x', y'⟩ := v'
  show Calls Tryz.prog 26 #[.agg #[.slice nA nn nc, .slice eA en ec, .int .i64 x, .int .i64 y], .agg #[.slice nA' nn' nc', .slice eA' en' ec', .int .i64 x', .int .i64 y']] w _
  obtain ⟨W, hW⟩ : ∃ W, Hid ((w.alloc (.cells #[.slice nA nn nc, .slice eA en ec, .int .i64 x, .int .i64 y] 27)).alloc (.cells #[.slice nA' nn' nc', .slice eA' en' ec', .int .i64 x', .int .i64 y'] 27) = W) := ⟨_, rfl⟩
  have BW : Hid (Below w.heap.size w W) := by show Below _ _ _; rw [← hW.out]; exact boxed2 w _ _
  have H0 : Hid (W.heap[w.heap.size]? = some (.cells #[.slice nA nn nc, .slice eA en ec, .int .i64 x, .int .i64 y] 27 (0, 0))) := by show _ = _; rw [← hW.out]; exact heap_alloc2_old w _ _
  have H1 : Hid (W.heap[w.heap.size + 1]? = some (.cells #[.slice nA' nn' nc', .slice eA' en' ec', .int .i64 x', .int .i64 y'] 27 (0, 0))) := by show _ = _; rw [← hW.out]; exact heap_alloc2_new w _ _
  have T := (S.below BW.out (Nat.le_refl _)).more BW.out.size
  have T' := (S'.below BW.out (Nat.le_refl _)).more BW.out.size
  have SN := hide T.nodes
  have SN' := hide T'.nodes
  have SE := hide T.edges
  have SE' := hide T'.edges
  have ex := T.x
  have ex' := T'.x
  have ey := T.y
  have ey' := T'.y
  dsimp only at hn he hn' he' ex ex' ey ey'
  clear S S' T T'
  by_cases c1 : x = x'
  · by_cases c2 : y = y'
    · have EX : Hid (G.x = G'.x) := by show _ = _; omega
      have EY : Hid (G.y = G'.y) := by show _ = _; omega
      subst c1 c2
      have d1 : (x == x) = true := by simp
      have d2 : (y == y) = true := by simp
      clear ex ex' ey ey'
      obtain ⟨qe, hqe⟩ := (show ∃ r : Bool, (r = true ↔ G.E = G'.E) from boolOf _)
      have HQE := hide hqe
      clear hqe
      by_cases eN : G.N = G'.N
      · have HQN : Hid (true = true ↔ G.N = G'.N) := ⟨fun _ => eN, fun _ => rfl⟩
        have HR : Hid (q = qe) := by
          show _ = _
          rw [Bool.eq_iff_iff, hq.out, HQE.out]
          exact ⟨fun e => by rw [e], fun e => gl_ext eN e EX.out EY.out⟩
        clear HF HT hq eN EX EY
        have RD : Hid (∀ u, Hid (Below W.heap.size W u) → (fun u => u.cell? ⟨w.heap.size, 0, none⟩ = some (.slice nA nn nc) ∧ u.cell? ⟨w.heap.size, 1, none⟩ = some (.slice eA en ec) ∧ u.cell? ⟨w.heap.size, 2, none⟩ = some (.int .i64 x) ∧ u.cell? ⟨w.heap.size, 3, none⟩ = some (.int .i64 y) ∧ u.cell? ⟨w.heap.size + 1, 0, none⟩ = some (.slice nA' nn' nc') ∧ u.cell? ⟨w.heap.size + 1, 1, none⟩ = some (.slice eA' en' ec') ∧ u.cell? ⟨w.heap.size + 1, 2, none⟩ = some (.int .i64 x) ∧ u.cell? ⟨w.heap.size + 1, 3, none⟩ = some (.int .i64 y) ∧ Hid (Below W.heap.size W u)) u) := fun u hu => by
          have k0 := (bx_all (bx_step H0.out hu.out)).1
          have k1 := (bx_all (bx_step H1.out hu.out)).1
          exact ⟨k0 0, k0 1, k0 2, k0 3, k1 0, k1 1, k1 2, k1 3, hu⟩
        have LST : Hid (∀ u u1, (fun u => u.cell? ⟨w.heap.size, 0, none⟩ = some (.slice nA nn nc) ∧ u.cell? ⟨w.heap.size, 1, none⟩ = some (.slice eA en ec) ∧ u.cell? ⟨w.heap.size, 2, none⟩ = some (.int .i64 x) ∧ u.cell? ⟨w.heap.size, 3, none⟩ = some (.int .i64 y) ∧ u.cell? ⟨w.heap.size + 1, 0, none⟩ = some (.slice nA' nn' nc') ∧ u.cell? ⟨w.heap.size + 1, 1, none⟩ = some (.slice eA' en' ec') ∧ u.cell? ⟨w.heap.size + 1, 2, none⟩ = some (.int .i64 x) ∧ u.cell? ⟨w.heap.size + 1, 3, none⟩ = some (.int .i64 y) ∧ Hid (Below W.heap.size W u)) u → Below u.heap.size u u1 → Hid (Below W.heap.size W u1)) := fun u u1 h h1 => (h.2.2.2.2.2.2.2.2).out.trans (h1.mono (h.2.2.2.2.2.2.2.2).out.size)
        have CN : Hid (∀ u, (fun u => u.cell? ⟨w.heap.size, 0, none⟩ = some (.slice nA nn nc) ∧ u.cell? ⟨w.heap.size, 1, none⟩ = some (.slice eA en ec) ∧ u.cell? ⟨w.heap.size, 2, none⟩ = some (.int .i64 x) ∧ u.cell? ⟨w.heap.size, 3, none⟩ = some (.int .i64 y) ∧ u.cell? ⟨w.heap.size + 1, 0, none⟩ = some (.slice nA' nn' nc') ∧ u.cell? ⟨w.heap.size + 1, 1, none⟩ = some (.slice eA' en' ec') ∧ u.cell? ⟨w.heap.size + 1, 2, none⟩ = some (.int .i64 x) ∧ u.cell? ⟨w.heap.size + 1, 3, none⟩ = some (.int .i64 y) ∧ Hid (Below W.heap.size W u)) u → Calls Tryz.prog 49 #[.slice nA nn nc, .slice nA' nn' nc', .func (.func 50) #[] #[]] u (Drew (.bool true) u)) := fun u h => eqN_any ⟨nA, nn, nc⟩ ⟨nA', nn', nc'⟩ G.N G'.N true u ((SN.out.below (h.2.2.2.2.2.2.2.2).out (Nat.le_refl _)).more (h.2.2.2.2.2.2.2.2).out.size) ((SN'.out.below (h.2.2.2.2.2.2.2.2).out (Nat.le_refl _)).more (h.2.2.2.2.2.2.2.2).out.size) hn hn' hp hp' HQN
        have CE : Hid (∀ u, (fun u => u.cell? ⟨w.heap.size, 0, none⟩ = some (.slice nA nn nc) ∧ u.cell? ⟨w.heap.size, 1, none⟩ = some (.slice eA en ec) ∧ u.cell? ⟨w.heap.size, 2, none⟩ = some (.int .i64 x) ∧ u.cell? ⟨w.heap.size, 3, none⟩ = some (.int .i64 y) ∧ u.cell? ⟨w.heap.size + 1, 0, none⟩ = some (.slice nA' nn' nc') ∧ u.cell? ⟨w.heap.size + 1, 1, none⟩ = some (.slice eA' en' ec') ∧ u.cell? ⟨w.heap.size + 1, 2, none⟩ = some (.int .i64 x) ∧ u.cell? ⟨w.heap.size + 1, 3, none⟩ = some (.int .i64 y) ∧ Hid (Below W.heap.size W u)) u → Calls Tryz.prog 51 #[.slice eA en ec, .slice eA' en' ec'] u (Drew (.bool qe) u)) := fun u h => eqE_any ⟨eA, en, ec⟩ ⟨eA', en', ec'⟩ W.heap.size W.heap.size G.E G'.E qe u (SE.out.below (h.2.2.2.2.2.2.2.2).out (Nat.le_refl _)) (SE'.out.below (h.2.2.2.2.2.2.2.2).out (Nat.le_refl _)) he he' HQE
        have D0 := hide ((Below.refl W.heap.size W).drew)
        obtain ⟨k0, -, l0⟩ := bx_all H0.out
        obtain ⟨k1, -, l1⟩ := bx_all H1.out
        clear HQN HQE SN SN' SE SE'
        go_enter Tryz.func26, Tryz.ntmps26
        go_upto_region 1 with fail
        have hW' := hW.out
        rw [hW']
        clear hW hW'
        go_wp2_with fail
        refine (CN.out _ (RD.out _ (Below.refl _ _))).mono ?_
        rintro r u1 ⟨rfl, B1⟩
        have BU := hide B1
        clear B1
        obtain ⟨m0, -, n0⟩ := bx_all (bx_step H0.out BU.out)
        obtain ⟨m1, -, n1⟩ := bx_all (bx_step H1.out BU.out)
        go_wp2_with fail
        refine (CE.out _ (RD.out _ BU)).mono ?_
        rintro r u2 ⟨rfl, B2⟩
        have BU := hide (BU.out.trans (B2.mono BU.out.size))
        clear B2
        go_wp2
        go_ret
        rw [HR.out]
        exact ⟨rfl, BW.out.trans (BU.out.mono BW.out.size)⟩
      · have HQN : Hid (false = true ↔ G.N = G'.N) := ⟨(fun h => by cases h), fun h => absurd h eN⟩
        have HR : Hid (q = false) := HF fun e => eN (by rw [e])
        clear HF HT hq eN EX EY
        have RD : Hid (∀ u, Hid (Below W.heap.size W u) → (fun u => u.cell? ⟨w.heap.size, 0, none⟩ = some (.slice nA nn nc) ∧ u.cell? ⟨w.heap.size, 1, none⟩ = some (.slice eA en ec) ∧ u.cell? ⟨w.heap.size, 2, none⟩ = some (.int .i64 x) ∧ u.cell? ⟨w.heap.size, 3, none⟩ = some (.int .i64 y) ∧ u.cell? ⟨w.heap.size + 1, 0, none⟩ = some (.slice nA' nn' nc') ∧ u.cell? ⟨w.heap.size + 1, 1, none⟩ = some (.slice eA' en' ec') ∧ u.cell? ⟨w.heap.size + 1, 2, none⟩ = some (.int .i64 x) ∧ u.cell? ⟨w.heap.size + 1, 3, none⟩ = some (.int .i64 y) ∧ Hid (Below W.heap.size W u)) u) := fun u hu => by
          have k0 := (bx_all (bx_step H0.out hu.out)).1
          have k1 := (bx_all (bx_step H1.out hu.out)).1
          exact ⟨k0 0, k0 1, k0 2, k0 3, k1 0, k1 1, k1 2, k1 3, hu⟩
        have LST : Hid (∀ u u1, (fun u => u.cell? ⟨w.heap.size, 0, none⟩ = some (.slice nA nn nc) ∧ u.cell? ⟨w.heap.size, 1, none⟩ = some (.slice eA en ec) ∧ u.cell? ⟨w.heap.size, 2, none⟩ = some (.int .i64 x) ∧ u.cell? ⟨w.heap.size, 3, none⟩ = some (.int .i64 y) ∧ u.cell? ⟨w.heap.size + 1, 0, none⟩ = some (.slice nA' nn' nc') ∧ u.cell? ⟨w.heap.size + 1, 1, none⟩ = some (.slice eA' en' ec') ∧ u.cell? ⟨w.heap.size + 1, 2, none⟩ = some (.int .i64 x) ∧ u.cell? ⟨w.heap.size + 1, 3, none⟩ = some (.int .i64 y) ∧ Hid (Below W.heap.size W u)) u → Below u.heap.size u u1 → Hid (Below W.heap.size W u1)) := fun u u1 h h1 => (h.2.2.2.2.2.2.2.2).out.trans (h1.mono (h.2.2.2.2.2.2.2.2).out.size)
        have CN : Hid (∀ u, (fun u => u.cell? ⟨w.heap.size, 0, none⟩ = some (.slice nA nn nc) ∧ u.cell? ⟨w.heap.size, 1, none⟩ = some (.slice eA en ec) ∧ u.cell? ⟨w.heap.size, 2, none⟩ = some (.int .i64 x) ∧ u.cell? ⟨w.heap.size, 3, none⟩ = some (.int .i64 y) ∧ u.cell? ⟨w.heap.size + 1, 0, none⟩ = some (.slice nA' nn' nc') ∧ u.cell? ⟨w.heap.size + 1, 1, none⟩ = some (.slice eA' en' ec') ∧ u.cell? ⟨w.heap.size + 1, 2, none⟩ = some (.int .i64 x) ∧ u.cell? ⟨w.heap.size + 1, 3, none⟩ = some (.int .i64 y) ∧ Hid (Below W.heap.size W u)) u → Calls Tryz.prog 49 #[.slice nA nn nc, .slice nA' nn' nc', .func (.func 50) #[] #[]] u (Drew (.bool false) u)) := fun u h => eqN_any ⟨nA, nn, nc⟩ ⟨nA', nn', nc'⟩ G.N G'.N false u ((SN.out.below (h.2.2.2.2.2.2.2.2).out (Nat.le_refl _)).more (h.2.2.2.2.2.2.2.2).out.size) ((SN'.out.below (h.2.2.2.2.2.2.2.2).out (Nat.le_refl _)).more (h.2.2.2.2.2.2.2.2).out.size) hn hn' hp hp' HQN
        have CE : Hid (∀ u, (fun u => u.cell? ⟨w.heap.size, 0, none⟩ = some (.slice nA nn nc) ∧ u.cell? ⟨w.heap.size, 1, none⟩ = some (.slice eA en ec) ∧ u.cell? ⟨w.heap.size, 2, none⟩ = some (.int .i64 x) ∧ u.cell? ⟨w.heap.size, 3, none⟩ = some (.int .i64 y) ∧ u.cell? ⟨w.heap.size + 1, 0, none⟩ = some (.slice nA' nn' nc') ∧ u.cell? ⟨w.heap.size + 1, 1, none⟩ = some (.slice eA' en' ec') ∧ u.cell? ⟨w.heap.size + 1, 2, none⟩ = some (.int .i64 x) ∧ u.cell? ⟨w.heap.size + 1, 3, none⟩ = some (.int .i64 y) ∧ Hid (Below W.heap.size W u)) u → Calls Tryz.prog 51 #[.slice eA en ec, .slice eA' en' ec'] u (Drew (.bool qe) u)) := fun u h => eqE_any ⟨eA, en, ec⟩ ⟨eA', en', ec'⟩ W.heap.size W.heap.size G.E G'.E qe u (SE.out.below (h.2.2.2.2.2.2.2.2).out (Nat.le_refl _)) (SE'.out.below (h.2.2.2.2.2.2.2.2).out (Nat.le_refl _)) he he' HQE
        have D0 := hide ((Below.refl W.heap.size W).drew)
        obtain ⟨k0, -, l0⟩ := bx_all H0.out
        obtain ⟨k1, -, l1⟩ := bx_all H1.out
        clear HQN HQE SN SN' SE SE'
        go_enter Tryz.func26, Tryz.ntmps26
        go_upto_region 1 with fail
        have hW' := hW.out
        rw [hW']
        clear hW hW'
        go_wp2_with fail
        refine (CN.out _ (RD.out _ (Below.refl _ _))).mono ?_
        rintro r u1 ⟨rfl, B1⟩
        have BU := hide B1
        clear B1
        go_wp2
        go_ret
        rw [HR.out]
        exact ⟨rfl, BW.out.trans (BU.out.mono BW.out.size)⟩
    · have HR := HF fun e => c2 (by rw [ey, ey', e])
      have d1 : (x == x') = true := by simpa using c1
      have d2 : (y == y') = false := by simpa using c2
      obtain ⟨k0, -, l0⟩ := bx_all H0.out
      obtain ⟨k1, -, l1⟩ := bx_all H1.out
      clear HF HT hq c1 c2 ex ex' ey ey'
      go_enter Tryz.func26, Tryz.ntmps26
      go_upto_region 1 with fail
      have hW' := hW.out
      rw [hW']
      clear hW hW'
      go_wp2
      go_ret
      rw [HR.out]
      exact ⟨rfl, BW.out⟩
  · have HR := HF fun e => c1 (by rw [ex, ex', e])
    have d1 : (x == x') = false := by simpa using c1
    obtain ⟨k0, -, l0⟩ := bx_all H0.out
    obtain ⟨k1, -, l1⟩ := bx_all H1.out
    clear HF HT hq c1 ex ex' ey ey'
    go_enter Tryz.func26, Tryz.ntmps26
    go_upto_region 1 with fail
    have hW' := hW.out
    rw [hW']
    clear hW hW'
    go_wp2
    go_ret
    rw [HR.out]
    exact ⟨rfl, BW.out⟩

end Go.Proofs.YtiiadkjiofkonaaGreat
