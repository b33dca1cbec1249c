/- Where one of a number stands in a list. -/
import Derived.Test.YtiiadkjiofkonaaGreatGClos
import Derived.WalkKit
import Derived.Below
import Derived.Deep.QuietTactic
import Derived.BigQuiet
import Derived.Shelf.Abstract
namespace Go.Proofs.YtiiadkjiofkonaaGreat
open Go.RowKit
set_option linter.unusedVariables false


set_option maxRecDepth 100000 in
set_option maxHeartbeats 1000000 in
theorem findE_any (A : Option Addr) (n c : Nat) (L : List Ed) (x r : Int) (w : World) (hN : Nums w w.heap.size 3 A n (flat3 L)) (hn : n ≤ 1000) (hr : Hid (atf (fun z : Ed => z.1) L x = r)) :
    Calls Tryz.prog 82 #[.slice A n c, .func (.func 83) #[] #[], .int .i64 x] w (Drew (.int .i64 r) w) := by
  have HN := hide hN
  have HL := hide (edges_len hN)
  clear hN
  go_enter Tryz.func82, Tryz.ntmps82
  go_wp2
  go_loopw [11] (fun i wx => ∃ k : Nat, k ≤ n ∧ i = .int .i64 k ∧ Hid (∀ j, j < k → (L.getD j (0, 0, 0)).1 ≠ x) ∧ Hid (Below w.heap.size w wx)) (fun i _ => n - (intOf i).toNat)
  case atStart => exact ⟨0, by omega, rfl, (fun j hj => by omega), Below.refl _ _⟩
  case round =>
    obtain ⟨k, hk, rfl, HS, HB⟩ := hrel
    by_cases hlt : k < n
    · have HK : Hid (k < L.length) := by have := HL.out; show _ < _; omega
      obtain ⟨b0, off, e0, hb0, c0, c1, c2⟩ := edge_at (k := k) (HN.out.below HB.out (Nat.le_refl _)) hlt
      subst e0
      generalize (L.getD k (0, 0, 0)).2.1 = b at c1
      generalize (L.getD k (0, 0, 0)).2.2 = d at c2
      by_cases e : (L.getD k (0, 0, 0)).1 = x
      · have HR : Hid (r = (k : Int)) := by
          show _ = _
          rw [← hr.out]
          exact atf_here HK.out HS.out e
        rw [e] at c0
        clear e HS
        go_wp2_with fail
        refine (edgeNumber_any _ _ _ _).mono ?_
        rintro e u1 ⟨rfl, hu1⟩
        have HB1 := hide ((HB.out.alloc HB.out.size _).trans (hu1.mono (by have := HB.out.size; simp; omega)))
        clear hu1
        go_wp2
        go_ret
        rw [HR.out]
        exact ⟨rfl, HB1.out⟩
      · have HS' : Hid (∀ j, j < k + 1 → (L.getD j (0, 0, 0)).1 ≠ x) := fun j hj => by
          by_cases ej : j = k
          · subst ej; exact e
          · exact HS.out j (by omega)
        have t1 : ((L.getD k (0, 0, 0)).1 == x) = false := by simpa using e
        generalize (L.getD k (0, 0, 0)).1 = z at c0 t1
        clear e HS
        go_wp2_with fail
        refine (edgeNumber_any _ _ _ _).mono ?_
        rintro e u1 ⟨rfl, hu1⟩
        have HB1 := hide ((HB.out.alloc HB.out.size _).trans (hu1.mono (by have := HB.out.size; simp; omega)))
        clear hu1
        go_wp2
        go_roundw
        case rel => exact ⟨k + 1, by omega, by go_num, HS', HB1⟩
        case measure => simp [intOf]; omega
    · have HR : Hid (r = -1) := by
        show _ = _
        rw [← hr.out]
        exact atf_none fun j hj => HS.out j (by have := HL.out; omega)
      go_wp2
      go_ret
      rw [HR.out]
      exact ⟨rfl, HB.out⟩

set_option maxRecDepth 100000 in
set_option maxHeartbeats 1000000 in
theorem findP_any (A : Option Addr) (n c : Nat) (L : List Pr) (x r : Int) (w : World) (hN : Nums w w.heap.size 2 A n (flat2 L)) (hn : n ≤ 1000) (hr : Hid (atf (fun z : Pr => z.1) L x = r)) :
    Calls Tryz.prog 89 #[.slice A n c, .func (.func 90) #[] #[], .int .i64 x] w (Drew (.int .i64 r) w) := by
  have HN := hide hN
  have HL := hide (pairs_len hN)
  clear hN
  go_enter Tryz.func89, Tryz.ntmps89
  go_wp2
  go_loopw [11] (fun i wx => ∃ k : Nat, k ≤ n ∧ i = .int .i64 k ∧ Hid (∀ j, j < k → (L.getD j (0, 0)).1 ≠ x) ∧ Hid (Below w.heap.size w wx)) (fun i _ => n - (intOf i).toNat)
  case atStart => exact ⟨0, by omega, rfl, (fun j hj => by omega), Below.refl _ _⟩
  case round =>
    obtain ⟨k, hk, rfl, HS, HB⟩ := hrel
    by_cases hlt : k < n
    · have HK : Hid (k < L.length) := by have := HL.out; show _ < _; omega
      obtain ⟨b0, off, e0, hb0, c0, c1⟩ := pair_at (k := k) (HN.out.below HB.out (Nat.le_refl _)) hlt
      subst e0
      generalize (L.getD k (0, 0)).2 = b at c1
      by_cases e : (L.getD k (0, 0)).1 = x
      · have HR : Hid (r = (k : Int)) := by
          show _ = _
          rw [← hr.out]
          exact atf_here HK.out HS.out e
        rw [e] at c0
        clear e HS
        go_wp2_with fail
        refine (key_any _ _ _).mono ?_
        rintro e u1 ⟨rfl, hu1⟩
        have HB1 := hide ((HB.out.alloc HB.out.size _).trans (hu1.mono (by have := HB.out.size; simp; omega)))
        clear hu1
        go_wp2
        go_ret
        rw [HR.out]
        exact ⟨rfl, HB1.out⟩
      · have HS' : Hid (∀ j, j < k + 1 → (L.getD j (0, 0)).1 ≠ x) := fun j hj => by
          by_cases ej : j = k
          · subst ej; exact e
          · exact HS.out j (by omega)
        have t1 : ((L.getD k (0, 0)).1 == x) = false := by simpa using e
        generalize (L.getD k (0, 0)).1 = z at c0 t1
        clear e HS
        go_wp2_with fail
        refine (key_any _ _ _).mono ?_
        rintro e u1 ⟨rfl, hu1⟩
        have HB1 := hide ((HB.out.alloc HB.out.size _).trans (hu1.mono (by have := HB.out.size; simp; omega)))
        clear hu1
        go_wp2
        go_roundw
        case rel => exact ⟨k + 1, by omega, by go_num, HS', HB1⟩
        case measure => simp [intOf]; omega
    · have HR : Hid (r = -1) := by
        show _ = _
        rw [← hr.out]
        exact atf_none fun j hj => HS.out j (by have := HL.out; omega)
      go_wp2
      go_ret
      rw [HR.out]
      exact ⟨rfl, HB.out⟩

set_option maxRecDepth 100000 in
set_option maxHeartbeats 1000000 in
theorem findN_any (v : Sl) (L : List Nd) (x r : Int) (w : World) (hN : Nodes w w.heap.size v L) (hn : v.n ≤ 1000) (hr : Hid (atf (fun z : Nd => z.1) L x = r)) :
    Calls Tryz.prog 86 #[.slice v.A v.n v.c, .func (.func 87) #[] #[], .int .i64 x] w (Drew (.int .i64 r) w) := by
  obtain ⟨A, n, c⟩ := v
  have HN := hide hN
  have HL : Hid (n = L.length) := hN.1.symm
  dsimp only at hn
  clear hN
  go_enter Tryz.func86, Tryz.ntmps86
  go_wp2
  go_loopw [11] (fun i wx => ∃ k : Nat, k ≤ n ∧ i = .int .i64 k ∧ Hid (∀ j, j < k → (L.getD j (0, [])).1 ≠ x) ∧ Hid (Below w.heap.size w wx)) (fun i _ => n - (intOf i).toNat)
  case atStart => exact ⟨0, by omega, rfl, (fun j hj => by omega), Below.refl _ _⟩
  case round =>
    obtain ⟨k, hk, rfl, HS, HB⟩ := hrel
    by_cases hlt : k < n
    · have HK : Hid (k < L.length) := by have := HL.out; show _ < _; omega
      obtain ⟨b0, off, e0, hb0, c0, ⟨hA, hh, hcc⟩, c1, -⟩ := (HN.out.below HB.out (Nat.le_refl _)).at_ (k := k) hlt
      dsimp only at e0 c1
      subst e0
      by_cases e : (L.getD k (0, [])).1 = x
      · have HR : Hid (r = (k : Int)) := by
          show _ = _
          rw [← hr.out]
          exact atf_here HK.out HS.out e
        rw [e] at c0
        clear e HS
        go_wp2_with fail
        refine (nodeNumber_any _ _ _ _ _).mono ?_
        rintro e u1 ⟨rfl, hu1⟩
        have HB1 := hide ((HB.out.alloc HB.out.size _).trans (hu1.mono (by have := HB.out.size; simp; omega)))
        clear hu1
        go_wp2
        go_ret
        rw [HR.out]
        exact ⟨rfl, HB1.out⟩
      · have HS' : Hid (∀ j, j < k + 1 → (L.getD j (0, [])).1 ≠ x) := fun j hj => by
          by_cases ej : j = k
          · subst ej; exact e
          · exact HS.out j (by omega)
        have t1 : ((L.getD k (0, [])).1 == x) = false := by simpa using e
        generalize (L.getD k (0, [])).1 = z at c0 t1
        clear e HS
        go_wp2_with fail
        refine (nodeNumber_any _ _ _ _ _).mono ?_
        rintro e u1 ⟨rfl, hu1⟩
        have HB1 := hide ((HB.out.alloc HB.out.size _).trans (hu1.mono (by have := HB.out.size; simp; omega)))
        clear hu1
        go_wp2
        go_roundw
        case rel => exact ⟨k + 1, by omega, by go_num, HS', HB1⟩
        case measure => simp [intOf]; omega
    · have HR : Hid (r = -1) := by
        show _ = _
        rw [← hr.out]
        exact atf_none fun j hj => HS.out j (by have := HL.out; omega)
      go_wp2
      go_ret
      rw [HR.out]
      exact ⟨rfl, HB.out⟩

set_option maxHeartbeats 1000000 in
theorem isNode_any (v : Gv) (G : GL) (x : Int) (q : Bool) (w : World) (S : Sees w w.heap.size v G) (hn : v.N.n ≤ 1000) (hq : Hid (isN G x = q)) :
    Calls Tryz.prog 81 #[v.val, .int .i64 x] w (Drew (.bool q) w) := by
  obtain ⟨⟨nA, nn, nc⟩, ⟨eA, en, ec⟩, y, z⟩ := v
  show Calls Tryz.prog 81 #[.agg #[.slice nA nn nc, .slice eA en ec, .int .i64 y, .int .i64 z], .int .i64 x] w _
  have SN := hide (S.step ((Below.refl _ _).alloc (Nat.le_refl _) (.cells #[.slice nA nn nc, .slice eA en ec, .int .i64 y, .int .i64 z] 27))).nodes
  dsimp only at hn
  clear S
  obtain ⟨r, HR⟩ : ∃ r, Hid (atf (fun z : Nd => z.1) G.N x = r) := ⟨_, rfl⟩
  have HQ : Hid (decide (0 ≤ r) = q) := by
    show _ = _
    rw [← hq.out, ← HR.out]
    rfl
  have hq' := HQ.out
  go_enter Tryz.func81, Tryz.ntmps81
  go_wp2_with fail
  refine (findN_any ⟨nA, nn, nc⟩ G.N x r _ SN.out hn HR).mono ?_
  rintro e u1 ⟨rfl, hu1⟩
  have HB1 := hide (((Below.refl w.heap.size w).alloc (Nat.le_refl _) _).trans (hu1.mono (by simp)))
  clear hu1
  go_wp2
  go_ret
  exact ⟨by simp_all, HB1.out⟩

end Go.Proofs.YtiiadkjiofkonaaGreat
