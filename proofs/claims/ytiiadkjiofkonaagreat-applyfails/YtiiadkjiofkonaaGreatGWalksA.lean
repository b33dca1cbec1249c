/- Where a node stands, whether a graph is small, and whether two lists are the same: the document's answer, for every graph. -/
import Derived.Test.YtiiadkjiofkonaaGreatProg
import Derived.Test.YtiiadkjiofkonaaGreatAB6
import Derived.WalkKit
import Derived.Below
import Derived.Deep.QuietTactic
import Derived.BigQuiet
namespace Go.Proofs.YtiiadkjiofkonaaGreat
open Go.RowKit
set_option linter.unusedVariables false

/-- Behind the box of an argument. -/
theorem boxed (w : World) (o : Obj) : Below w.heap.size w (w.alloc o) := (Below.refl _ _).alloc (Nat.le_refl _) _

set_option maxHeartbeats 1000000 in
theorem at_any (v : Gv) (G : GL) (n r : Int) (w : World) (S : Sees w w.heap.size v G) (hn : v.N.n ≤ 17592186044416) (hr : Hid (atI G.N n = r)) :
    Calls Tryz.prog 52 #[v.val, .int .i64 n] w (Drew (.int .i64 r) w) := by
  obtain ⟨⟨nA, nn, nc⟩, ⟨eA, en, ec⟩, x, y⟩ := v
  have SN := hide S.nodes
  have HL := hide S.nodes.1
  dsimp only at hn HL
  clear S
  go_enter Tryz.func52, Tryz.ntmps52
  go_wp2
  go_loopw [10] (fun i wx => ∃ k : Nat, k ≤ nn ∧ i = .int .i64 k ∧ Hid (∀ j, j < k → (G.N.getD j (0, [])).1 ≠ n) ∧ Hid (Below w.heap.size w wx)) (fun i _ => nn - (intOf i).toNat)
  case atStart => exact ⟨0, by omega, rfl, (fun j hj => by omega), boxed w _⟩
  case round =>
    obtain ⟨k, hk, rfl, HS, HB⟩ := hrel
    by_cases hlt : k < nn
    · obtain ⟨b, off, e, hb, hc0, ⟨hA, hh, hcc⟩, hc1, _⟩ := (SN.out.below HB.out (Nat.le_refl _)).at_ hlt
      dsimp only at e hc1
      subst e
      by_cases e : (G.N.getD k (0, [])).1 = n
      · have HP := hide (pos_here (l := G.N) (by have := HL.out; omega) HS.out e)
        have HR : Hid (r = (k : Int)) := by
          show _ = _
          rw [← hr.out]
          unfold atI
          rw [HP.out, if_pos (by have := HL.out; omega)]
        rw [e] at hc0
        clear e HS HP
        go_wp2
        go_ret
        rw [HR.out]
        exact ⟨rfl, HB.out.alloc HB.out.size _⟩
      · have HS' : Hid (∀ j, j < k + 1 → (G.N.getD j (0, [])).1 ≠ n) := fun j hj => by
          by_cases ej : j = k
          · subst ej; exact e
          · exact HS.out j (by omega)
        have t1 : ((G.N.getD k (0, [])).1 == n) = false := by simpa using e
        generalize (G.N.getD k (0, [])).1 = z at hc0 t1
        clear e HS
        go_wp2
        go_roundw
        case rel => exact ⟨k + 1, by omega, by go_num, HS', hide (HB.out.alloc HB.out.size _)⟩
        case measure => simp [intOf]; omega
    · have HR : Hid (r = -1) := by
        show _ = _
        rw [← hr.out]
        unfold atI
        rw [if_neg (pos_none fun j hj => HS.out j (by have := HL.out; omega))]
      go_wp2
      go_ret
      rw [HR.out]
      exact ⟨rfl, HB.out⟩

/-- Small enough to be played. -/
def FewG (G : GL) : Prop := (∀ j, j < G.N.length → (G.N.getD j (0, [])).2.length ≤ 100) ∧ G.N.length ≤ 100 ∧ G.E.length ≤ 100

set_option maxHeartbeats 1000000 in
theorem few_any (v : Gv) (G : GL) (q : Bool) (w : World) (S : Sees w w.heap.size v G) (hn : v.N.n ≤ 17592186044416) (he : v.E.n ≤ 17592186044416) (hp : ∀ j, j < G.N.length → (G.N.getD j (0, [])).2.length ≤ 17592186044416) (hq : Hid (q = true ↔ FewG G)) :
    Calls Tryz.prog 28 #[v.val] w (Drew (.bool q) w) := by
  obtain ⟨⟨nA, nn, nc⟩, ⟨eA, en, ec⟩, x, y⟩ := v
  have SN := hide S.nodes
  have HL := hide S.nodes.1
  have HE := hide (edges_len S.edges)
  have HPL := hide hp
  dsimp only at hn he HL HE
  clear S hp
  go_enter Tryz.func28, Tryz.ntmps28
  go_wp2
  go_loopw [8] (fun i wx => ∃ k : Nat, k ≤ nn ∧ i = .int .i64 k ∧ Hid (∀ j, j < k → (G.N.getD j (0, [])).2.length ≤ 100) ∧ Hid (wx.heap[w.heap.size]? = some (.cells #[.slice nA nn nc, .slice eA en ec, .int .i64 x, .int .i64 y] 27 (0, 0))) ∧ Hid (Below w.heap.size w wx)) (fun i _ => nn - (intOf i).toNat)
  case atStart => exact ⟨0, by omega, rfl, (fun j hj => by omega), heap_alloc_new w _, boxed w _⟩
  case round =>
    obtain ⟨k, hk, rfl, HS, HX, HB⟩ := hrel
    by_cases hlt : k < nn
    · obtain ⟨b, off, e, hb, hc0, ⟨hA, hh, hcc⟩, hc1, hP⟩ := (SN.out.below HB.out (Nat.le_refl _)).at_ hlt
      dsimp only at e hc1
      subst e
      have HH := hide hP.len
      have hbh : hh ≤ 17592186044416 := by have := HPL.out k (by have := HL.out; omega); have := HH.out; dsimp only at this; omega
      generalize (G.N.getD k (0, [])).1 = z at hc0
      by_cases e : hh ≤ 100
      · have HS' : Hid (∀ j, j < k + 1 → (G.N.getD j (0, [])).2.length ≤ 100) := fun j hj => by
          by_cases ej : j = k
          · subst ej; have := HH.out; dsimp only at this; omega
          · exact HS.out j (by omega)
        have t1 : decide ((100 : Int) < (hh : Int)) = false := by simp; omega
        have HX' := fun o => hide ((Below.heap_alloc wr o _ (Array.getElem?_eq_some_iff.1 HX.out).1).trans HX.out)
        clear e HS
        go_wp2
        go_roundw
        case rel => exact ⟨k + 1, by omega, by go_num, HS', HX' _, hide (HB.out.alloc HB.out.size _)⟩
        case measure => simp [intOf]; omega
      · have HF : Hid (q = false) := by
          cases q
          · rfl
          · have := (hq.out.1 rfl).1 k (by have := HL.out; omega); have := HH.out; dsimp only at this; omega
        have t1 : decide ((100 : Int) < (hh : Int)) = true := by simp; omega
        clear e HS
        go_wp2
        go_ret
        rw [HF.out]
        exact ⟨rfl, HB.out.alloc HB.out.size _⟩
    · have hc := fun i => cell_of_row wr w.heap.size i _ 27 (0, 0) HX.out
      have hl : w.heap.size < wr.heap.size := (Array.getElem?_eq_some_iff.1 HX.out).1
      have HQ : Hid (q = (decide ((nn : Int) ≤ 100) && decide ((en : Int) ≤ 100))) := by
        show _ = _
        have h1 : ∀ j, j < G.N.length → (G.N.getD j (0, [])).2.length ≤ 100 := fun j hj => HS.out j (by have := HL.out; omega)
        have h2 : FewG G ↔ (nn ≤ 100 ∧ en ≤ 100) := by
          unfold FewG
          rw [HL.out, ← HE.out]
          exact ⟨fun h => h.2, fun h => ⟨by rw [← HL.out]; exact h1, h⟩⟩
        rw [Bool.eq_iff_iff, hq.out, h2]
        simp
        omega
      by_cases c1 : nn ≤ 100
      · have t1 : decide ((nn : Int) ≤ 100) = true := by simp; omega
        rw [t1] at HQ
        go_wp2
        go_ret
        rw [HQ.out]
        exact ⟨by simp, HB.out⟩
      · have t1 : decide ((nn : Int) ≤ 100) = false := by simp; omega
        rw [t1] at HQ
        go_wp2
        go_ret
        rw [HQ.out]
        exact ⟨by simp, HB.out⟩

end Go.Proofs.YtiiadkjiofkonaaGreat
