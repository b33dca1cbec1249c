/- What is meant by the operations on a graph, as plain functions on lists; and words for boxes. No conditions. -/
import Derived.Test.YtiiadkjiofkonaaGreatGFresh
import Derived.Laws.OwnMore
namespace Go.Proofs.YtiiadkjiofkonaaGreat
open Go.RowKit
set_option linter.unusedVariables false

def posN (G : GL) (n : Int) : Nat := G.N.findIdx fun d => d.1 == n
def prsAt (G : GL) (i : Nat) : List Pr := (G.N.getD i (0, [])).2
def setN (G : GL) (i : Nat) (l : List Pr) : GL := ⟨G.N.set i ((G.N.getD i (0, [])).1, l), G.E, G.x, G.y⟩
def addG (G : GL) : GL := ⟨G.N ++ [(G.x, [])], G.E, G.x + 1, G.y⟩
def linkG (a b : Int) (G : GL) : GL := ⟨G.N, G.E ++ [(G.y, a, b)], G.x, G.y + 1⟩
def cutG (e : Int) (G : GL) : GL := ⟨G.N, G.E.filter fun d => d.1 != e, G.x, G.y⟩
def dropG (n : Int) (G : GL) : GL := ⟨G.N.filter fun d => d.1 != n, G.E.filter fun d => d.2.1 != n && d.2.2 != n, G.x, G.y⟩
/-- How much there may be for a walk. -/
structure Small (G : GL) : Prop where
  n : G.N.length ≤ 300
  e : G.E.length ≤ 300
  p : ∀ j, j < G.N.length → (G.N.getD j (0, [])).2.length ≤ 300
  x : -1000000 ≤ G.x ∧ G.x ≤ 1000000
  y : -1000000 ≤ G.y ∧ G.y ≤ 1000000

/-! Boxes -/
section
variable {u u1 : World} {g t : Nat} {cs : Array Value} {o : Obj}
theorem bx_step (h : u.heap[g]? = some o) (b : Below u.heap.size u u1) : u1.heap[g]? = some o := (b.block _ (Array.getElem?_eq_some_iff.1 h).1).trans h
theorem bx_alloc (h : u.heap[g]? = some o) (o' : Obj) : (u.alloc o').heap[g]? = some o := (Below.heap_alloc _ _ _ (Array.getElem?_eq_some_iff.1 h).1).trans h
theorem bx_other {k i : Nat} {x : Value} (h : u.heap[g]? = some o) (hne : g ≠ k) : (u.setCell ⟨k, i, none⟩ x).heap[g]? = some o := (heap_setCell_other u ⟨k, i, none⟩ g x hne).trans h
theorem bx_all (h : u.heap[g]? = some (.cells cs t (0, 0))) : (∀ i, u.cell? ⟨g, i, none⟩ = cs[i]?) ∧ (∀ i, u.frozen? ⟨g, i, none⟩ = false) ∧ g < u.heap.size :=
  ⟨fun i => cell_of_row _ _ i _ t (0, 0) h, fun i => frozen_of_row _ _ i _ t h, (Array.getElem?_eq_some_iff.1 h).1⟩
/-- A block of another type than a row's is as it was when the row grows. -/
theorem bx_grown {X x4 : World} {B e0 s0 n c : Nat} {A : Option Addr} {xs : List Value} (hb : X.heap[g]? = some (.cells cs t (0, 0))) (h : X.ownsRow B e0 s0 (.slice A n c) n xs) (hg : X.grownBy x4 (Value.slice A n c).ownBlock) (ht : t ≠ e0) : x4.heap[g]? = some (.cells cs t (0, 0)) := by
  refine (hg.block g (Array.getElem?_eq_some_iff.1 hb).1 fun e => ?_).trans hb
  rcases h.2 with ⟨h1, _⟩ | ⟨k, cap, cur, h1, _, hk, _⟩
  · rw [h1] at e; cases e
  · rw [h1] at e
    simp only [Value.ownBlock, Option.some.injEq] at e
    rw [e, hk] at hb
    simp only [Option.some.injEq, Obj.cells.injEq] at hb
    exact ht hb.2.1.symm
theorem row_grown {X x4 : World} {B B' e0 s0 n c e s m : Nat} {A : Option Addr} {xs ys : List Value} {v : Value} (o : X.ownsRow B' e s v m ys) (h : X.ownsRow B e0 s0 (.slice A n c) n xs) (hg : X.grownBy x4 (Value.slice A n c).ownBlock) (ht : e ≠ e0) : x4.ownsRow B' e s v m ys := by
  refine ⟨o.1, ?_⟩
  rcases o.2 with h0 | ⟨k, cap, cur, hv, hB, hk, r⟩
  · exact .inl h0
  · exact .inr ⟨k, cap, cur, hv, hB, bx_grown hk h hg ht, r⟩
end
section
variable {X x4 : World} {B : Nat} {L : List (Int × Sl)}
/-- One node more, behind the others. -/
theorem Own.app {A A3 A4 : Option Addr} {n c hh c3 c4 : Nat} {e : Sl} {x y x' y' z : Int} {N : List Nd} {E : List Ed} {l : List Pr} (o : Own X B ⟨⟨A, n, c⟩, e, x, y⟩ ⟨N, E, x', y'⟩ L)
    (O3 : X.ownsRow B 83 2 (.slice A3 hh c3) hh (ints (flat2 l))) (O4 : x4.ownsRow B 61 2 (.slice A4 (n + 1) c4) (n + 1) (cellsN L ++ [.int .i64 z, .slice A3 hh c3])) (G4 : X.grownBy x4 (Value.slice A n c).ownBlock) :
    Own x4 B ⟨⟨A4, n + 1, c4⟩, e, x, y⟩ ⟨N ++ [(z, l)], E, x', y'⟩ (L ++ [(z, ⟨A3, hh, c3⟩)]) := by
  obtain rfl : n = N.length := o.many
  have e1 : (N ++ [(z, l)]).getD N.length (0, []) = (z, l) := by simp [List.getD_eq_getElem?_getD]
  have h := Own.push (N := N ++ [(z, l)]) (k := N.length) (by simpa using o) (by simp) (by rw [e1]) (by rw [e1]; exact O3) O4 G4
  rwa [List.take_of_length_le (by simp)] at h
/-- One edge more. -/
theorem Own.appE {A A4 : Option Addr} {n c c4 : Nat} {s : Sl} {x y x' y' : Int} {N : List Nd} {E : List Ed} {d : Ed} (o : Own X B ⟨s, ⟨A, n, c⟩, x, y⟩ ⟨N, E, x', y'⟩ L)
    (O4 : x4.ownsRow B 79 3 (.slice A4 (n + 1) c4) (n + 1) (ints (flat3 E) ++ [.int .i64 d.1, .int .i64 d.2.1, .int .i64 d.2.2])) (G4 : X.grownBy x4 (Value.slice A n c).ownBlock) :
    Own x4 B ⟨s, ⟨A4, n + 1, c4⟩, x, y⟩ ⟨N, E ++ [d], x', y'⟩ L :=
  ⟨row_grown o.rows o.edg G4 (by decide), o.len, o.ids, fun i hi => row_grown (o.prs i hi) o.edg G4 (by decide), by rw [flat3_append]; simpa [flat3] using O4, o.x, o.y⟩
/-- The numbers that come next are others. -/
theorem Own.nums {v : Gv} {G : GL} (o : Own X B v G L) (x y : Int) : Own X B ⟨v.N, v.E, x, y⟩ ⟨G.N, G.E, x, y⟩ L := ⟨o.rows, o.len, o.ids, o.prs, o.edg, rfl, rfl⟩
/-- A node's properties are others. -/
theorem Own.setP {g nn cc n' c' : Nat} {A' : Option Addr} {e : Sl} {x y : Int} {G : GL} {l : List Pr} {i : Nat} (o : Own X B ⟨⟨some ⟨g, 0, none⟩, nn, cc⟩, e, x, y⟩ G L) (hi : i < G.N.length) (R : X.ownsRow B 83 2 (.slice A' n' c') n' (ints (flat2 l))) :
    Own (X.setCell ⟨g, i * 2 + 1, none⟩ (.slice A' n' c')) B ⟨⟨some ⟨g, 0, none⟩, nn, cc⟩, e, x, y⟩ (setN G i l) (L.set i ((L.getD i (0, noSl)).1, ⟨A', n', c'⟩)) := by
  have hl := o.len
  have hm := o.many
  dsimp only at hm
  obtain ⟨cur, hg⟩ : ∃ cur, X.heap[g]? = some (.cells cur 61 (0, 0)) := by
    rcases o.rows.2 with ⟨h1, _⟩ | ⟨k, cap, cur, hv, _, hk, _⟩
    · cases h1
    · injection hv with e1
      simp only [Option.some.injEq, Addr.mk.injEq, and_true] at e1
      subst e1
      exact ⟨cur, hk⟩
  have hlen : (setN G i l).N.length = G.N.length := by simp [setN]
  have h0 := (o.rows.stored (i * 2 + 1) (.slice A' n' c')).1
  have e1 : (cellsN L).set (i * 2 + 1) (.slice A' n' c') = cellsN (L.set i ((L.getD i (0, noSl)).1, ⟨A', n', c'⟩)) := by
    apply List.ext_getElem?
    intro k
    by_cases hk : k < L.length * 2
    · have a1 := cellsN_at L (k / 2) (by omega)
      have a2 := cellsN_at (L.set i ((L.getD i (0, noSl)).1, ⟨A', n', c'⟩)) (k / 2) (by simp; omega)
      have hj : k / 2 < L.length := by omega
      have hg2 : (L.set i ((L.getD i (0, noSl)).1, (⟨A', n', c'⟩ : Sl))).getD (k / 2) (0, noSl) = if k / 2 = i then ((L.getD i (0, noSl)).1, ⟨A', n', c'⟩) else L.getD (k / 2) (0, noSl) := by
        by_cases e : k / 2 = i
        · rw [if_pos e, e]; simp [List.getD_eq_getElem?_getD, hl, hi]
        · rw [if_neg e]; simp [List.getD_eq_getElem?_getD, Ne.symm e]
      rw [hg2] at a2
      rw [List.getElem?_set]
      by_cases e : i * 2 + 1 = k
      · have e2 : k / 2 = i := by omega
        have e3 : k = k / 2 * 2 + 1 := by omega
        rw [if_pos e, if_pos (by rw [cellsN_len]; omega), e3, a2.2, if_pos e2]
      · rw [if_neg e]
        by_cases e2 : k / 2 = i
        · have e3 : k = k / 2 * 2 := by omega
          rw [e3, a1.1, a2.1, if_pos e2, e2]
        · rw [if_neg e2] at a2
          rcases Nat.mod_two_eq_zero_or_one k with hm2 | hm2
          · have e3 : k = k / 2 * 2 := by omega
            rw [e3, a1.1, a2.1]
          · have e3 : k = k / 2 * 2 + 1 := by omega
            rw [e3, a1.2, a2.2]
    · rw [List.getElem?_eq_none (by simp [cellsN_len]; omega), List.getElem?_eq_none (by rw [cellsN_len]; simp; omega)]
  refine ⟨?_, by simp [hlen, hl], fun j hj => ?_, fun j hj => ?_, own_cell o.edg hg (by decide) _ _, o.x, o.y⟩
  · rw [← e1]
    exact h0
  · rw [hlen] at hj
    have := o.ids j hj
    by_cases e : j = i
    · subst e
      simp [setN, List.getD_eq_getElem?_getD, hl, hj] at this ⊢
      exact this
    · simp [setN, List.getD_eq_getElem?_getD, Ne.symm e] at this ⊢
      exact this
  · rw [hlen] at hj
    by_cases e : j = i
    · subst e
      have a : (L.set j ((L.getD j (0, noSl)).1, (⟨A', n', c'⟩ : Sl))).getD j (0, noSl) = ((L.getD j (0, noSl)).1, ⟨A', n', c'⟩) := by simp [List.getD_eq_getElem?_getD, hl, hj]
      have b : ((setN G j l).N.getD j (0, [])).2 = l := by simp [setN, List.getD_eq_getElem?_getD, hj]
      rw [a, b]
      exact own_cell R hg (by decide) _ _
    · have a : (L.set i ((L.getD i (0, noSl)).1, (⟨A', n', c'⟩ : Sl))).getD j (0, noSl) = L.getD j (0, noSl) := by simp [List.getD_eq_getElem?_getD, Ne.symm e]
      have b : ((setN G i l).N.getD j (0, [])).2 = (G.N.getD j (0, [])).2 := by simp [setN, List.getD_eq_getElem?_getD, Ne.symm e]
      rw [a, b]
      exact own_cell (o.prs j hj) hg (by decide) _ _
end
end Go.Proofs.YtiiadkjiofkonaaGreat
