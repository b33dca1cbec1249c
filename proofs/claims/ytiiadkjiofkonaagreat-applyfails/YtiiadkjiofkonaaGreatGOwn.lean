/- Words for layer 10: a graph that the call itself has made: its nodes and its edges in rows of its own. -/
import Derived.Test.YtiiadkjiofkonaaGreatGStep
namespace Go.Proofs.YtiiadkjiofkonaaGreat
open Go.RowKit
set_option linter.unusedVariables false

/-- The cells of nodes: number and header. -/
def cellsN (L : List (Int × Sl)) : List Value := L.flatMap fun p => [.int .i64 p.1, .slice p.2.A p.2.n p.2.c]
theorem cellsN_len (L : List (Int × Sl)) : (cellsN L).length = L.length * 2 := by
  induction L with
  | nil => rfl
  | cons p L ih => simp [cellsN] at ih ⊢; omega
theorem cellsN_append (L M : List (Int × Sl)) : cellsN (L ++ M) = cellsN L ++ cellsN M := by simp [cellsN]
theorem cellsN_at : ∀ (L : List (Int × Sl)) (k : Nat), k < L.length → (cellsN L)[k * 2]? = some (.int .i64 (L.getD k (0, noSl)).1) ∧ (cellsN L)[k * 2 + 1]? = some (.slice (L.getD k (0, noSl)).2.A (L.getD k (0, noSl)).2.n (L.getD k (0, noSl)).2.c)
  | [], k, h => by simp at h
  | p :: L, 0, _ => by simp [cellsN]
  | p :: L, k + 1, h => by
    have := cellsN_at L k (by simpa using h)
    have e : (k + 1) * 2 = k * 2 + 2 := by omega
    have e2 : k * 2 + 2 + 1 = (k * 2 + 1) + 2 := by omega
    rw [e, e2]
    simpa [cellsN] using this

/-- The rows of a graph that is the call's own, from block B on. -/
structure Own (u : World) (B : Nat) (v : Gv) (G : GL) (L : List (Int × Sl)) : Prop where
  rows : u.ownsRow B 61 2 (.slice v.N.A v.N.n v.N.c) v.N.n (cellsN L)
  len : L.length = G.N.length
  ids : ∀ i, i < G.N.length → (L.getD i (0, noSl)).1 = (G.N.getD i (0, [])).1
  prs : ∀ i, i < G.N.length → u.ownsRow B 83 2 (.slice (L.getD i (0, noSl)).2.A (L.getD i (0, noSl)).2.n (L.getD i (0, noSl)).2.c) (L.getD i (0, noSl)).2.n (ints (flat2 (G.N.getD i (0, [])).2))
  edg : u.ownsRow B 79 3 (.slice v.E.A v.E.n v.E.c) v.E.n (ints (flat3 G.E))
  x : v.x = G.x
  y : v.y = G.y

section
variable {u u' : World} {B B' : Nat} {v : Gv} {G : GL} {L : List (Int × Sl)}
theorem own_nil_cap {e s n c : Nat} {A : Option Addr} {xs : List Value} (h : u.ownsRow B e s (.slice A n c) n xs) : A = none → c = 0 := by
  rcases h.2 with ⟨h1, h2⟩ | ⟨g, cap, cur, h1, _⟩
  · injection h1 with _ _ e
    intro _
    exact e
  · intro h0
    rw [h0] at h1
    cases h1
theorem Own.many (o : Own u B v G L) : v.N.n = G.N.length := by
  have := o.rows.1
  rw [cellsN_len, o.len] at this
  omega
theorem Own.nodes (o : Own u B v G L) : Nodes u u.heap.size v.N G.N := by
  have hm := o.many
  refine ⟨hm.symm, own_nil_cap o.rows, fun hn => ?_⟩
  rcases o.rows.2 with ⟨_, h0⟩ | ⟨g, cap, cur, hv, hB, hg, _, _, _, ht⟩
  · omega
  · have hA : v.N.A = some ⟨g, 0, none⟩ := by injection hv
    refine ⟨g, 0, hA, (Array.getElem?_eq_some_iff.1 hg).1, fun i hi => ?_⟩
    have hL : i < L.length := by rw [o.len]; omega
    obtain ⟨e1, e2⟩ := cellsN_at L i hL
    have hat : ∀ (k : Nat) (x : Value), k < v.N.n * 2 → (cellsN L)[k]? = some x → u.cell? ⟨g, 0 + k, none⟩ = some x := fun k x hk hx => by
      rw [Nat.zero_add, cell_of_row u g k cur 61 (0, 0) hg]
      have h := congrArg (fun l : List Value => l[k]?) ht
      simp only [List.getElem?_take, hk, if_true, Array.getElem?_toList] at h
      rw [h, hx]
    refine ⟨?_, (L.getD i (0, noSl)).2, ?_, own_nums (o.prs i (by omega)), own_nil_cap (o.prs i (by omega))⟩
    · rw [hat _ _ (by omega) e1, o.ids i (by omega)]
    · rw [Nat.add_assoc, hat _ _ (by omega) e2]
theorem own_edges {e n c : Nat} {A : Option Addr} {E : List Ed} (h : u.ownsRow B e 3 (.slice A n c) n (ints (flat3 E))) : Nums u u.heap.size 3 A n (flat3 E) := own_nums h
theorem Own.sees (o : Own u B v G L) : Sees u u.heap.size v G := ⟨o.nodes, own_edges o.edg, own_nil_cap o.edg, o.x, o.y⟩
theorem Own.less (o : Own u B v G L) (h : B' ≤ B) : Own u B' v G L := ⟨own_less o.rows h, o.len, o.ids, fun i hi => own_less (o.prs i hi) h, own_less o.edg h, o.x, o.y⟩
theorem Own.step (o : Own u B v G L) (b : Below u.heap.size u u') : Own u' B v G L :=
  ⟨own_below o.rows b, o.len, o.ids, fun i hi => own_below (o.prs i hi) b, own_below o.edg b, o.x, o.y⟩
/-- Another block is written: one that is of another type than the rows, and from B on. -/
theorem own_cell {e s n : Nat} {w : Value} {xs : List Value} (h : u.ownsRow B e s w n xs) {g t : Nat} {cs : Array Value} (hg : u.heap[g]? = some (.cells cs t (0, 0))) (ht : t ≠ e) (i : Nat) (x : Value) : (u.setCell ⟨g, i, none⟩ x).ownsRow B e s w n xs := by
  refine ⟨h.1, ?_⟩
  rcases h.2 with h0 | ⟨k, cap, cur, hv, hB, hk, r⟩
  · exact .inl h0
  · refine .inr ⟨k, cap, cur, hv, hB, (heap_setCell_other u ⟨g, i, none⟩ k x fun e => ?_).trans hk, r⟩
    have e' : k = g := e
    rw [e', hg] at hk
    simp only [Option.some.injEq, Obj.cells.injEq] at hk
    exact ht hk.2.1
theorem type_ne {a b : Nat} {x y : Array Value} {t t' : TypeId} (ha : u.heap[a]? = some (Obj.cells x t (0, 0))) (hb : u.heap[b]? = some (Obj.cells y t' (0, 0))) (ht : t ≠ t') : a ≠ b := fun e => by
  rw [e, hb] at ha
  simp only [Option.some.injEq, Obj.cells.injEq] at ha
  exact ht ha.2.1.symm
end
end Go.Proofs.YtiiadkjiofkonaaGreat
