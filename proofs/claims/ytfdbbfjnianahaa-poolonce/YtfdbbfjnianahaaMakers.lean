/- Several rows and a box made in one statement, in whatever order: what stands behind them does not hang on the order. No conditions. -/
import Derived.Test.YtfdbbfjnianahaaOwned
import Derived.RegionTactic
namespace Go.Proofs.Ytfdbbfjnianahaa
open Go.RowKit

/-- b, but v at k. -/
def upd {α : Type} (b : Nat → α) (k : Nat) (v : α) : Nat → α := fun j => if j = k then v else b j
theorem upd_same {α : Type} (b : Nat → α) (k : Nat) (v : α) : upd b k v k = v := by simp [upd]
theorem upd_other {α : Type} (b : Nat → α) {k j : Nat} (v : α) (h : j ≠ k) : upd b k v j = b j := by simp [upd, h]

/-- How many of the first m are not yet done. -/
def pend (b : Nat → Bool) : Nat → Nat
  | 0 => 0
  | m + 1 => pend b m + (if b m then 0 else 1)

theorem pend_far (b : Nat → Bool) (k : Nat) : ∀ m, m ≤ k → pend (upd b k true) m = pend b m
  | 0, _ => rfl
  | m + 1, h => by rw [pend, pend, pend_far b k m (by omega), upd_other b true (by omega)]

theorem pend_upd (b : Nat → Bool) (k : Nat) (hb : b k = false) : ∀ m, k < m → pend (upd b k true) m + 1 = pend b m
  | 0, h => by omega
  | m + 1, h => by
    rw [pend, pend]
    by_cases hk : k = m
    · subst hk
      rw [pend_far b k k (Nat.le_refl _), upd_same, hb]
      simp
    · rw [upd_other b true (by omega)]
      have := pend_upd b k hb m (by omega)
      omega

/-- What is known when those of b are done: each has a block of its own. -/
def Done (w : World) (m : Nat) (mk : Nat → Nat → Value) (ob : Nat → Obj) (b : Nat → Bool) (x : Nat → Value) (u : World) : Prop :=
  Below w.heap.size w u ∧ PBox u w.heap.size zeros4 ∧
  ∃ γ : Nat → Nat, (∀ k, k < m → b k = true → x k = mk k (γ k) ∧ u.heap[γ k]? = some (ob k) ∧ w.heap.size < γ k) ∧ ∀ i j, i < m → j < m → i ≠ j → b i = true → b j = true → γ i ≠ γ j

theorem Done.step {w : World} {m : Nat} {mk : Nat → Nat → Value} {ob : Nat → Obj} {b : Nat → Bool} {x : Nat → Value} {u : World} (h : Done w m mk ob b x u) (k : Nat) :
    Done w m mk ob (upd b k true) (upd x k (mk k u.heap.size)) (u.alloc (ob k)) := by
  obtain ⟨h1, h2, γ, h3, h4⟩ := h
  refine ⟨h1.alloc h1.size _, h2.alloc _, upd γ k u.heap.size, fun i hi hb => ?_, fun i j hi hj hij hbi hbj => ?_⟩
  · by_cases hik : i = k
    · subst hik
      rw [upd_same, upd_same]
      exact ⟨rfl, heap_alloc_new u _, h2.lt⟩
    · rw [upd_other _ _ hik] at hb ⊢
      rw [upd_other _ _ hik]
      obtain ⟨e1, e2, e3⟩ := h3 i hi hb
      exact ⟨e1, (Below.heap_alloc u _ _ (Array.getElem?_eq_some_iff.1 e2).1).trans e2, e3⟩
  · by_cases hik : i = k
    · subst hik
      rw [upd_other _ _ (Ne.symm hij)] at hbj
      rw [upd_same, upd_other _ _ (Ne.symm hij)]
      have := (Array.getElem?_eq_some_iff.1 (h3 j hj hbj).2.1).1
      omega
    · rw [upd_other _ _ hik] at hbi
      by_cases hjk : j = k
      · subst hjk
        rw [upd_same, upd_other _ _ hik]
        have := (Array.getElem?_eq_some_iff.1 (h3 i hi hbi).2.1).1
        omega
      · rw [upd_other _ _ hjk] at hbj
        rw [upd_other _ _ hik, upd_other _ _ hjk]
        exact h4 i j hi hj hij hbi hbj

theorem makers {P : Program} {md : Region.Mode} {ops : Array Oper} {Q : Exit → Act → World → Prop} (w : World) (m : Nat) (A : (Nat → Value) → Act) (op : Nat → Nat) (mk : Nat → Nat → Value) (ob : Nat → Obj) (Lst : (Nat → Bool) → Array Bool) (full : (Nat → Bool) → Bool)
    (hL : ∀ b k, k < m → (Lst b).setIfInBounds (op k) true = Lst (upd b k true))
    (hR : ∀ b, full b = false → Region.ready md ops (Lst b) ≠ [] ∧ ∀ i ∈ Region.ready md ops (Lst b), ∃ k, k < m ∧ b k = false ∧ i = op k)
    (hS : ∀ k, k < m → ∀ x u (K : Act → World → Prop), K (A (upd x k (mk k u.heap.size))) (u.alloc (ob k)) → wpOp P ops Q (op k) K (A x) u)
    (hF : ∀ b x u, full b = true → Done w m mk ob b x u → wpAny P md ops Q (2 + pend b m) (Lst b) (A x) u) :
    ∀ f b x u, pend b m = f → Done w m mk ob b x u → wpAny P md ops Q (2 + f) (Lst b) (A x) u := by
  intro f
  induction f with
  | zero =>
    intro b x u hp hd
    cases hfb : full b with
    | true => have := hF b x u hfb hd; rwa [hp] at this
    | false =>
      obtain ⟨hne, hall⟩ := hR b hfb
      obtain ⟨i, hi⟩ := List.exists_mem_of_ne_nil _ hne
      obtain ⟨k, hk, hb, _⟩ := hall i hi
      have := pend_upd b k hb m hk
      omega
  | succ f ih =>
    intro b x u hp hd
    cases hfb : full b with
    | true => have := hF b x u hfb hd; rwa [hp] at this
    | false =>
      obtain ⟨hne, hall⟩ := hR b hfb
      show wpAny P md ops Q (2 + f + 1) (Lst b) (A x) u
      refine ⟨fun h => absurd h hne, fun i hi => ?_⟩
      obtain ⟨k, hk, hb, rfl⟩ := hall i hi
      refine hS k hk x u _ ?_
      rw [hL b k hk]
      exact ih _ _ _ (by have := pend_upd b k hb m hk; omega) (hd.step k)

end Go.Proofs.Ytfdbbfjnianahaa
