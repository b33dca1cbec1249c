/- Plain mathematics for layer 10: graphs as lists. No program, no conditions. -/

namespace Go.Proofs.Ytiiadkjiofkonaa

abbrev Pr := Int × Int
abbrev Nd := Int × List Pr
abbrev Ed := Int × Int × Int
/-- A graph: its nodes (number, properties), its edges (number, from, to), the numbers that come next. -/
structure GL where
  N : List Nd
  E : List Ed
  x : Int
  y : Int

def flat2 (l : List Pr) : List Int := l.flatMap fun p => [p.1, p.2]
def flat3 (l : List Ed) : List Int := l.flatMap fun p => [p.1, p.2.1, p.2.2]

theorem flat2_len (l : List Pr) : (flat2 l).length = l.length * 2 := by
  induction l with
  | nil => rfl
  | cons p l ih => simp [flat2] at ih ⊢; omega
theorem flat3_len (l : List Ed) : (flat3 l).length = l.length * 3 := by
  induction l with
  | nil => rfl
  | cons p l ih => simp [flat3] at ih ⊢; omega
theorem flat2_append (a b : List Pr) : flat2 (a ++ b) = flat2 a ++ flat2 b := by simp [flat2]
theorem flat3_append (a b : List Ed) : flat3 (a ++ b) = flat3 a ++ flat3 b := by simp [flat3]
theorem flat2_at : ∀ (l : List Pr) (k : Nat), k < l.length → (flat2 l).getD (k * 2) 0 = (l.getD k (0, 0)).1 ∧ (flat2 l).getD (k * 2 + 1) 0 = (l.getD k (0, 0)).2
  | [], k, h => by simp at h
  | p :: l, 0, _ => by simp [flat2]
  | p :: l, k + 1, h => by
    have := flat2_at l k (by simpa using h)
    have e : (k + 1) * 2 = k * 2 + 2 := by omega
    have e2 : k * 2 + 2 + 1 = (k * 2 + 1) + 2 := by omega
    rw [e, e2]
    simpa [flat2] using this
theorem flat3_at : ∀ (l : List Ed) (k : Nat), k < l.length → (flat3 l).getD (k * 3) 0 = (l.getD k (0, 0, 0)).1 ∧ (flat3 l).getD (k * 3 + 1) 0 = (l.getD k (0, 0, 0)).2.1 ∧ (flat3 l).getD (k * 3 + 2) 0 = (l.getD k (0, 0, 0)).2.2
  | [], k, h => by simp at h
  | p :: l, 0, _ => by simp [flat3]
  | p :: l, k + 1, h => by
    have := flat3_at l k (by simpa using h)
    have e : (k + 1) * 3 = k * 3 + 3 := by omega
    have e2 : k * 3 + 3 + 1 = (k * 3 + 1) + 3 := by omega
    have e3 : k * 3 + 3 + 2 = (k * 3 + 2) + 3 := by omega
    rw [e, e2, e3]
    simpa [flat3] using this

/-- Where a node stands; the length if nowhere. -/
def pos (l : List Nd) (n : Int) : Nat := l.findIdx fun d => d.1 == n
/-- .. as it is told. -/
def atI (l : List Nd) (n : Int) : Int := if pos l n < l.length then (pos l n : Int) else -1
theorem pos_not {l : List Nd} {n : Int} {k : Nat} (h : k < pos l n) (hk : k < l.length) : (l.getD k (0, [])).1 ≠ n := by
  have h1 := List.not_of_lt_findIdx h
  intro e
  simp [hk] at e
  simp [e] at h1
theorem pos_here {l : List Nd} {n : Int} {k : Nat} (hk : k < l.length) (hall : ∀ j, j < k → (l.getD j (0, [])).1 ≠ n) (h : (l.getD k (0, [])).1 = n) : pos l n = k := by
  have h1 : pos l n ≤ k := by
    rcases Nat.lt_or_ge k (pos l n) with x | x
    · exact absurd h (pos_not x hk)
    · exact x
  rcases Nat.lt_or_eq_of_le h1 with x | x
  · have h2 := hall _ x
    have h3 : pos l n < l.length := by omega
    have h4 := List.findIdx_getElem (xs := l) (p := fun d : Nd => d.1 == n) (w := h3)
    have h5 : (l.getD (pos l n) (0, [])).1 = n := by
      have e : l.getD (pos l n) (0, []) = l[pos l n]'h3 := by simp [h3]
      rw [e]
      exact eq_of_beq h4
    exact absurd h5 h2
  · exact x
theorem pos_none {l : List Nd} {n : Int} (hall : ∀ j, j < l.length → (l.getD j (0, [])).1 ≠ n) : ¬ pos l n < l.length := fun h3 => by
  have h4 := List.findIdx_getElem (xs := l) (p := fun d : Nd => d.1 == n) (w := h3)
  have e : l.getD (pos l n) (0, []) = l[pos l n]'h3 := by simp [h3]
  refine hall _ h3 ?_
  rw [e]
  exact eq_of_beq h4
end Go.Proofs.Ytiiadkjiofkonaa
