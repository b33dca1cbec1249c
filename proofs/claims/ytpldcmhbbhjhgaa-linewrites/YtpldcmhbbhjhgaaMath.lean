/- Plain mathematics for layer 4: five numbers made plain, and a flat list of numbers cut into fives, each made plain. No conditions. -/
import Derived.Test.YtpldcmhbbhjhgaaWords
namespace Go.Proofs.Ytpldcmhbbhjhgaa

/-- Five numbers, plain; none, if they are no operation's. -/
def pl5 (k a b c v : Int) : List Int :=
  if k = 1 then [1, 0, 0, 0, 0] else if k = 2 then [2, a, b, 0, 0] else if k = 3 then [3, a, 0, 0, 0] else if k = 4 then [4, a, 0, c, v] else if k = 5 then [5, a, 0, c, 0]
  else if k = 6 then [6, a, 0, 0, 0] else if k = 7 then [7, a, 0, 0, 0] else if k = 8 then [8, a, 0, 0, 0] else if k = 9 then [9, a, b, 0, 0] else []

/-- What Plain tells: plain numbers and true, or zeros and false. -/
def Pl (k a b c v p q r s t : Int) (ok : Bool) : Prop :=
  (ok = true ∧ pl5 k a b c v = [p, q, r, s, t]) ∨ (ok = false ∧ pl5 k a b c v = [] ∧ p = 0 ∧ q = 0 ∧ r = 0 ∧ s = 0 ∧ t = 0)

/-- All numbers, cut into fives, each made plain; what is left over says nothing. -/
def flat : List Int → List Int
  | k :: a :: b :: c :: v :: rest => pl5 k a b c v ++ flat rest
  | _ => []

theorem pl5_len (k a b c v : Int) : (pl5 k a b c v).length = 0 ∨ (pl5 k a b c v).length = 5 := by
  unfold pl5
  repeat' split
  all_goals simp

theorem Pl.some_ (k a b c v : Int) : ∃ p q r s t ok, Pl k a b c v p q r s t ok := by
  rcases pl5_len k a b c v with h | h
  · exact ⟨0, 0, 0, 0, 0, false, .inr ⟨rfl, List.eq_nil_of_length_eq_zero h, rfl, rfl, rfl, rfl, rfl⟩⟩
  · match e : pl5 k a b c v, h with
    | [p, q, r, s, t], _ => exact ⟨p, q, r, s, t, true, .inl ⟨rfl, e⟩⟩

/-- What is plain is plain already. -/
theorem pl5_again (k a b c v p q r s t : Int) (h : pl5 k a b c v = [p, q, r, s, t]) : pl5 p q r s t = [p, q, r, s, t] := by
  unfold pl5 at h
  repeat' split at h
  all_goals (simp at h; try (obtain ⟨rfl, rfl, rfl, rfl, rfl⟩ := h; simp [pl5]))

theorem flat_five (k a b c v : Int) (r : List Int) : flat (k :: a :: b :: c :: v :: r) = pl5 k a b c v ++ flat r := by rw [flat]
theorem flat_short (l : List Int) (h : l.length < 5) : flat l = [] := by
  match l, h with
  | [], _ => rfl
  | [_], _ => rfl
  | [_, _], _ => rfl
  | [_, _, _], _ => rfl
  | [_, _, _, _], _ => rfl

theorem flat_append : ∀ (n : Nat) (x y : List Int), x.length = n * 5 → flat (x ++ y) = flat x ++ flat y
  | 0, x, y, h => by
    obtain rfl : x = [] := List.eq_nil_of_length_eq_zero (by omega)
    rfl
  | n + 1, x, y, h => by
    match x, h with
    | k :: a :: b :: c :: v :: r, h =>
      simp only [List.cons_append, flat_five, List.append_assoc]
      rw [flat_append n r y (by simp at h; omega)]
    | [], h => simp at h
    | [_], h => simp at h; omega
    | [_, _], h => simp at h; omega
    | [_, _, _], h => simp at h; omega
    | [_, _, _, _], h => simp at h; omega

/-- How many operations there are. -/
theorem flat_len : ∀ (n : Nat) (x : List Int), x.length ≤ n → ∃ m, (flat x).length = m * 5 ∧ m * 5 ≤ x.length
  | n, [], _ => ⟨0, rfl, by simp⟩
  | n, [_], _ => ⟨0, rfl, by simp⟩
  | n, [_, _], _ => ⟨0, rfl, by simp⟩
  | n, [_, _, _], _ => ⟨0, rfl, by simp⟩
  | n, [_, _, _, _], _ => ⟨0, rfl, by simp⟩
  | 0, k :: a :: b :: c :: v :: r, h => by simp at h
  | n + 1, k :: a :: b :: c :: v :: r, h => by
    obtain ⟨m, hm, hle⟩ := flat_len n r (by simp at h; omega)
    rw [flat_five]
    simp only [List.length_append, List.length_cons]
    rcases pl5_len k a b c v with e | e
    · exact ⟨m, by omega, by omega⟩
    · exact ⟨m + 1, by omega, by omega⟩

theorem flat_again : ∀ (n : Nat) (x : List Int), x.length ≤ n → flat (flat x) = flat x
  | n, [], _ => rfl
  | n, [_], _ => rfl
  | n, [_, _], _ => rfl
  | n, [_, _, _], _ => rfl
  | n, [_, _, _, _], _ => rfl
  | 0, k :: a :: b :: c :: v :: r, h => by simp at h
  | n + 1, k :: a :: b :: c :: v :: r, h => by
    have ih := flat_again n r (by simp at h; omega)
    rw [flat_five]
    rcases pl5_len k a b c v with e | e
    · rw [List.eq_nil_of_length_eq_zero e, List.nil_append, ih]
    · match hp : pl5 k a b c v, e with
      | [p, q, r', s, t], _ =>
        rw [List.cons_append, List.cons_append, List.cons_append, List.cons_append, List.cons_append, List.nil_append, flat_five, pl5_again _ _ _ _ _ _ _ _ _ _ hp, ih]
        rfl

/-- The first k fives. -/
theorem take_succ5 (zs : List Int) (k : Nat) (h : k * 5 + 5 ≤ zs.length) :
    zs.take ((k + 1) * 5) = zs.take (k * 5) ++ [zs.getD (k * 5) 0, zs.getD (k * 5 + 1) 0, zs.getD (k * 5 + 2) 0, zs.getD (k * 5 + 3) 0, zs.getD (k * 5 + 4) 0] := by
  have e : (k + 1) * 5 = k * 5 + 1 + 1 + 1 + 1 + 1 := by omega
  have g : ∀ i, i < zs.length → zs[i]? = some (zs.getD i 0) := fun i hi => by simp [List.getD_eq_getElem?_getD, hi]
  rw [e, List.take_add_one, List.take_add_one, List.take_add_one, List.take_add_one, List.take_add_one, g _ (by omega), g _ (by omega), g _ (by omega), g _ (by omega), g _ (by omega)]
  simp

theorem flat_succ (zs : List Int) (k : Nat) (h : k * 5 + 5 ≤ zs.length) :
    flat (zs.take ((k + 1) * 5)) = flat (zs.take (k * 5)) ++ pl5 (zs.getD (k * 5) 0) (zs.getD (k * 5 + 1) 0) (zs.getD (k * 5 + 2) 0) (zs.getD (k * 5 + 3) 0) (zs.getD (k * 5 + 4) 0) := by
  rw [take_succ5 zs k h, flat_append k _ _ (by rw [List.length_take]; omega), flat_five, flat_short [] (by simp), List.append_nil]

theorem flat_end (zs : List Int) (k : Nat) (h1 : k * 5 ≤ zs.length) (h2 : zs.length < k * 5 + 5) : flat (zs.take (k * 5)) = flat zs := by
  conv => rhs; rw [← List.take_append_drop (k * 5) zs]
  rw [flat_append k _ _ (by rw [List.length_take]; omega), flat_short (zs.drop (k * 5)) (by rw [List.length_drop]; omega), List.append_nil]

/-- The next five: plain ones are put behind, or nothing is. -/
theorem flat_yes {zs : List Int} {k : Nat} {p q r s t : Int} (h : k * 5 + 5 ≤ zs.length) (hp : Pl (zs.getD (k * 5) 0) (zs.getD (k * 5 + 1) 0) (zs.getD (k * 5 + 2) 0) (zs.getD (k * 5 + 3) 0) (zs.getD (k * 5 + 4) 0) p q r s t true) :
    flat (zs.take ((k + 1) * 5)) = flat (zs.take (k * 5)) ++ [p, q, r, s, t] := by
  rw [flat_succ zs k h]
  rcases hp with ⟨_, e⟩ | ⟨e, _⟩
  · rw [e]
  · cases e
theorem flat_no {zs : List Int} {k : Nat} {p q r s t : Int} (h : k * 5 + 5 ≤ zs.length) (hp : Pl (zs.getD (k * 5) 0) (zs.getD (k * 5 + 1) 0) (zs.getD (k * 5 + 2) 0) (zs.getD (k * 5 + 3) 0) (zs.getD (k * 5 + 4) 0) p q r s t false) :
    flat (zs.take ((k + 1) * 5)) = flat (zs.take (k * 5)) := by
  rw [flat_succ zs k h]
  rcases hp with ⟨e, _⟩ | ⟨_, e, _⟩
  · cases e
  · rw [e, List.append_nil]

end Go.Proofs.Ytpldcmhbbhjhgaa
