/- Plain mathematics of pools: what Take, Retire and Reclaim tell may be; how many slots are in each state. -/
import Derived.Test.YtfdbbfjnianahaaTold
namespace Go.Proofs.Ytfdbbfjnianahaa

theorem get_set (zs : List Int) (k i : Nat) (x : Int) (hk : k < zs.length) : (zs.set k x).getD i 0 = if i = k then x else zs.getD i 0 := by
  rw [getD_set zs k i x hk]
  by_cases h : k = i
  · rw [if_pos h, if_pos h.symm]
  · rw [if_neg h, if_neg (Ne.symm h)]

theorem may_take {P : PL} {x : Int} {xs : List Int} (h : MayBe P) (hF : P.F = x :: xs) : MayBe ⟨P.G, P.S.set x.toNat 1, P.W, xs⟩ := by
  obtain ⟨k1, k2, k3, k4, k5, k6, k7, k8⟩ := h
  rw [hF] at k6 k7 k8
  obtain ⟨x1, x2, x3⟩ := k6 x (by simp)
  have hx : x.toNat < P.S.length := by omega
  have hn := List.nodup_cons.1 k7
  refine ⟨k1, k2, by simpa using k3, k4, fun j hj => ?_, fun y hy => ?_, hn.2, fun j hj hz => ?_⟩
  · dsimp only at hj ⊢
    obtain ⟨g1, g2, g3⟩ := k5 j hj
    rw [get_set _ _ _ _ hx]
    refine ⟨g1, g2, ?_⟩
    by_cases hjx : j = x.toNat
    · subst hjx
      rw [if_pos rfl]
      rw [x3] at g3
      omega
    · rw [if_neg hjx]; exact g3
  · obtain ⟨a, b, c⟩ := k6 y (by simp [hy])
    refine ⟨a, by simpa using b, ?_⟩
    rw [get_set _ _ _ _ hx, if_neg]
    · exact c
    · intro e
      exact hn.1 ((show y = x by omega) ▸ hy)
  · rw [get_set _ _ _ _ hx] at hz
    by_cases hjx : j = x.toNat
    · rw [if_pos hjx] at hz; omega
    · rw [if_neg hjx] at hz
      rcases List.mem_cons.1 (k8 j (by simpa using hj) hz) with e | e
      · omega
      · exact e

theorem may_retire {P : PL} {X : Nat} {z : Int} (h : MayBe P) (hX : X < P.G.length) (h1 : P.S.getD X 0 = 1) : MayBe ⟨P.G, P.S.set X 2, P.W.set X z, P.F⟩ := by
  obtain ⟨k1, k2, k3, k4, k5, k6, k7, k8⟩ := h
  have hx : X < P.S.length := by omega
  have hw : X < P.W.length := by omega
  refine ⟨k1, k2, by simpa using k3, by simpa using k4, fun j hj => ?_, fun y hy => ?_, k7, fun j hj hz => ?_⟩
  · dsimp only at hj ⊢
    obtain ⟨g1, g2, g3⟩ := k5 j hj
    rw [get_set _ _ _ _ hx, get_set _ _ _ _ hw]
    refine ⟨g1, g2, ?_⟩
    by_cases hjx : j = X
    · rw [if_pos hjx]; exact .inr rfl
    · rw [if_neg hjx, if_neg hjx]; exact g3
  · obtain ⟨a, b, c⟩ := k6 y hy
    refine ⟨a, by simpa using b, ?_⟩
    rw [get_set _ _ _ _ hx, if_neg]
    · exact c
    · intro e
      rw [e] at c
      omega
  · rw [get_set _ _ _ _ hx] at hz
    by_cases hjx : j = X
    · rw [if_pos hjx] at hz; omega
    · rw [if_neg hjx] at hz
      exact k8 j (by simpa using hj) hz

theorem rec_len (P : PL) (upto : Int) (k : Nat) : (recP P upto k).G.length = P.G.length ∧ (recP P upto k).S.length = P.S.length ∧ (recP P upto k).W.length = P.W.length := by
  induction k with
  | zero => exact ⟨rfl, rfl, rfl⟩
  | succ k ih =>
    rw [recP]
    split
    · simpa [recOne] using ih
    · exact ih

theorem rec_at (P : PL) (upto : Int) (hs : P.S.length = P.G.length) (hw : P.W.length = P.G.length) (k : Nat) (hk : k ≤ P.G.length) : ∀ j,
    (recP P upto k).G.getD j 0 = (if j < k ∧ Due P upto j then P.G.getD j 0 + 1 else P.G.getD j 0) ∧
    (recP P upto k).S.getD j 0 = (if j < k ∧ Due P upto j then 0 else P.S.getD j 0) ∧
    (recP P upto k).W.getD j 0 = (if j < k ∧ Due P upto j then 0 else P.W.getD j 0) := by
  induction k with
  | zero => exact fun j => ⟨by simp [recP], by simp [recP], by simp [recP]⟩
  | succ k ih =>
    intro j
    have ih := ih (by omega)
    obtain ⟨l1, l2, l3⟩ := rec_len P upto k
    obtain ⟨a, b, c⟩ := ih j
    obtain ⟨a', b', c'⟩ := ih k
    rw [if_neg (by omega)] at a' b' c'
    rw [recP]
    by_cases hd : Due P upto k
    · rw [if_pos hd]
      simp only [recOne]
      rw [get_set _ _ _ _ (by omega), get_set _ _ _ _ (by omega), get_set _ _ _ _ (by omega), a']
      by_cases hj : j = k
      · subst hj
        rw [if_pos rfl, if_pos rfl, if_pos rfl, if_pos ⟨by omega, hd⟩, if_pos ⟨by omega, hd⟩, if_pos ⟨by omega, hd⟩]
        exact ⟨rfl, rfl, rfl⟩
      · rw [if_neg hj, if_neg hj, if_neg hj, a, b, c]
        have e : (j < k + 1 ∧ Due P upto j) ↔ (j < k ∧ Due P upto j) := by constructor <;> rintro ⟨h, h'⟩ <;> exact ⟨by omega, h'⟩
        simp only [e]
        exact ⟨trivial, trivial, trivial⟩
    · rw [if_neg hd, a, b, c]
      have e : (j < k + 1 ∧ Due P upto j) ↔ (j < k ∧ Due P upto j) := by
        constructor
        · rintro ⟨h, h'⟩
          refine ⟨?_, h'⟩
          rcases Nat.lt_or_ge j k with h1 | h1
          · exact h1
          · obtain rfl : j = k := by omega
            exact absurd h' hd
        · rintro ⟨h, h'⟩
          exact ⟨by omega, h'⟩
      simp only [e]
      exact ⟨trivial, trivial, trivial⟩

theorem rec_mem (P : PL) (upto : Int) (k : Nat) (x : Int) : x ∈ (recP P upto k).F ↔ x ∈ P.F ∨ ∃ j : Nat, j < k ∧ Due P upto j ∧ x = (j : Int) := by
  induction k with
  | zero => simp [recP]
  | succ k ih =>
    rw [recP]
    by_cases hd : Due P upto k
    · rw [if_pos hd]
      simp only [recOne, List.mem_append, List.mem_singleton, ih]
      constructor
      · rintro ((h | ⟨j, h1, h2, h3⟩) | h)
        · exact .inl h
        · exact .inr ⟨j, by omega, h2, h3⟩
        · exact .inr ⟨k, by omega, hd, h⟩
      · rintro (h | ⟨j, h1, h2, h3⟩)
        · exact .inl (.inl h)
        · rcases Nat.lt_or_ge j k with h4 | h4
          · exact .inl (.inr ⟨j, h4, h2, h3⟩)
          · obtain rfl : j = k := by omega
            exact .inr h3
    · rw [if_neg hd, ih]
      constructor
      · rintro (h | ⟨j, h1, h2, h3⟩)
        · exact .inl h
        · exact .inr ⟨j, by omega, h2, h3⟩
      · rintro (h | ⟨j, h1, h2, h3⟩)
        · exact .inl h
        · rcases Nat.lt_or_ge j k with h4 | h4
          · exact .inr ⟨j, h4, h2, h3⟩
          · obtain rfl : j = k := by omega
            exact absurd h2 hd

theorem rec_nodup {P : PL} (h : MayBe P) (upto : Int) (k : Nat) : (recP P upto k).F.Nodup := by
  obtain ⟨k1, k2, k3, k4, k5, k6, k7, k8⟩ := h
  induction k with
  | zero => exact k7
  | succ k ih =>
    rw [recP]
    by_cases hd : Due P upto k
    · rw [if_pos hd]
      simp only [recOne]
      refine List.nodup_append.2 ⟨ih, by simp, ?_⟩
      intro a ha b hb e
      obtain rfl : b = (k : Int) := by simpa using hb
      subst e
      rcases (rec_mem P upto k _).1 ha with h1 | ⟨j, h1, h2, h3⟩
      · have := (k6 _ h1).2.2
        rw [Int.toNat_natCast, hd.1] at this
        omega
      · omega
    · rw [if_neg hd]; exact ih

theorem may_rec {P : PL} (h : MayBe P) (upto : Int) (k : Nat) (hk : k ≤ P.G.length) : MayBe (recP P upto k) := by
  have h7 := rec_nodup h upto k
  obtain ⟨k1, k2, k3, k4, k5, k6, k7, k8⟩ := h
  obtain ⟨l1, l2, l3⟩ := rec_len P upto k
  have hat := rec_at P upto k3 k4 k hk
  refine ⟨by omega, by omega, by omega, by omega, fun j hj => ?_, fun y hy => ?_, h7, fun j hj hz => ?_⟩
  · obtain ⟨a, b, c⟩ := hat j
    obtain ⟨g1, g2, g3⟩ := k5 j (by omega)
    rw [a, b, c]
    by_cases hd : j < k ∧ Due P upto j
    · rw [if_pos hd, if_pos hd, if_pos hd]
      have := hd.2.2.2
      exact ⟨by omega, by omega, .inl ⟨.inl rfl, rfl⟩⟩
    · rw [if_neg hd, if_neg hd, if_neg hd]
      exact ⟨g1, g2, g3⟩
  · rcases (rec_mem P upto k y).1 hy with h1 | ⟨j, h1, h2, rfl⟩
    · obtain ⟨a, b, c⟩ := k6 y h1
      refine ⟨a, by omega, ?_⟩
      rw [(hat y.toNat).2.1]
      split
      · rfl
      · exact c
    · refine ⟨by omega, by omega, ?_⟩
      rw [(hat _).2.1, Int.toNat_natCast, if_pos ⟨h1, h2⟩]
  · rw [(hat j).2.1] at hz
    rw [rec_mem]
    by_cases hd : j < k ∧ Due P upto j
    · exact .inr ⟨j, hd.1, hd.2, rfl⟩
    · rw [if_neg hd] at hz
      exact .inl (k8 j (by omega) hz)

theorem may_reclaim {P : PL} (h : MayBe P) (upto : Int) : MayBe (recQ true P upto) := may_rec h upto _ (Nat.le_refl _)

/-- Retired, or reclaimed: the reference is of another slot's state. -/
theorem ret_none {P : PL} {r : Int} (h1 : 1 ≤ r) (h2 : r ≤ 1125899906842624) (h3 : (r - 1) % 1024 < (P.G.length : Int)) (h4 : P.S.getD ((r - 1) % 1024).toNat 0 ≠ 1) : retE true P r = 2 := by
  unfold retE
  rw [if_neg (by simp; omega), if_pos (.inl h4)]
theorem ret_zero {P : PL} {r : Int} (h : retE true P r = 0) : 1 ≤ r ∧ r ≤ 1125899906842624 ∧ (r - 1) % 1024 < (P.G.length : Int) ∧ P.S.getD ((r - 1) % 1024).toNat 0 = 1 ∧ P.G.getD ((r - 1) % 1024).toNat 0 = (r - 1) / 1024 := by
  unfold retE at h
  split at h
  · omega
  · split at h
    · omega
    · rename_i a b
      have a1 : ¬ r < 1 := fun h => a (.inr (.inl h))
      have a2 : ¬ 1125899906842624 < r := fun h => a (.inr (.inr (.inl h)))
      have a3 : ¬ (P.G.length : Int) ≤ (r - 1) % 1024 := fun h => a (.inr (.inr (.inr h)))
      exact ⟨by omega, by omega, by omega, Decidable.byContradiction fun h => b (.inl h), Decidable.byContradiction fun h => b (.inr h)⟩

theorem may_retQ {P : PL} (h : MayBe P) {r z : Int} (h0 : retE true P r = 0) : MayBe (retQ true P r z) := by
  obtain ⟨a, b, c, d, _⟩ := ret_zero h0
  unfold retQ
  rw [if_pos h0]
  exact may_retire h (by omega) d

/-- How many of S are v. -/
theorem count_three (S : List Int) (h : ∀ k, k < S.length → S.getD k 0 = 0 ∨ S.getD k 0 = 1 ∨ S.getD k 0 = 2) : S.count 1 + S.count 2 + S.count 0 = S.length := by
  induction S with
  | nil => rfl
  | cons x xs ih =>
    have h0 := h 0 (by simp)
    have ih := ih fun k hk => by simpa using h (k + 1) (by simpa using hk)
    simp only [List.getD_cons_zero] at h0
    rw [List.count_cons, List.count_cons, List.count_cons, List.length_cons]
    rcases h0 with rfl | rfl | rfl <;> simp <;> omega

theorem count_take (S : List Int) (k : Nat) (hk : k < S.length) (v : Int) : (S.take (k + 1)).count v = (S.take k).count v + if S.getD k 0 = v then 1 else 0 := by
  rw [List.take_succ_eq_append_getElem hk, List.count_append]
  simp only [List.getD_eq_getElem?_getD, List.getElem?_eq_getElem hk, Option.getD_some, List.count_singleton, beq_iff_eq]

theorem met_zero (S F : List Int) (h : ∀ k : Nat, k < S.length → F.count (k : Int) ≤ 1 ∧ (F.count (k : Int) = 1 ↔ S.getD k 0 = 0)) : ∀ k, k ≤ S.length → metSum F k = (S.take k).count 0
  | 0, _ => by simp [metSum]
  | k + 1, hk => by
    rw [metSum, met_zero S F h k (by omega), count_take S k (by omega)]
    obtain ⟨h1, h2⟩ := h k (by omega)
    by_cases hz : S.getD k 0 = 0
    · rw [if_pos hz, h2.2 hz]
    · rw [if_neg hz]
      have : F.count (k : Int) ≠ 1 := fun e => hz (h2.1 e)
      omega

theorem free_count {S F : List Int} (h : FreeOk S F) : S.count 0 = F.length := by
  obtain ⟨h1, h2⟩ := (met_iff S F).2 h
  rw [met_zero S F h1 _ (Nat.le_refl _), List.take_of_length_le (Nat.le_refl _)] at h2
  exact h2

theorem may_counts {P : PL} (h : MayBe P) : P.S.count 1 + P.S.count 2 + P.S.count 0 = P.G.length ∧ P.S.count 0 = P.F.length := by
  obtain ⟨k1, k2, k3, k4, k5, k6⟩ := h
  refine ⟨?_, free_count k6⟩
  rw [← k3]
  refine count_three P.S fun k hk => ?_
  have := (k5 k (by omega)).2.2
  omega

end Go.Proofs.Ytfdbbfjnianahaa
