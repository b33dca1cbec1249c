/- Plain mathematics of pools: when one may be, and the ways in which the code and the document ask it. -/
import Derived.Test.YtfdbbfjnianahaaPools
namespace Go.Proofs.Ytfdbbfjnianahaa

/-- What is asked of a slot. -/
def SlotOk (g s z : Int) : Prop := 0 ≤ g ∧ g < 1099511627776 ∧ ((s = 0 ∨ s = 1) ∧ z = 0 ∨ s = 2)
/-- What is asked of Free: all free slots, each once. -/
def FreeOk (S F : List Int) : Prop :=
  (∀ x ∈ F, 0 ≤ x ∧ x < (S.length : Int) ∧ S.getD x.toNat 0 = 0) ∧ F.Nodup ∧ ∀ k : Nat, k < S.length → S.getD k 0 = 0 → (k : Int) ∈ F
/-- A pool may be. -/
def MayBe (P : PL) : Prop :=
  1 ≤ P.G.length ∧ P.G.length ≤ 64 ∧ P.S.length = P.G.length ∧ P.W.length = P.G.length ∧
  (∀ k, k < P.G.length → SlotOk (P.G.getD k 0) (P.S.getD k 0) (P.W.getD k 0)) ∧ FreeOk P.S P.F

/-- The code's way: each slot is struck off. -/
def freeB (n : Nat) : List Int → List Int → Bool
  | L, [] => !L.contains 0
  | L, x :: xs => decide (0 ≤ x ∧ x < (n : Int) ∧ L.getD x.toNat 0 = 0) && freeB n (L.set x.toNat 1) xs

theorem getD_set (zs : List Int) (k i : Nat) (x : Int) (hk : k < zs.length) : (zs.set k x).getD i 0 = if k = i then x else zs.getD i 0 := by
  simp only [List.getD_eq_getElem?_getD, List.getElem?_set]
  by_cases h : k = i
  · subst h; simp [hk]
  · simp [h]

theorem mem_zero (L : List Int) : (0 : Int) ∈ L ↔ ∃ k : Nat, k < L.length ∧ L.getD k 0 = 0 := by
  constructor
  · intro h
    obtain ⟨k, hk, e⟩ := List.getElem_of_mem h
    exact ⟨k, hk, by simp [List.getD_eq_getElem?_getD, hk, e]⟩
  · rintro ⟨k, hk, e⟩
    have : L[k] = 0 := by simpa [List.getD_eq_getElem?_getD, hk] using e
    rw [← this]
    exact List.getElem_mem hk

theorem freeB_iff (n : Nat) (L F : List Int) (hn : L.length = n) : freeB n L F = true ↔ FreeOk L F := by
  subst hn
  induction F generalizing L with
  | nil =>
    simp only [freeB, FreeOk, Bool.not_eq_true', List.contains_eq_mem, decide_eq_false_iff_not, mem_zero]
    simp
  | cons x xs ih =>
    have e : (L.set x.toNat 1).length = L.length := by simp
    rw [freeB, Bool.and_eq_true, decide_eq_true_eq, ← e, ih]
    simp only [FreeOk, List.length_set]
    constructor
    · rintro ⟨⟨h0, h1, h2⟩, g1, g2, g3⟩
      have hx : x.toNat < L.length := by omega
      refine ⟨?_, ?_, ?_⟩
      · intro y hy
        rcases List.mem_cons.1 hy with rfl | hy
        · exact ⟨h0, h1, h2⟩
        · obtain ⟨a, b, c⟩ := g1 y hy
          rw [getD_set _ _ _ _ hx] at c
          split at c
          · omega
          · exact ⟨a, b, c⟩
      · refine List.nodup_cons.2 ⟨fun hmem => ?_, g2⟩
        have := (g1 x hmem).2.2
        rw [getD_set _ _ _ _ hx, if_pos rfl] at this
        omega
      · intro k hk hz
        by_cases hkx : x.toNat = k
        · subst hkx
          exact List.mem_cons.2 (.inl (by omega))
        · exact List.mem_cons.2 (.inr (g3 k hk (by rw [getD_set _ _ _ _ hx, if_neg hkx]; exact hz)))
    · rintro ⟨g1, g2, g3⟩
      obtain ⟨h0, h1, h2⟩ := g1 x (by simp)
      have hx : x.toNat < L.length := by omega
      have hn := List.nodup_cons.1 g2
      refine ⟨⟨h0, h1, h2⟩, ?_, hn.2, ?_⟩
      · intro y hy
        obtain ⟨a, b, c⟩ := g1 y (by simp [hy])
        refine ⟨a, b, ?_⟩
        rw [getD_set _ _ _ _ hx, if_neg]
        · exact c
        · intro h
          exact hn.1 ((show y = x by omega) ▸ hy)
      · intro k hk hz
        rw [getD_set _ _ _ _ hx] at hz
        split at hz
        · omega
        · rename_i hkx
          rcases List.mem_cons.1 (g3 k hk hz) with h | h
          · omega
          · exact h

/-- How many of F are slots below k. -/
def metSum (F : List Int) : Nat → Nat
  | 0 => 0
  | k + 1 => metSum F k + F.count (k : Int)

theorem metSum_eq (F : List Int) (k : Nat) : metSum F k = (F.filter fun x => decide (0 ≤ x ∧ x < (k : Int))).length := by
  induction k with
  | zero =>
    rw [metSum]
    symm
    rw [List.length_eq_zero_iff, List.filter_eq_nil_iff]
    intro x _
    simp
  | succ k ih =>
    rw [metSum, ih]
    clear ih
    induction F with
    | nil => rfl
    | cons x xs ih =>
      simp only [List.filter_cons, List.count_cons]
      by_cases h1 : 0 ≤ x ∧ x < (k : Int)
      · have h2 : 0 ≤ x ∧ x < ((k + 1 : Nat) : Int) := by omega
        have h3 : (x == (k : Int)) = false := by simp; omega
        rw [if_pos (decide_eq_true h1), if_pos (decide_eq_true h2), h3, List.length_cons, List.length_cons]
        simp only [Bool.false_eq_true, if_false]
        omega
      · by_cases h3 : x = (k : Int)
        · have h2 : 0 ≤ x ∧ x < ((k + 1 : Nat) : Int) := by omega
          have h4 : (x == (k : Int)) = true := by simpa using h3
          rw [if_neg (by simpa using h1), if_pos (decide_eq_true h2), h4, List.length_cons]
          simp only [if_true]
          omega
        · have h2 : ¬ (0 ≤ x ∧ x < ((k + 1 : Nat) : Int)) := by omega
          have h4 : (x == (k : Int)) = false := by simpa using h3
          simp only [decide_eq_false h1, decide_eq_false h2, h4, Bool.false_eq_true, if_false]
          omega

/-- The document's way: each slot is counted. -/
theorem met_iff (S F : List Int) : ((∀ k : Nat, k < S.length → F.count (k : Int) ≤ 1 ∧ (F.count (k : Int) = 1 ↔ S.getD k 0 = 0)) ∧ metSum F S.length = F.length) ↔ FreeOk S F := by
  rw [metSum_eq]
  constructor
  · rintro ⟨h1, h2⟩
    have hall : ∀ x ∈ F, 0 ≤ x ∧ x < (S.length : Int) := by
      have := List.length_filter_eq_length_iff.1 h2
      intro x hx
      simpa using this x hx
    refine ⟨fun x hx => ?_, ?_, ?_⟩
    · obtain ⟨a, b⟩ := hall x hx
      refine ⟨a, b, ?_⟩
      obtain ⟨q, r⟩ := h1 x.toNat (by omega)
      apply r.1
      have e : ((x.toNat : Nat) : Int) = x := by omega
      rw [e] at q ⊢
      have := List.count_pos_iff.2 hx
      omega
    · rw [List.nodup_iff_count]
      intro x
      by_cases hx : x ∈ F
      · obtain ⟨a, b⟩ := hall x hx
        have := (h1 x.toNat (by omega)).1
        rwa [show ((x.toNat : Nat) : Int) = x by omega] at this
      · rw [List.count_eq_zero.2 hx]; omega
    · intro k hk hz
      have := (h1 k hk).2.2 hz
      exact List.count_pos_iff.1 (by omega)
  · rintro ⟨g1, g2, g3⟩
    refine ⟨fun k hk => ⟨List.nodup_iff_count.1 g2 _, ?_⟩, ?_⟩
    · constructor
      · intro hc
        have := (g1 k (List.count_pos_iff.1 (by omega))).2.2
        simpa using this
      · intro hz
        have h1 := List.count_pos_iff.2 (g3 k hk hz)
        have h2 := List.nodup_iff_count.1 g2 (k : Int)
        omega
    · rw [List.length_filter_eq_length_iff]
      intro x hx
      obtain ⟨a, b, _⟩ := g1 x hx
      simp [a, b]

end Go.Proofs.Ytfdbbfjnianahaa
