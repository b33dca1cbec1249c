/- Plain mathematics of layer 3: each thing has one word, each word is one thing's. No conditions. -/
import Derived.Test.YtknbllhkifigbaaDoorWalksC
namespace Go.Proofs.YtknbllhkifigbaaDoor
open Go.RowKit

section
variable {n e p i j : Int}

theorem Stands.unique {x m fd A E A' E' : Int} (h : Stands n e p i j x m fd A E) (h' : Stands n e p i j x m fd A' E') : A = A' ∧ E = E' := by
  rcases h with ⟨o, K, hK, hI, hA, hE⟩ | ⟨hn, hA, hE⟩ <;> rcases h' with ⟨o', K', hK', hI', hA', hE'⟩ | ⟨hn', hA', hE'⟩
  · have hKK : K = K' := pw_inj K K' hK hK' (by have h1 := hI.1; have h2 := hI'.1; omega)
    subst hKK
    exact ⟨by omega, by omega⟩
  · rcases hn' with hn' | hn'
    · exact absurd o hn'
    · exact absurd hI (hn' K hK)
  · rcases hn with hn | hn
    · exact absurd o' hn
    · exact absurd hI' (hn K' hK')
  · exact ⟨by omega, by omega⟩

theorem Stands.err {x m fd A E : Int} (h : Stands n e p i j x m fd A E) : (E = 0 ∨ (E = 1 ∧ A = 0)) := by
  rcases h with ⟨o, K, hK, hI, hA, hE⟩ | ⟨hn, hA, hE⟩
  · exact .inl hE
  · exact .inr ⟨hE, hA⟩

theorem Fields.err {x m fd A E : Int} (h : Fields n e p i j x m fd A E) : (E = 0 ∨ (E = 1 ∧ A = 0)) := by
  rcases h with ⟨_, h⟩ | ⟨_, h1, h2⟩
  · exact h.err
  · exact .inr ⟨h2, h1⟩

theorem Fields.unique {x m fd A E A' E' : Int} (h : Fields n e p i j x m fd A E) (h' : Fields n e p i j x m fd A' E') : A = A' ∧ E = E' := by
  rcases h with ⟨h0, h⟩ | ⟨h0, h1, h2⟩ <;> rcases h' with ⟨h0', h'⟩ | ⟨h0', h1', h2'⟩
  · exact h.unique h'
  · omega
  · omega
  · exact ⟨by omega, by omega⟩

theorem Whats.unique {a v1 v2 v3 E u1 u2 u3 E' : Int} (h : Whats n e p i j a v1 v2 v3 E) (h' : Whats n e p i j a u1 u2 u3 E') : v1 = u1 ∧ v2 = u2 ∧ v3 = u3 ∧ E = E' := by
  rcases h with ⟨o, K, hK, h1, h2, e1, e2, e3, e4⟩ | ⟨hn, e1, e2, e3, e4⟩ <;> rcases h' with ⟨o', K', hK', h1', h2', e1', e2', e3', e4'⟩ | ⟨hn', e1', e2', e3', e4'⟩
  · have hKK : K = K' := by
      rcases Nat.lt_trichotomy K K' with g | g | g
      · have := po_grows o K K' g hK'; omega
      · exact g
      · have := po_grows o K' K g hK; omega
    subst hKK
    exact ⟨by omega, by omega, by omega, by omega⟩
  · exfalso
    rcases hn' with hn' | hn' | hn'
    · exact hn' o
    · have := (po_le o K hK).1; omega
    · have := in_size o a K hK h2; omega
  · exfalso
    rcases hn with hn | hn | hn
    · exact hn o'
    · have := (po_le o' K' hK').1; omega
    · have := in_size o' a K' hK' h2'; omega
  · exact ⟨by omega, by omega, by omega, by omega⟩

theorem Whats.err {a v1 v2 v3 E : Int} (h : Whats n e p i j a v1 v2 v3 E) : (E = 0 ∨ (E = 1 ∧ v1 = 0 ∧ v2 = 0 ∧ v3 = 0)) := by
  rcases h with ⟨o, K, hK, h1, h2, e1, e2, e3, e4⟩ | ⟨hn, e1, e2, e3, e4⟩
  · exact .inl e4
  · exact .inr ⟨e4, e1, e2, e3⟩

/-- Where a thing stands, that thing is told. -/
theorem stands_whats {x m fd A : Int} (h : Stands n e p i j x m fd A 0) : Whats n e p i j A x m fd 0 := by
  rcases h with ⟨o, K, hK, hI, hA, _⟩ | ⟨_, _, hE⟩
  · refine .inl ⟨o, K, hK, ?_⟩
    revert hI hA
    unfold In
    refine six (P := fun K => x = (pw K : Int) ∧ pf K ≤ m ∧ m < pf K + pc n e p i j K ∧ 0 ≤ fd ∧ fd < pl K → po n e p i j K + (m - pf K) * pl K + fd = A → po n e p i j K ≤ A ∧ A - po n e p i j K < pc n e p i j K * pl K ∧ (pw K : Int) = x ∧ pf K + (A - po n e p i j K) / pl K = m ∧ (A - po n e p i j K) % pl K = fd ∧ (0 : Int) = 0) ?_ ?_ ?_ ?_ ?_ ?_ K hK <;>
      · intro hI hA
        simp only [po, pc, pl, pf, pw] at *
        refine ⟨?_, ?_, ?_, ?_, ?_, by first | rfl | trivial⟩ <;> omega
  · omega

/-- What is told of a word stands there. -/
theorem whats_stands {a v1 v2 v3 : Int} (h : Whats n e p i j a v1 v2 v3 0) : Stands n e p i j v1 v2 v3 a 0 ∧ (0 ≤ v1 ∧ v1 ≤ 5) ∧ (0 ≤ v2 ∧ v2 ≤ 64) ∧ (0 ≤ v3 ∧ v3 ≤ 4) ∧ ((1 ≤ v1 ∧ v1 ≤ 3) → v2 ≤ 63) ∧ (¬ (1 ≤ v1 ∧ v1 ≤ 3) → v3 = 0) ∧ (v1 = 0 → v2 = a + 1 ∧ a < 2) ∧ (v1 ≠ 0 → 2 ≤ a) := by
  rcases h with ⟨o, K, hK, h1, h2, e1, e2, e3, _⟩ | ⟨_, _, _, _, hE⟩
  · have o' := o
    unfold Ok at o'
    have key : (In n e p i j v1 v2 v3 K ∧ po n e p i j K + (v2 - pf K) * pl K + v3 = a) ∧ (0 ≤ v1 ∧ v1 ≤ 5) ∧ (0 ≤ v2 ∧ v2 ≤ 64) ∧ (0 ≤ v3 ∧ v3 ≤ 4) ∧ ((1 ≤ v1 ∧ v1 ≤ 3) → v2 ≤ 63) ∧ (¬ (1 ≤ v1 ∧ v1 ≤ 3) → v3 = 0) ∧ (v1 = 0 → v2 = a + 1 ∧ a < 2) ∧ (v1 ≠ 0 → 2 ≤ a) := by
      revert h1 h2 e1 e2 e3
      unfold In
      refine six (P := fun K => po n e p i j K ≤ a → a - po n e p i j K < pc n e p i j K * pl K → (pw K : Int) = v1 → pf K + (a - po n e p i j K) / pl K = v2 → (a - po n e p i j K) % pl K = v3 →
        ((v1 = (pw K : Int) ∧ pf K ≤ v2 ∧ v2 < pf K + pc n e p i j K ∧ 0 ≤ v3 ∧ v3 < pl K) ∧ po n e p i j K + (v2 - pf K) * pl K + v3 = a) ∧ (0 ≤ v1 ∧ v1 ≤ 5) ∧ (0 ≤ v2 ∧ v2 ≤ 64) ∧ (0 ≤ v3 ∧ v3 ≤ 4) ∧ ((1 ≤ v1 ∧ v1 ≤ 3) → v2 ≤ 63) ∧ (¬ (1 ≤ v1 ∧ v1 ≤ 3) → v3 = 0) ∧ (v1 = 0 → v2 = a + 1 ∧ a < 2) ∧ (v1 ≠ 0 → 2 ≤ a)) ?_ ?_ ?_ ?_ ?_ ?_ K hK <;>
        · intro h1 h2 e1 e2 e3
          simp only [po, pc, pl, pf, pw] at *
          refine ⟨⟨⟨?_, ?_, ?_, ?_, ?_⟩, ?_⟩, ⟨?_, ?_⟩, ⟨?_, ?_⟩, ⟨?_, ?_⟩, ?_, ?_, ?_, ?_⟩ <;> omega
    exact ⟨.inl ⟨o, K, hK, key.1.1, key.1.2, rfl⟩, key.2⟩
  · omega

/-- A node's place, as the document's answer has it. -/
theorem stands4 {m A E : Int} (h : Stands n e p i j 4 m 0 A E) : (Ok n e p i j ∧ 1 ≤ m ∧ m ≤ i ∧ A = 1 + m ∧ E = 0) ∨ ((¬ Ok n e p i j ∨ m < 1 ∨ i < m) ∧ A = 0 ∧ E = 1) := by
  by_cases g : Ok n e p i j ∧ 1 ≤ m ∧ m ≤ i
  · have := h.unique (A' := 1 + m) (E' := 0) (.inl ⟨g.1, 1, by omega, ⟨rfl, by simp only [pf]; omega, by simp only [pf, pc]; omega, by omega, by simp only [pl]; omega⟩, by simp only [po, pf, pl]; omega, rfl⟩)
    exact .inl ⟨g.1, g.2.1, g.2.2, this.1, this.2⟩
  · have hn : ¬ Ok n e p i j ∨ m < 1 ∨ i < m := by
      by_cases o : Ok n e p i j
      · right; by_cases m < 1
        · left; assumption
        · right; by_cases i < m
          · assumption
          · exact absurd ⟨o, by omega, by omega⟩ g
      · exact .inl o
    have := h.unique (A' := 0) (E' := 1) (.inr ⟨by
      rcases hn with hn | hn
      · exact .inl hn
      · right
        refine fun K hK hI => ?_
        have hK1 : K = 1 := pw_inj K 1 hK (by omega) (by have := hI.1; show pw K = 4; omega)
        subst hK1
        have h1 := hI.2.1
        have h2 := hI.2.2.1
        simp only [pf, pc] at h1 h2
        omega, rfl, rfl⟩)
    exact .inr ⟨hn, this.1, this.2⟩

/-- An edge's place, as the document's answer has it. -/
theorem stands5 {m A E : Int} (h : Stands n e p i j 5 m 0 A E) : (Ok n e p i j ∧ 1 ≤ m ∧ m ≤ j ∧ A = 1 + i + m ∧ E = 0) ∨ ((¬ Ok n e p i j ∨ m < 1 ∨ j < m) ∧ A = 0 ∧ E = 1) := by
  by_cases g : Ok n e p i j ∧ 1 ≤ m ∧ m ≤ j
  · have := h.unique (A' := 1 + i + m) (E' := 0) (.inl ⟨g.1, 2, by omega, ⟨rfl, by simp only [pf]; omega, by simp only [pf, pc]; omega, by omega, by simp only [pl]; omega⟩, by simp only [po, pf, pl]; omega, rfl⟩)
    exact .inl ⟨g.1, g.2.1, g.2.2, this.1, this.2⟩
  · have hn : ¬ Ok n e p i j ∨ m < 1 ∨ j < m := by
      by_cases o : Ok n e p i j
      · right; by_cases m < 1
        · left; assumption
        · right; by_cases j < m
          · assumption
          · exact absurd ⟨o, by omega, by omega⟩ g
      · exact .inl o
    have := h.unique (A' := 0) (E' := 1) (.inr ⟨by
      rcases hn with hn | hn
      · exact .inl hn
      · right
        refine fun K hK hI => ?_
        have hK1 : K = 2 := pw_inj K 2 hK (by omega) (by have := hI.1; show pw K = 5; omega)
        subst hK1
        have h1 := hI.2.1
        have h2 := hI.2.2.1
        simp only [pf, pc] at h1 h2
        omega, rfl, rfl⟩)
    exact .inr ⟨hn, this.1, this.2⟩

theorem rec_part (k : Nat) (h1 : 1 ≤ k) (h3 : k ≤ 3) : pw (k + 2) = k ∧ pf (k + 2) = 0 := by
  match k, h1, h3 with
  | 1, _, _ => exact ⟨rfl, rfl⟩
  | 2, _, _ => exact ⟨rfl, rfl⟩
  | 3, _, _ => exact ⟨rfl, rfl⟩

/-- A field's place, as the document's answer has it. -/
theorem fields_is (k : Nat) (h1 : 1 ≤ k) (h3 : k ≤ 3) {m fd A E : Int} (h : Fields n e p i j k m fd A E) :
    (Ok n e p i j ∧ 0 ≤ m ∧ m < pc n e p i j (k + 2) ∧ 0 ≤ fd ∧ fd < pl (k + 2) ∧ A = po n e p i j (k + 2) + pl (k + 2) * m + fd ∧ E = 0) ∨
    ((¬ Ok n e p i j ∨ m < 0 ∨ pc n e p i j (k + 2) ≤ m ∨ fd < 0 ∨ pl (k + 2) ≤ fd) ∧ A = 0 ∧ E = 1) := by
  obtain ⟨hw, hf⟩ := rec_part k h1 h3
  have h : Stands n e p i j k m fd A E := h.elim (fun g => g.2) (fun g => absurd g.1 (by omega))
  by_cases g : Ok n e p i j ∧ 0 ≤ m ∧ m < pc n e p i j (k + 2) ∧ 0 ≤ fd ∧ fd < pl (k + 2)
  · obtain ⟨o, g1, g2, g3, g4⟩ := g
    have := h.unique (A' := po n e p i j (k + 2) + pl (k + 2) * m + fd) (E' := 0) (.inl ⟨o, k + 2, by omega, ⟨by rw [hw], by omega, by omega, g3, g4⟩, by rw [hf, Int.sub_zero, Int.mul_comm], rfl⟩)
    exact .inl ⟨o, g1, g2, g3, g4, this.1, this.2⟩
  · have hn : ¬ Ok n e p i j ∨ m < 0 ∨ pc n e p i j (k + 2) ≤ m ∨ fd < 0 ∨ pl (k + 2) ≤ fd := by
      by_cases o : Ok n e p i j
      · right
        have g' : ¬ (0 ≤ m ∧ m < pc n e p i j (k + 2) ∧ 0 ≤ fd ∧ fd < pl (k + 2)) := fun hh => g ⟨o, hh⟩
        omega
      · exact .inl o
    have := h.unique (A' := 0) (E' := 1) (.inr ⟨by
      rcases hn with hn | hn
      · exact .inl hn
      · right
        refine fun K hK hI => ?_
        have hK1 : K = k + 2 := pw_inj K (k + 2) hK (by omega) (by have := hI.1; rw [hw]; omega)
        subst hK1
        have h1 := hI.2.1
        have h2 := hI.2.2.1
        have h3 := hI.2.2.2
        rw [hf] at h1 h2
        omega, rfl, rfl⟩)
    exact .inr ⟨hn, this.1, this.2⟩
end
end Go.Proofs.YtknbllhkifigbaaDoor
