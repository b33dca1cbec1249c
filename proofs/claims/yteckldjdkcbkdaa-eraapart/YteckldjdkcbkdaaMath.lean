/- What an era that may be is, and what Pin, Unpin and Turn come to, as functions of numbers and lists; what follows of them. Plain mathematics. -/
import Derived.Below
namespace Go.Proofs.Yteckldjdkcbkdaa
set_option linter.unusedVariables false

/-- A thread's number may be. -/
def PinOk (t z : Int) : Prop := z = -1 ∨ z = t ∨ z = t - 1
/-- An era that may be. -/
def Ok (t : Int) (zs : List Int) : Prop := (0 ≤ t ∧ t ≤ 1152921504606846976) ∧ (1 ≤ zs.length ∧ zs.length ≤ 64) ∧ ∀ z ∈ zs, PinOk t z
/-- All that are pinned are pinned in t. -/
def Step (t : Int) (zs : List Int) : Prop := ∀ z ∈ zs, z = -1 ∨ z = t
instance (t z : Int) : Decidable (PinOk t z) := by unfold PinOk; infer_instance
instance (t : Int) (zs : List Int) : Decidable (Ok t zs) := by unfold Ok; infer_instance
instance (t : Int) (zs : List Int) : Decidable (Step t zs) := by unfold Step; infer_instance

/-- The closures. -/
def bad (t z : Int) : Bool := z != -1 && z != t && z != t - 1
def out (t z : Int) : Bool := z != -1 && z != t
theorem bad_iff (t z : Int) : bad t z = false ↔ PinOk t z := by
  unfold bad PinOk
  by_cases h1 : z = -1
  · simp [h1]
  · by_cases h2 : z = t
    · simp [h2]
    · by_cases h3 : z = t - 1
      · simp [h3]
      · simp [h1, h2, h3]
theorem out_iff (t z : Int) : out t z = false ↔ (z = -1 ∨ z = t) := by
  unfold out
  by_cases h1 : z = -1
  · simp [h1]
  · by_cases h2 : z = t
    · simp [h2]
    · simp [h1, h2]
theorem any_bad {t : Int} {zs : List Int} : (!zs.any (bad t)) = true ↔ ∀ z ∈ zs, PinOk t z := by
  simp only [Bool.not_eq_true', List.any_eq_false]
  constructor
  · intro h z hz
    exact (bad_iff t z).1 (by simpa using h z hz)
  · intro h z hz
    simpa using (bad_iff t z).2 (h z hz)
theorem any_out {t : Int} {zs : List Int} : (!zs.any (out t)) = true ↔ Step t zs := by
  simp only [Bool.not_eq_true', List.any_eq_false]
  constructor
  · intro h z hz
    exact (out_iff t z).1 (by simpa using h z hz)
  · intro h z hz
    simpa using (out_iff t z).2 (h z hz)

/-- Where p first holds, from k on. -/
def idxP (p : Int → Bool) : List Int → Nat → Int
  | [], _ => -1
  | x :: xs, k => if p x then (k : Int) else idxP p xs (k + 1)
theorem idxP_next (p : Int → Bool) (zs : List Int) (k : Nat) (hk : k < zs.length) : idxP p (zs.drop k) k = if p (zs.getD k 0) then (k : Int) else idxP p (zs.drop (k + 1)) (k + 1) := by
  rw [List.drop_eq_getElem_cons hk, idxP]
  simp [List.getD_eq_getElem?_getD, hk]
theorem idxP_bool (p : Int → Bool) (zs : List Int) (k : Nat) : decide (0 ≤ idxP p zs k) = zs.any p := by
  induction zs generalizing k with
  | nil => simp [idxP]
  | cons x xs ih =>
    rw [idxP]
    by_cases hx : p x
    · simp [hx]
    · rw [if_neg hx, ih]; simp [hx]

/-- The numbers that Check and Safe tell. -/
def chk (b : Bool) : Int := if b then 0 else 1
def safeV (b : Bool) (t : Int) : Int := if b then t - 2 else -1

/-- What Pin tells. -/
def pinE (b : Bool) (zs : List Int) (k : Int) : Int := if b = false ∨ k < 0 ∨ (zs.length : Int) ≤ k ∨ zs.getD k.toNat 0 ≠ -1 then 1 else 0
def pinT (b : Bool) (t : Int) (zs : List Int) (k : Int) : Int := if pinE b zs k = 0 then t else 0
def pinZ (b : Bool) (t : Int) (zs : List Int) (k : Int) : List Int := if pinE b zs k = 0 then zs.set k.toNat t else []
/-- What Unpin tells. -/
def unpE (b : Bool) (zs : List Int) (k : Int) : Int := if b = false ∨ k < 0 ∨ (zs.length : Int) ≤ k then 1 else if zs.getD k.toNat 0 = -1 then 2 else 0
def unpT (b : Bool) (t : Int) (zs : List Int) (k : Int) : Int := if unpE b zs k = 0 then t else 0
def unpZ (b : Bool) (zs : List Int) (k : Int) : List Int := if unpE b zs k = 0 then zs.set k.toNat (-1) else []
/-- What Turn tells (s: all are in step). -/
def turnB (b s : Bool) (t : Int) : Bool := b && s && t != 1152921504606846976
def turnT (b s : Bool) (t : Int) : Int := if b then (if turnB b s t then t + 1 else t) else 0
def turnZ (b : Bool) (zs : List Int) : List Int := if b then zs else []

section
variable {b : Bool} {t k : Int} {zs : List Int} {X : Nat}
theorem pin_no (h : pinE b zs k = 1) : pinT b t zs k = 0 ∧ pinZ b t zs k = [] := by simp [pinT, pinZ, h]
theorem pin_yes (h : pinE b zs X = 0) : pinT b t zs X = t ∧ pinZ b t zs X = zs.set X t := by simp [pinT, pinZ, h]
theorem unp_no (h : unpE b zs k ≠ 0) : unpT b t zs k = 0 ∧ unpZ b zs k = [] := by simp [unpT, unpZ, h]
theorem unp_yes (h : unpE b zs X = 0) : unpT b t zs X = t ∧ unpZ b zs X = zs.set X (-1) := by simp [unpT, unpZ, h]
theorem pinE_bad (h : b = false ∨ k < 0 ∨ (zs.length : Int) ≤ k) : pinE b zs k = 1 := by
  unfold pinE
  rw [if_pos]
  rcases h with h | h | h
  · exact .inl h
  · exact .inr (.inl h)
  · exact .inr (.inr (.inl h))
theorem pinE_taken (h : zs.getD X 0 ≠ -1) : pinE b zs X = 1 := by unfold pinE; rw [if_pos (by simp only [Int.toNat_natCast]; exact .inr (.inr (.inr h)))]
theorem pinE_ok (hb : b = true) (hX : X < zs.length) (h : zs.getD X 0 = -1) : pinE b zs X = 0 := by
  unfold pinE
  rw [if_neg]
  simp only [Int.toNat_natCast]
  rintro (h1 | h1 | h1 | h1)
  · simp [hb] at h1
  · omega
  · omega
  · exact h1 h
theorem unpE_bad (h : b = false ∨ k < 0 ∨ (zs.length : Int) ≤ k) : unpE b zs k = 1 := by unfold unpE; rw [if_pos h]
theorem unpE_none (hb : b = true) (hX : X < zs.length) (h : zs.getD X 0 = -1) : unpE b zs X = 2 := by
  unfold unpE
  rw [if_neg (by rintro (h1 | h1 | h1); simp [hb] at h1; omega; omega), if_pos (by simpa using h)]
theorem unpE_ok (hb : b = true) (hX : X < zs.length) (h : zs.getD X 0 ≠ -1) : unpE b zs X = 0 := by
  unfold unpE
  rw [if_neg (by rintro (h1 | h1 | h1); simp [hb] at h1; omega; omega), if_neg (by simpa using h)]

theorem get_set (l : List Int) (i : Nat) (x : Int) (j : Nat) (hi : i < l.length) : (l.set i x).getD j 0 = if i = j then x else l.getD j 0 := by
  simp only [List.getD_eq_getElem?_getD, List.getElem?_set]
  split
  · subst_vars; simp
  · rfl
theorem mem_get {z : Int} (h : z ∈ zs) : ∃ i, i < zs.length ∧ zs.getD i 0 = z := by
  obtain ⟨i, hi, e⟩ := List.getElem_of_mem h
  exact ⟨i, hi, by simp [List.getD_eq_getElem?_getD, hi, e]⟩
theorem get_mem {i : Nat} (h : i < zs.length) : zs.getD i 0 ∈ zs := by simp [List.getD_eq_getElem?_getD, h]
/-- An era stays one. -/
theorem ok_set (h : Ok t zs) (X : Nat) {z : Int} (hz : PinOk t z) : Ok t (zs.set X z) := by
  refine ⟨h.1, by simpa using h.2.1, fun y hy => ?_⟩
  rcases List.mem_or_eq_of_mem_set hy with h1 | rfl
  · exact h.2.2 y h1
  · exact hz
theorem ok_next (h : Ok t zs) (hs : Step t zs) (ht : t < 1152921504606846976) : Ok (t + 1) zs :=
  ⟨⟨by have := h.1; omega, by omega⟩, h.2.1, fun z hz => by rcases hs z hz with h1 | h1; exact .inl h1; exact .inr (.inr (by omega))⟩
end

end Go.Proofs.Yteckldjdkcbkdaa
