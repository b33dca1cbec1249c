/- Plain mathematics of properties that are put among others one by one. No program, no conditions. -/
import Derived.Test.YtiiadkjiofkonaaLFuse
import Derived.Test.YtiiadkjiofkonaaRDel
namespace Go.Proofs.Ytiiadkjiofkonaa
set_option linter.unusedVariables false
theorem atf_map {α : Type} (f : α → Int) (l : List α) (x : Int) : atf f l x = atf id (l.map f) x := by
  unfold atf
  simp [List.findIdx_map, Function.comp_def]
theorem ids_setN (G : GL) (i : Nat) (l : List Pr) : (setN G i l).N.map (fun z : Nd => z.1) = G.N.map fun z : Nd => z.1 := by
  unfold setN
  by_cases h : i < G.N.length
  · apply List.ext_getElem?
    intro j
    by_cases e : j = i
    · subst e
      simp [List.getD_eq_getElem?_getD, h]
    · simp [Ne.symm e]
  · simp [List.set_eq_of_length_le (Nat.le_of_not_lt h)]
theorem atf_setN (G : GL) (i : Nat) (l : List Pr) (x : Int) : atf (fun z : Nd => z.1) (setN G i l).N x = atf (fun z : Nd => z.1) G.N x := by rw [atf_map, atf_map _ G.N, ids_setN]
theorem posN_setN (G : GL) (i : Nat) (l : List Pr) (x : Int) : posN (setN G i l) x = posN G x := by
  have e : ∀ K : GL, posN K x = (K.N.map fun z : Nd => z.1).findIdx fun z => z == x := fun K => by simp [posN, List.findIdx_map, Function.comp_def]
  rw [e, e, ids_setN]
theorem prsAt_setN {G : GL} {i : Nat} {l : List Pr} (h : i < G.N.length) : prsAt (setN G i l) i = l := by simp [prsAt, setN, List.getD_eq_getElem?_getD, h]
theorem setN_same {G : GL} {i : Nat} (h : i < G.N.length) : setN G i (prsAt G i) = G := by
  unfold setN prsAt
  have e : G.N.set i (G.N.getD i (0, [])) = G.N := by
    have : G.N.getD i (0, []) = G.N[i] := getD_get h
    rw [this]
    exact List.set_getElem_self h
  have e2 : G.N.set i ((G.N.getD i (0, [])).1, (G.N.getD i (0, [])).2) = G.N := e
  rw [e2]
theorem small_setN {G : GL} {i : Nat} {l : List Pr} (h : Small G) (hl : l.length ≤ 300) : Small (setN G i l) := by
  refine ⟨by simp [setN]; exact h.n, h.e, fun j hj => ?_, h.x, h.y⟩
  rw [setN_len] at hj
  by_cases e : j = i
  · subst e
    have : ((setN G j l).N.getD j (0, [])).2 = l := prsAt_setN hj
    rw [this]
    exact hl
  · have e2 : (setN G i l).N.getD j (0, []) = G.N.getD j (0, []) := by simp [setN, List.getD_eq_getElem?_getD, Ne.symm e]
    rw [e2]
    exact h.p j hj
theorem hasR_setN {G : GL} {a ky : Int} {F : List Pr} (ha : ¬ atf (fun z : Nd => z.1) G.N a < 0) (hp : posN G a < G.N.length) : hasR (setN G (posN G a) F) a ky = decide (0 ≤ atf (fun z : Pr => z.1) F ky) := by
  unfold hasR isN
  rw [atf_setN, posN_setN, prsAt_setN hp]
  have : 0 ≤ atf (fun z : Nd => z.1) G.N a := by omega
  simp [this]
/-- What P has become when the first k of Q were put in that it had not. -/
def Fo (P Q : List Pr) (k : Nat) (F : List Pr) : Prop := F.Perm (P ++ missing P (Q.take k)) ∧ F.Pairwise fun p q => ¬ q.1 < p.1
section
variable {P Q F : List Pr} {k : Nat} {ky vl : Int}
theorem rise_sorted (h : Rise (fun z : Pr => z.1) (0, 0) P) : P.Pairwise fun p q => ¬ q.1 < p.1 := by
  rw [List.pairwise_iff_getElem]
  intro i j hi hj hij
  have := h.lt j i hij hj
  rw [getD_get hi, getD_get hj] at this
  omega
theorem fo_zero (h : Rise (fun z : Pr => z.1) (0, 0) P) : Fo P Q 0 P := ⟨by simp [missing], rise_sorted h⟩
theorem missing_succ (hk : k < Q.length) (hx : Q.getD k (0, 0) = (ky, vl)) : missing P (Q.take (k + 1)) = missing P (Q.take k) ++ if atf (fun z : Pr => z.1) P ky < 0 then [(ky, vl)] else [] := by
  unfold missing
  rw [getD_take (d := (0, 0)) hk, hx, List.filter_append]
  congr 1
  by_cases e : atf (fun z : Pr => z.1) P ky < 0 <;> simp [e]
theorem key_new (hk : k < Q.length) (hx : Q.getD k (0, 0) = (ky, vl)) (hQ : (Q.map fun z : Pr => z.1).Nodup) : ky ∉ (Q.take k).map fun z : Pr => z.1 := by
  have h1 : ((Q.take (k + 1)).map fun z : Pr => z.1).Nodup := hQ.sublist ((List.take_sublist _ _).map _)
  rw [getD_take (d := (0, 0)) hk, hx, List.map_append, List.nodup_append] at h1
  intro hm
  exact h1.2.2 _ hm _ (by simp) rfl
theorem keys_of (h : Fo P Q k F) : ky ∈ F.map (fun z : Pr => z.1) ↔ ky ∈ P.map (fun z : Pr => z.1) ∨ (ky ∈ (Q.take k).map (fun z : Pr => z.1) ∧ ky ∉ P.map fun z : Pr => z.1) := by
  rw [(h.1.map _).mem_iff, List.map_append, List.mem_append, keys_missing]
theorem fo_has (hk : k < Q.length) (hx : Q.getD k (0, 0) = (ky, vl)) (hQ : (Q.map fun z : Pr => z.1).Nodup) (h : Fo P Q k F) (hin : 0 ≤ atf (fun z : Pr => z.1) F ky) : Fo P Q (k + 1) F := by
  have h1 := (keys_of h).1 (atf_mem.1 hin)
  have h2 : ky ∈ P.map fun z : Pr => z.1 := by
    rcases h1 with h1 | h1
    · exact h1
    · exact absurd h1.1 (key_new hk hx hQ)
  have h3 : ¬ atf (fun z : Pr => z.1) P ky < 0 := by have := atf_mem.2 h2; omega
  refine ⟨?_, h.2⟩
  rw [missing_succ hk hx, if_neg h3, List.append_nil]
  exact h.1
theorem put_perm (h : ky ∉ F.map fun z : Pr => z.1) : (putP F ky vl).Perm (F ++ [(ky, vl)]) := by
  unfold putP
  have e : F.filter (fun p => decide (ky < p.1)) = F.filter fun p => !decide (p.1 < ky) := by
    apply List.filter_congr
    intro p hp
    have : p.1 ≠ ky := fun e => h (List.mem_map.2 ⟨p, hp, e⟩)
    by_cases h1 : p.1 < ky
    · simp [h1]; omega
    · simp [h1]; omega
  rw [e]
  have h1 := List.filter_append_perm (fun p : Pr => decide (p.1 < ky)) F
  refine List.Perm.trans ?_ (h1.append_right [(ky, vl)])
  rw [List.append_assoc, List.append_assoc]
  exact List.Perm.append_left _ List.perm_append_comm
theorem put_sorted (h : F.Pairwise fun p q => ¬ q.1 < p.1) : (putP F ky vl).Pairwise fun p q => ¬ q.1 < p.1 := by
  unfold putP
  rw [List.append_assoc, List.pairwise_append, List.pairwise_append]
  refine ⟨h.filter _, ⟨List.pairwise_singleton _ _, h.filter _, ?_⟩, ?_⟩
  · intro p hp q hq
    simp only [List.mem_singleton] at hp
    have := (List.mem_filter.1 hq).2
    simp only [decide_eq_true_iff] at this
    rw [hp]
    show ¬ q.1 < ky
    omega
  · intro p hp q hq
    have h1 := (List.mem_filter.1 hp).2
    simp only [decide_eq_true_iff] at h1
    rcases List.mem_append.1 hq with h2 | h2
    · simp only [List.mem_singleton] at h2
      rw [h2]
      show ¬ ky < p.1
      omega
    · have := (List.mem_filter.1 h2).2
      simp only [decide_eq_true_iff] at this
      omega
theorem fo_put (hk : k < Q.length) (hx : Q.getD k (0, 0) = (ky, vl)) (hQ : (Q.map fun z : Pr => z.1).Nodup) (h : Fo P Q k F) (hin : ¬ 0 ≤ atf (fun z : Pr => z.1) F ky) : Fo P Q (k + 1) (putP F ky vl) := by
  have h1 : ky ∉ F.map fun z : Pr => z.1 := fun hm => hin (atf_mem.2 hm)
  have h2 : ky ∉ P.map fun z : Pr => z.1 := fun hm => h1 ((keys_of h).2 (.inl hm))
  have h3 : atf (fun z : Pr => z.1) P ky < 0 := by
    have : ¬ 0 ≤ atf (fun z : Pr => z.1) P ky := fun hh => h2 (atf_mem.1 hh)
    omega
  refine ⟨?_, put_sorted h.2⟩
  rw [missing_succ hk hx, if_pos h3, ← List.append_assoc]
  exact (put_perm h1).trans (h.1.append_right _)
theorem fo_len (h : Fo P Q k F) : F.length ≤ P.length + Q.length := by
  rw [h.1.length_eq, List.length_append]
  have h1 : (missing P (Q.take k)).length ≤ (Q.take k).length := List.length_filter_le _ _
  have h2 : (Q.take k).length ≤ Q.length := by simp; omega
  omega
end
/-- Edges of which the first k are moved. -/
def mvK (b a : Int) (E : List Ed) (k : Nat) : List Ed := (E.take k).map (mvE b a) ++ E.drop k
theorem mvK_len (b a : Int) (E : List Ed) (k : Nat) : (mvK b a E k).length = E.length := by simp [mvK]; omega
theorem mvK_at {b a : Int} {E : List Ed} {k : Nat} (hk : k < E.length) : (mvK b a E k).getD k (0, 0, 0) = E.getD k (0, 0, 0) := by
  unfold mvK
  rw [List.getD_eq_getElem?_getD, List.getElem?_append_right (by simp; omega)]
  have e : k - ((E.take k).map (mvE b a)).length = 0 := by simp; omega
  rw [e]
  simp [List.getD_eq_getElem?_getD]
theorem mvK_succ {b a : Int} {E : List Ed} {k : Nat} (hk : k < E.length) : (mvK b a E k).set k (mvE b a (E.getD k (0, 0, 0))) = mvK b a E (k + 1) := by
  apply List.ext_getElem?
  intro j
  unfold mvK
  by_cases h1 : j < k
  · rw [List.getElem?_set_ne (by omega), List.getElem?_append_left (by simp; omega), List.getElem?_append_left (by simp; omega)]
    simp [h1, show j < k + 1 by omega]
  · by_cases h2 : j = k
    · subst h2
      rw [List.getElem?_set_self (by simp; omega), List.getElem?_append_left (by simp; omega)]
      simp [hk, List.getD_eq_getElem?_getD]
    · rw [List.getElem?_set_ne (by omega), List.getElem?_append_right (by simp; omega), List.getElem?_append_right (by simp; omega)]
      simp only [List.length_map, List.length_take, List.getElem?_drop]
      congr 1
      omega
theorem mvK_all (b a : Int) (E : List Ed) : mvK b a E E.length = E.map (mvE b a) := by simp [mvK]
theorem mvK_zero (b a : Int) (E : List Ed) : mvK b a E 0 = E := by simp [mvK]
theorem flat3_set1 : ∀ (E : List Ed) (k : Nat) (z : Int), k < E.length → (flat3 E).set (k * 3 + 1) z = flat3 (E.set k ((E.getD k (0, 0, 0)).1, z, (E.getD k (0, 0, 0)).2.2))
  | [], k, z, h => by simp at h
  | p :: l, 0, z, _ => by simp [flat3]
  | p :: l, k + 1, z, h => by
    have := flat3_set1 l k z (by simpa using h)
    have e : (k + 1) * 3 + 1 = (k * 3 + 1) + 3 := by omega
    rw [e]
    simpa [flat3] using this
theorem flat3_set2 : ∀ (E : List Ed) (k : Nat) (z : Int), k < E.length → (flat3 E).set (k * 3 + 2) z = flat3 (E.set k ((E.getD k (0, 0, 0)).1, (E.getD k (0, 0, 0)).2.1, z))
  | [], k, z, h => by simp at h
  | p :: l, 0, z, _ => by simp [flat3]
  | p :: l, k + 1, z, h => by
    have := flat3_set2 l k z (by simpa using h)
    have e : (k + 1) * 3 + 2 = (k * 3 + 2) + 3 := by omega
    rw [e]
    simpa [flat3] using this
end Go.Proofs.Ytiiadkjiofkonaa
