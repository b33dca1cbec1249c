/- Plain mathematics of properties that are put among others one by one. No program, no conditions. Plain mathematics: what comes of a graph that may be may be. No program, no conditions. -/
import Derived.Test.YtiiadkjiofkonaaGreatAB8
import Derived.Test.YtiiadkjiofkonaaGreatRDel
import Derived.Test.YtiiadkjiofkonaaGreatGCheck
import Derived.Test.YtiiadkjiofkonaaGreatGAdd
namespace Go.Proofs.YtiiadkjiofkonaaGreat
set_option linter.unusedVariables false
theorem atf_map {α : Type} (f : α → Int) (l : List α) (x : Int) : atf f l x = atf id (l.map f) x := by
  unfold atf
  simp [List.findIdx_map, Function.comp_def]
theorem ids_setN (G : GL) (i : Nat) (l : List Pr) : (setN G i l).N.map (fun z : Nd => z.1) = G.N.map fun z : Nd => z.1 := by
  unfold setN
  by_cases h : i < G.N.length
  · apply List.ext_getElem?
    intro j
    by_cases e : j = i
    · subst e
      simp [List.getD_eq_getElem?_getD, h]
    · simp [Ne.symm e]
  · simp [List.set_eq_of_length_le (Nat.le_of_not_lt h)]
theorem atf_setN (G : GL) (i : Nat) (l : List Pr) (x : Int) : atf (fun z : Nd => z.1) (setN G i l).N x = atf (fun z : Nd => z.1) G.N x := by rw [atf_map, atf_map _ G.N, ids_setN]
theorem posN_setN (G : GL) (i : Nat) (l : List Pr) (x : Int) : posN (setN G i l) x = posN G x := by
  have e : ∀ K : GL, posN K x = (K.N.map fun z : Nd => z.1).findIdx fun z => z == x := fun K => by simp [posN, List.findIdx_map, Function.comp_def]
  rw [e, e, ids_setN]
theorem prsAt_setN {G : GL} {i : Nat} {l : List Pr} (h : i < G.N.length) : prsAt (setN G i l) i = l := by simp [prsAt, setN, List.getD_eq_getElem?_getD, h]
theorem setN_same {G : GL} {i : Nat} (h : i < G.N.length) : setN G i (prsAt G i) = G := by
  unfold setN prsAt
  have e : G.N.set i (G.N.getD i (0, [])) = G.N := by
    have : G.N.getD i (0, []) = G.N[i] := getD_get h
    rw [this]
    exact List.set_getElem_self h
  have e2 : G.N.set i ((G.N.getD i (0, [])).1, (G.N.getD i (0, [])).2) = G.N := e
  rw [e2]
theorem small_setN {G : GL} {i : Nat} {l : List Pr} (h : Small G) (hl : l.length ≤ 300) : Small (setN G i l) := by
  refine ⟨by simp [setN]; exact h.n, h.e, fun j hj => ?_, h.x, h.y⟩
  rw [setN_len] at hj
  by_cases e : j = i
  · subst e
    have : ((setN G j l).N.getD j (0, [])).2 = l := prsAt_setN hj
    rw [this]
    exact hl
  · have e2 : (setN G i l).N.getD j (0, []) = G.N.getD j (0, []) := by simp [setN, List.getD_eq_getElem?_getD, Ne.symm e]
    rw [e2]
    exact h.p j hj
theorem hasR_setN {G : GL} {a ky : Int} {F : List Pr} (ha : ¬ atf (fun z : Nd => z.1) G.N a < 0) (hp : posN G a < G.N.length) : hasR (setN G (posN G a) F) a ky = decide (0 ≤ atf (fun z : Pr => z.1) F ky) := by
  unfold hasR isN
  rw [atf_setN, posN_setN, prsAt_setN hp]
  have : 0 ≤ atf (fun z : Nd => z.1) G.N a := by omega
  simp [this]
/-- What P has become when the first k of Q were put in that it had not. -/
def Fo (P Q : List Pr) (k : Nat) (F : List Pr) : Prop := F.Perm (P ++ missing P (Q.take k)) ∧ F.Pairwise fun p q => ¬ q.1 < p.1
section
variable {P Q F : List Pr} {k : Nat} {ky vl : Int}
theorem rise_sorted (h : Rise (fun z : Pr => z.1) (0, 0) P) : P.Pairwise fun p q => ¬ q.1 < p.1 := by
  rw [List.pairwise_iff_getElem]
  intro i j hi hj hij
  have := h.lt j i hij hj
  rw [getD_get hi, getD_get hj] at this
  omega
theorem fo_zero (h : Rise (fun z : Pr => z.1) (0, 0) P) : Fo P Q 0 P := ⟨by simp [missing], rise_sorted h⟩
theorem missing_succ (hk : k < Q.length) (hx : Q.getD k (0, 0) = (ky, vl)) : missing P (Q.take (k + 1)) = missing P (Q.take k) ++ if atf (fun z : Pr => z.1) P ky < 0 then [(ky, vl)] else [] := by
  unfold missing
  rw [getD_take (d := (0, 0)) hk, hx, List.filter_append]
  congr 1
  by_cases e : atf (fun z : Pr => z.1) P ky < 0 <;> simp [e]
theorem key_new (hk : k < Q.length) (hx : Q.getD k (0, 0) = (ky, vl)) (hQ : (Q.map fun z : Pr => z.1).Nodup) : ky ∉ (Q.take k).map fun z : Pr => z.1 := by
  have h1 : ((Q.take (k + 1)).map fun z : Pr => z.1).Nodup := hQ.sublist ((List.take_sublist _ _).map _)
  rw [getD_take (d := (0, 0)) hk, hx, List.map_append, List.nodup_append] at h1
  intro hm
  exact h1.2.2 _ hm _ (by simp) rfl
theorem keys_of (h : Fo P Q k F) : ky ∈ F.map (fun z : Pr => z.1) ↔ ky ∈ P.map (fun z : Pr => z.1) ∨ (ky ∈ (Q.take k).map (fun z : Pr => z.1) ∧ ky ∉ P.map fun z : Pr => z.1) := by
  rw [(h.1.map _).mem_iff, List.map_append, List.mem_append, keys_missing]
theorem fo_has (hk : k < Q.length) (hx : Q.getD k (0, 0) = (ky, vl)) (hQ : (Q.map fun z : Pr => z.1).Nodup) (h : Fo P Q k F) (hin : 0 ≤ atf (fun z : Pr => z.1) F ky) : Fo P Q (k + 1) F := by
  have h1 := (keys_of h).1 (atf_mem.1 hin)
  have h2 : ky ∈ P.map fun z : Pr => z.1 := by
    rcases h1 with h1 | h1
    · exact h1
    · exact absurd h1.1 (key_new hk hx hQ)
  have h3 : ¬ atf (fun z : Pr => z.1) P ky < 0 := by have := atf_mem.2 h2; omega
  refine ⟨?_, h.2⟩
  rw [missing_succ hk hx, if_neg h3, List.append_nil]
  exact h.1
theorem put_perm (h : ky ∉ F.map fun z : Pr => z.1) : (putP F ky vl).Perm (F ++ [(ky, vl)]) := by
  unfold putP
  have e : F.filter (fun p => decide (ky < p.1)) = F.filter fun p => !decide (p.1 < ky) := by
    apply List.filter_congr
    intro p hp
    have : p.1 ≠ ky := fun e => h (List.mem_map.2 ⟨p, hp, e⟩)
    by_cases h1 : p.1 < ky
    · simp [h1]; omega
    · simp [h1]; omega
  rw [e]
  have h1 := List.filter_append_perm (fun p : Pr => decide (p.1 < ky)) F
  refine List.Perm.trans ?_ (h1.append_right [(ky, vl)])
  rw [List.append_assoc, List.append_assoc]
  exact List.Perm.append_left _ List.perm_append_comm
theorem put_sorted (h : F.Pairwise fun p q => ¬ q.1 < p.1) : (putP F ky vl).Pairwise fun p q => ¬ q.1 < p.1 := by
  unfold putP
  rw [List.append_assoc, List.pairwise_append, List.pairwise_append]
  refine ⟨h.filter _, ⟨List.pairwise_singleton _ _, h.filter _, ?_⟩, ?_⟩
  · intro p hp q hq
    simp only [List.mem_singleton] at hp
    have := (List.mem_filter.1 hq).2
    simp only [decide_eq_true_iff] at this
    rw [hp]
    show ¬ q.1 < ky
    omega
  · intro p hp q hq
    have h1 := (List.mem_filter.1 hp).2
    simp only [decide_eq_true_iff] at h1
    rcases List.mem_append.1 hq with h2 | h2
    · simp only [List.mem_singleton] at h2
      rw [h2]
      show ¬ ky < p.1
      omega
    · have := (List.mem_filter.1 h2).2
      simp only [decide_eq_true_iff] at this
      omega
theorem fo_put (hk : k < Q.length) (hx : Q.getD k (0, 0) = (ky, vl)) (hQ : (Q.map fun z : Pr => z.1).Nodup) (h : Fo P Q k F) (hin : ¬ 0 ≤ atf (fun z : Pr => z.1) F ky) : Fo P Q (k + 1) (putP F ky vl) := by
  have h1 : ky ∉ F.map fun z : Pr => z.1 := fun hm => hin (atf_mem.2 hm)
  have h2 : ky ∉ P.map fun z : Pr => z.1 := fun hm => h1 ((keys_of h).2 (.inl hm))
  have h3 : atf (fun z : Pr => z.1) P ky < 0 := by
    have : ¬ 0 ≤ atf (fun z : Pr => z.1) P ky := fun hh => h2 (atf_mem.1 hh)
    omega
  refine ⟨?_, put_sorted h.2⟩
  rw [missing_succ hk hx, if_pos h3, ← List.append_assoc]
  exact (put_perm h1).trans (h.1.append_right _)
theorem fo_len (h : Fo P Q k F) : F.length ≤ P.length + Q.length := by
  rw [h.1.length_eq, List.length_append]
  have h1 : (missing P (Q.take k)).length ≤ (Q.take k).length := List.length_filter_le _ _
  have h2 : (Q.take k).length ≤ Q.length := by simp; omega
  omega
end
/-- Edges of which the first k are moved. -/
def mvK (b a : Int) (E : List Ed) (k : Nat) : List Ed := (E.take k).map (mvE b a) ++ E.drop k
theorem mvK_len (b a : Int) (E : List Ed) (k : Nat) : (mvK b a E k).length = E.length := by simp [mvK]; omega
theorem mvK_at {b a : Int} {E : List Ed} {k : Nat} (hk : k < E.length) : (mvK b a E k).getD k (0, 0, 0) = E.getD k (0, 0, 0) := by
  unfold mvK
  rw [List.getD_eq_getElem?_getD, List.getElem?_append_right (by simp; omega)]
  have e : k - ((E.take k).map (mvE b a)).length = 0 := by simp; omega
  rw [e]
  simp [List.getD_eq_getElem?_getD]
theorem mvK_succ {b a : Int} {E : List Ed} {k : Nat} (hk : k < E.length) : (mvK b a E k).set k (mvE b a (E.getD k (0, 0, 0))) = mvK b a E (k + 1) := by
  apply List.ext_getElem?
  intro j
  unfold mvK
  by_cases h1 : j < k
  · rw [List.getElem?_set_ne (by omega), List.getElem?_append_left (by simp; omega), List.getElem?_append_left (by simp; omega)]
    simp [h1, show j < k + 1 by omega]
  · by_cases h2 : j = k
    · subst h2
      rw [List.getElem?_set_self (by simp; omega), List.getElem?_append_left (by simp; omega)]
      simp [hk, List.getD_eq_getElem?_getD]
    · rw [List.getElem?_set_ne (by omega), List.getElem?_append_right (by simp; omega), List.getElem?_append_right (by simp; omega)]
      simp only [List.length_map, List.length_take, List.getElem?_drop]
      congr 1
      omega
theorem mvK_all (b a : Int) (E : List Ed) : mvK b a E E.length = E.map (mvE b a) := by simp [mvK]
theorem mvK_zero (b a : Int) (E : List Ed) : mvK b a E 0 = E := by simp [mvK]
theorem flat3_set1 : ∀ (E : List Ed) (k : Nat) (z : Int), k < E.length → (flat3 E).set (k * 3 + 1) z = flat3 (E.set k ((E.getD k (0, 0, 0)).1, z, (E.getD k (0, 0, 0)).2.2))
  | [], k, z, h => by simp at h
  | p :: l, 0, z, _ => by simp [flat3]
  | p :: l, k + 1, z, h => by
    have := flat3_set1 l k z (by simpa using h)
    have e : (k + 1) * 3 + 1 = (k * 3 + 1) + 3 := by omega
    rw [e]
    simpa [flat3] using this
theorem flat3_set2 : ∀ (E : List Ed) (k : Nat) (z : Int), k < E.length → (flat3 E).set (k * 3 + 2) z = flat3 (E.set k ((E.getD k (0, 0, 0)).1, (E.getD k (0, 0, 0)).2.1, z))
  | [], k, z, h => by simp at h
  | p :: l, 0, z, _ => by simp [flat3]
  | p :: l, k + 1, z, h => by
    have := flat3_set2 l k z (by simpa using h)
    have e : (k + 1) * 3 + 2 = (k * 3 + 2) + 3 := by omega
    rw [e]
    simpa [flat3] using this
end Go.Proofs.YtiiadkjiofkonaaGreat

namespace Go.Proofs.YtiiadkjiofkonaaGreat
set_option linter.unusedVariables false
theorem rise_pw {α : Type} {f : α → Int} {d : α} {l : List α} : Rise f d l ↔ (l.map f).Pairwise (· < ·) := by
  rw [List.pairwise_iff_getElem]
  constructor
  · intro h i j hi hj hij
    simp only [List.length_map] at hi hj
    have := h.lt j i hij hj
    rw [getD_get hi, getD_get hj] at this
    simpa using this
  · intro h i hi
    have := h i (i + 1) (by simp; omega) (by simp; omega) (by omega)
    rw [getD_get (show i < l.length by omega), getD_get hi]
    simpa using this
theorem all_get {α : Type} {d : α} {l : List α} {P : α → Prop} : (∀ i, i < l.length → P (l.getD i d)) ↔ ∀ z ∈ l, P z := by
  constructor
  · intro h z hz
    obtain ⟨i, hi, rfl⟩ := List.getElem_of_mem hz
    have := h i hi
    rwa [getD_get hi] at this
  · intro h i hi
    rw [getD_get hi]
    exact h _ (List.getElem_mem hi)
/-- The numbers of nodes, and of edges, as they must be. -/
structure Nok (R : GL) : Prop where
  pr : ∀ z ∈ R.N, (z.2.map fun q : Pr => q.1).Pairwise (· < ·)
  up : (R.N.map fun z : Nd => z.1).Pairwise (· < ·)
  lo : ∀ z ∈ R.N, 1 ≤ z.1 ∧ z.1 < R.x
structure Eok (R : GL) : Prop where
  en : ∀ e ∈ R.E, e.2.1 ∈ (R.N.map fun z : Nd => z.1) ∧ e.2.2 ∈ (R.N.map fun z : Nd => z.1)
  up : (R.E.map fun z : Ed => z.1).Pairwise (· < ·)
  lo : ∀ e ∈ R.E, 1 ≤ e.1 ∧ e.1 < R.y
theorem nok_iff {R : GL} : NodesOk R ↔ Nok R := by
  unfold NodesOk
  rw [all_get (d := ((0, []) : Nd)) (P := fun z : Nd => Rise (fun q : Pr => q.1) (0, 0) z.2), rise_pw, all_get (d := ((0, []) : Nd)) (P := fun z : Nd => 1 ≤ z.1 ∧ z.1 < R.x)]
  exact ⟨fun ⟨h1, h2, h3⟩ => ⟨fun z hz => rise_pw.1 (h1 z hz), h2, h3⟩, fun h => ⟨fun z hz => rise_pw.2 (h.pr z hz), h.up, h.lo⟩⟩
theorem eok_iff {R : GL} : EdgesOk R ↔ Eok R := by
  unfold EdgesOk
  rw [all_get (d := ((0, 0, 0) : Ed)) (P := fun e : Ed => isN R e.2.1 = true ∧ isN R e.2.2 = true), rise_pw, all_get (d := ((0, 0, 0) : Ed)) (P := fun e : Ed => 1 ≤ e.1 ∧ e.1 < R.y)]
  exact ⟨fun ⟨h1, h2, h3⟩ => ⟨fun e he => ⟨isN_iff.1 (h1 e he).1, isN_iff.1 (h1 e he).2⟩, h2, h3⟩, fun h => ⟨fun e he => ⟨isN_iff.2 (h.en e he).1, isN_iff.2 (h.en e he).2⟩, h.up, h.lo⟩⟩
/-- What comes of a graph that may be. -/
structure Good (c3 c4 : Int) (G R : GL) : Prop where
  n : Nok R
  e : Eok R
  x : G.x ≤ R.x ∧ R.x ≤ c3 + 1
  y : G.y ≤ R.y ∧ R.y ≤ c4 + 1
section
variable {c0 c1 c2 c3 c4 : Int} {G R : GL}
theorem Okg.parts (o : Okg c0 c1 c2 c3 c4 G) : Nok G ∧ Eok G ∧ (1 ≤ G.x ∧ G.x ≤ c3 + 1) ∧ (1 ≤ G.y ∧ G.y ≤ c4 + 1) :=
  ⟨nok_iff.1 ⟨o.pr, o.nr, o.n0⟩, eok_iff.1 ⟨o.ee, o.er, o.e0⟩, o.x, o.y⟩
theorem Good.may (o : Okg c0 c1 c2 c3 c4 G) (h : Good c3 c4 G R) (hn : R.N.length ≤ 64) (he : R.E.length ≤ 64) (hp : propsN R.N R.N.length ≤ 64) : Okg 64 64 64 c3 c4 R := by
  refine okg_parts.2 ⟨?_, ?_, nok_iff.2 h.n, eok_iff.2 h.e⟩
  · obtain ⟨_, _, _, h1, h2⟩ := o.cfg
    exact ⟨by omega, by omega, by omega, h1, h2⟩
  · have := o.x
    have := o.y
    have := h.x
    have := h.y
    exact ⟨by omega, by omega, by omega, by omega, by omega⟩
theorem pw_snoc {l : List Int} {x : Int} (h : l.Pairwise (· < ·)) (hx : ∀ z ∈ l, z < x) : (l ++ [x]).Pairwise (· < ·) := by
  rw [List.pairwise_append]
  exact ⟨h, List.pairwise_singleton _ _, fun a ha b hb => by simp only [List.mem_singleton] at hb; rw [hb]; exact hx a ha⟩
theorem good_add {i : Int} (o : Okg c0 c1 c2 c3 c4 G) (hr : addR c3 G = (i, 0, R)) : Good c3 c4 G R := by
  unfold addR at hr
  split at hr
  · simp at hr
  · rename_i hx
    simp only [Prod.mk.injEq, true_and] at hr
    rw [← hr.2]
    obtain ⟨n, e, x, y⟩ := o.parts
    refine ⟨⟨?_, ?_, ?_⟩, ⟨?_, e.up, e.lo⟩, ⟨by simp only [addG]; omega, by simp only [addG]; omega⟩, ⟨Int.le_refl _, y.2⟩⟩
    · intro z hz
      rcases List.mem_append.1 hz with h | h
      · exact n.pr z h
      · simp only [List.mem_singleton] at h; rw [h]; exact List.Pairwise.nil
    · simp only [addG, List.map_append, List.map_cons, List.map_nil]
      refine pw_snoc n.up fun z hz => ?_
      obtain ⟨d, hd, rfl⟩ := List.mem_map.1 hz
      exact (n.lo d hd).2
    · intro z hz
      rcases List.mem_append.1 hz with h | h
      · have := n.lo z h; simp only [addG]; omega
      · simp only [List.mem_singleton] at h; rw [h]; simp only [addG]; omega
    · intro d hd
      have h := e.en d hd
      simp only [addG, List.map_append, List.mem_append]
      exact ⟨.inl h.1, .inl h.2⟩
theorem good_link {a b i : Int} (o : Okg c0 c1 c2 c3 c4 G) (hr : linkR c4 G a b = (i, 0, R)) : Good c3 c4 G R := by
  unfold linkR at hr
  split at hr
  · simp at hr
  · rename_i hab
    split at hr
    · simp at hr
    · rename_i hy
      simp only [Prod.mk.injEq, true_and] at hr
      rw [← hr.2]
      obtain ⟨n, e, x, y⟩ := o.parts
      have ha : isN G a = true := by cases h : isN G a <;> simp_all
      have hb : isN G b = true := by cases h : isN G b <;> simp_all
      refine ⟨⟨n.pr, n.up, n.lo⟩, ⟨?_, ?_, ?_⟩, ⟨Int.le_refl _, x.2⟩, ⟨by simp only [linkG]; omega, by simp only [linkG]; omega⟩⟩
      · intro d hd
        rcases List.mem_append.1 hd with h | h
        · exact e.en d h
        · simp only [List.mem_singleton] at h; rw [h]; exact ⟨isN_iff.1 ha, isN_iff.1 hb⟩
      · simp only [linkG, List.map_append, List.map_cons, List.map_nil]
        refine pw_snoc e.up fun z hz => ?_
        obtain ⟨d, hd, rfl⟩ := List.mem_map.1 hz
        exact (e.lo d hd).2
      · intro d hd
        rcases List.mem_append.1 hd with h | h
        · have := e.lo d h; simp only [linkG]; omega
        · simp only [List.mem_singleton] at h; rw [h]; simp only [linkG]; omega
theorem pw_filter {α : Type} {f : α → Int} {l : List α} {p : α → Bool} (h : (l.map f).Pairwise (· < ·)) : ((l.filter p).map f).Pairwise (· < ·) := h.sublist ((List.filter_sublist).map f)
theorem good_cut {a : Int} (o : Okg c0 c1 c2 c3 c4 G) (hr : cutR G a = (0, R)) : Good c3 c4 G R := by
  unfold cutR at hr
  split at hr
  · simp at hr
  · simp only [Prod.mk.injEq, true_and] at hr
    rw [← hr]
    obtain ⟨n, e, x, y⟩ := o.parts
    exact ⟨⟨n.pr, n.up, n.lo⟩, ⟨fun d hd => e.en d (List.mem_filter.1 hd).1, pw_filter e.up, fun d hd => e.lo d (List.mem_filter.1 hd).1⟩, ⟨Int.le_refl _, x.2⟩, ⟨Int.le_refl _, y.2⟩⟩
theorem good_drop {a : Int} (o : Okg c0 c1 c2 c3 c4 G) (hr : dropR G a = (0, R)) : Good c3 c4 G R := by
  unfold dropR at hr
  split at hr
  · simp at hr
  · simp only [Prod.mk.injEq, true_and] at hr
    rw [← hr]
    obtain ⟨n, e, x, y⟩ := o.parts
    refine ⟨⟨fun z hz => n.pr z (List.mem_filter.1 hz).1, pw_filter n.up, fun z hz => n.lo z (List.mem_filter.1 hz).1⟩, ⟨fun d hd => ?_, pw_filter e.up, fun d hd => e.lo d (List.mem_filter.1 hd).1⟩, ⟨Int.le_refl _, x.2⟩, ⟨Int.le_refl _, y.2⟩⟩
    obtain ⟨h1, h2⟩ := List.mem_filter.1 hd
    simp only [Bool.and_eq_true, bne_iff_ne] at h2
    have h3 := e.en d h1
    have keep : ∀ t : Int, t ∈ (G.N.map fun z : Nd => z.1) → t ≠ a → t ∈ ((dropG a G).N.map fun z : Nd => z.1) := fun t ht hta => by
      obtain ⟨z, hz, rfl⟩ := List.mem_map.1 ht
      exact List.mem_map.2 ⟨z, List.mem_filter.2 ⟨hz, by simpa using hta⟩, rfl⟩
    exact ⟨keep _ h3.1 h2.1, keep _ h3.2 h2.2⟩
theorem good_setN {i : Nat} {l : List Pr} (o : Okg c0 c1 c2 c3 c4 G) (hl : (l.map fun q : Pr => q.1).Pairwise (· < ·)) : Good c3 c4 G (setN G i l) := by
  obtain ⟨n, e, x, y⟩ := o.parts
  have hm : ∀ z ∈ (setN G i l).N, (z ∈ G.N ∨ z = ((G.N.getD i (0, [])).1, l)) := fun z hz => List.mem_or_eq_of_mem_set hz
  refine ⟨⟨fun z hz => ?_, by rw [ids_setN]; exact n.up, fun z hz => ?_⟩, ⟨fun d hd => by rw [ids_setN]; exact e.en d hd, e.up, e.lo⟩, ⟨Int.le_refl _, x.2⟩, ⟨Int.le_refl _, y.2⟩⟩
  · rcases hm z hz with h | h
    · exact n.pr z h
    · rw [h]; exact hl
  · have h1 : z.1 ∈ ((setN G i l).N.map fun z : Nd => z.1) := List.mem_map.2 ⟨z, hz, rfl⟩
    rw [ids_setN] at h1
    obtain ⟨d, hd, h2⟩ := List.mem_map.1 h1
    have := n.lo d hd
    show 1 ≤ z.1 ∧ z.1 < G.x
    omega
theorem prs_pw (o : Okg c0 c1 c2 c3 c4 G) (i : Nat) : ((prsAt G i).map fun q : Pr => q.1).Pairwise (· < ·) := by
  by_cases h : i < G.N.length
  · exact rise_pw.1 (o.pr i h)
  · have e : prsAt G i = [] := by unfold prsAt; rw [List.getD_eq_getElem?_getD, List.getElem?_eq_none (by omega)]; rfl
    rw [e]
    exact List.Pairwise.nil
theorem put_pw {l : List Pr} {k v : Int} (h : (l.map fun q : Pr => q.1).Pairwise (· < ·)) : ((putP l k v).map fun q : Pr => q.1).Pairwise (· < ·) := by
  unfold putP
  rw [List.append_assoc, List.map_append, List.map_append, List.pairwise_append, List.pairwise_append]
  refine ⟨pw_filter h, ⟨List.pairwise_singleton _ _, pw_filter h, ?_⟩, ?_⟩
  · intro p hp q hq
    simp only [List.map_cons, List.map_nil, List.mem_singleton] at hp
    obtain ⟨d, hd, rfl⟩ := List.mem_map.1 hq
    have := (List.mem_filter.1 hd).2
    simp only [decide_eq_true_iff] at this
    omega
  · intro p hp q hq
    obtain ⟨d, hd, rfl⟩ := List.mem_map.1 hp
    have h1 := (List.mem_filter.1 hd).2
    simp only [decide_eq_true_iff] at h1
    rcases List.mem_append.1 hq with h2 | h2
    · simp only [List.map_cons, List.map_nil, List.mem_singleton] at h2
      omega
    · obtain ⟨d2, hd2, rfl⟩ := List.mem_map.1 h2
      have := (List.mem_filter.1 hd2).2
      simp only [decide_eq_true_iff] at this
      omega
theorem good_set {a k v : Int} (o : Okg c0 c1 c2 c3 c4 G) (hr : setR G a k v = (0, R)) : Good c3 c4 G R := by
  unfold setR at hr
  split at hr
  · simp at hr
  · simp only [Prod.mk.injEq, true_and] at hr
    rw [← hr]
    exact good_setN o (put_pw (prs_pw o _))
theorem good_del {a k : Int} (o : Okg c0 c1 c2 c3 c4 G) (hr : delR G a k = (0, R)) : Good c3 c4 G R := by
  unfold delR at hr
  split at hr
  · simp at hr
  · simp only [Prod.mk.injEq, true_and] at hr
    rw [← hr]
    exact good_setN o (pw_filter (prs_pw o _))
theorem good_fuse {a b : Int} {M : List Pr} (o : Okg c0 c1 c2 c3 c4 G) (hM : (M.map fun q : Pr => q.1).Pairwise (· < ·)) (hr : fuseR G a b M = (0, R)) : Good c3 c4 G R := by
  unfold fuseR at hr
  split at hr
  · simp at hr
  · rename_i hab
    split at hr
    · simp at hr
    · rename_i hn
      simp only [Prod.mk.injEq, true_and] at hr
      rw [← hr]
      have S := good_setN (i := posN G a) o hM
      have ha : a ∈ G.N.map fun z : Nd => z.1 := atf_mem.1 (by omega)
      obtain ⟨n, e, x, y⟩ := o.parts
      have keep : ∀ t : Int, t ∈ (G.N.map fun z : Nd => z.1) → mv b a t ∈ ((fuseG a b M G).N.map fun z : Nd => z.1) := fun t ht => by
        have h1 : ∀ u : Int, u ∈ (G.N.map fun z : Nd => z.1) → u ≠ b → u ∈ ((fuseG a b M G).N.map fun z : Nd => z.1) := fun u hu hub => by
          rw [← ids_setN G (posN G a) M] at hu
          obtain ⟨z, hz, rfl⟩ := List.mem_map.1 hu
          exact List.mem_map.2 ⟨z, List.mem_filter.2 ⟨hz, by simpa using hub⟩, rfl⟩
        unfold mv
        by_cases h : t = b
        · rw [if_pos h]; exact h1 a ha hab
        · rw [if_neg h]; exact h1 t ht h
      refine ⟨⟨fun z hz => S.n.pr z (List.mem_filter.1 hz).1, pw_filter S.n.up, fun z hz => S.n.lo z (List.mem_filter.1 hz).1⟩, ⟨fun d hd => ?_, ?_, fun d hd => ?_⟩, ⟨Int.le_refl _, x.2⟩, ⟨Int.le_refl _, y.2⟩⟩
      · obtain ⟨c, hc, rfl⟩ := List.mem_map.1 hd
        have := e.en c hc
        exact ⟨keep _ this.1, keep _ this.2⟩
      · simp only [fuseG, List.map_map]
        exact e.up
      · obtain ⟨c, hc, rfl⟩ := List.mem_map.1 hd
        exact e.lo c hc
/-- The properties of both, joined: their keys rise. -/
theorem both_pw {P Q M : List Pr} (hP : Rise (fun z : Pr => z.1) (0, 0) P) (hQ : Rise (fun z : Pr => z.1) (0, 0) Q) (hp : M.Perm (P ++ missing P Q)) (hs : M.Pairwise fun p q => ¬ q.1 < p.1) : (M.map fun q : Pr => q.1).Pairwise (· < ·) := by
  have hd : (M.map fun q : Pr => q.1).Nodup := (hp.map _).nodup_iff.2 (both_apart hP hQ)
  rw [List.pairwise_map]
  rw [List.Nodup, List.pairwise_map] at hd
  exact (hs.and hd).imp fun ⟨h1, h2⟩ => by omega
end
end Go.Proofs.YtiiadkjiofkonaaGreat
