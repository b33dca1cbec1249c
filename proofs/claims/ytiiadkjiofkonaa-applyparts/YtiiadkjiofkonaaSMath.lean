/- Plain mathematics: what comes of a graph that may be may be. No program, no conditions. -/
import Derived.Test.YtiiadkjiofkonaaFMath
import Derived.Test.YtiiadkjiofkonaaGCheck
import Derived.Test.YtiiadkjiofkonaaGAdd
namespace Go.Proofs.Ytiiadkjiofkonaa
set_option linter.unusedVariables false
theorem rise_pw {α : Type} {f : α → Int} {d : α} {l : List α} : Rise f d l ↔ (l.map f).Pairwise (· < ·) := by
  rw [List.pairwise_iff_getElem]
  constructor
  · intro h i j hi hj hij
    simp only [List.length_map] at hi hj
    have := h.lt j i hij hj
    rw [getD_get hi, getD_get hj] at this
    simpa using this
  · intro h i hi
    have := h i (i + 1) (by simp; omega) (by simp; omega) (by omega)
    rw [getD_get (show i < l.length by omega), getD_get hi]
    simpa using this
theorem all_get {α : Type} {d : α} {l : List α} {P : α → Prop} : (∀ i, i < l.length → P (l.getD i d)) ↔ ∀ z ∈ l, P z := by
  constructor
  · intro h z hz
    obtain ⟨i, hi, rfl⟩ := List.getElem_of_mem hz
    have := h i hi
    rwa [getD_get hi] at this
  · intro h i hi
    rw [getD_get hi]
    exact h _ (List.getElem_mem hi)
/-- The numbers of nodes, and of edges, as they must be. -/
structure Nok (R : GL) : Prop where
  pr : ∀ z ∈ R.N, (z.2.map fun q : Pr => q.1).Pairwise (· < ·)
  up : (R.N.map fun z : Nd => z.1).Pairwise (· < ·)
  lo : ∀ z ∈ R.N, 1 ≤ z.1 ∧ z.1 < R.x
structure Eok (R : GL) : Prop where
  en : ∀ e ∈ R.E, e.2.1 ∈ (R.N.map fun z : Nd => z.1) ∧ e.2.2 ∈ (R.N.map fun z : Nd => z.1)
  up : (R.E.map fun z : Ed => z.1).Pairwise (· < ·)
  lo : ∀ e ∈ R.E, 1 ≤ e.1 ∧ e.1 < R.y
theorem nok_iff {R : GL} : NodesOk R ↔ Nok R := by
  unfold NodesOk
  rw [all_get (d := ((0, []) : Nd)) (P := fun z : Nd => Rise (fun q : Pr => q.1) (0, 0) z.2), rise_pw, all_get (d := ((0, []) : Nd)) (P := fun z : Nd => 1 ≤ z.1 ∧ z.1 < R.x)]
  exact ⟨fun ⟨h1, h2, h3⟩ => ⟨fun z hz => rise_pw.1 (h1 z hz), h2, h3⟩, fun h => ⟨fun z hz => rise_pw.2 (h.pr z hz), h.up, h.lo⟩⟩
theorem eok_iff {R : GL} : EdgesOk R ↔ Eok R := by
  unfold EdgesOk
  rw [all_get (d := ((0, 0, 0) : Ed)) (P := fun e : Ed => isN R e.2.1 = true ∧ isN R e.2.2 = true), rise_pw, all_get (d := ((0, 0, 0) : Ed)) (P := fun e : Ed => 1 ≤ e.1 ∧ e.1 < R.y)]
  exact ⟨fun ⟨h1, h2, h3⟩ => ⟨fun e he => ⟨isN_iff.1 (h1 e he).1, isN_iff.1 (h1 e he).2⟩, h2, h3⟩, fun h => ⟨fun e he => ⟨isN_iff.2 (h.en e he).1, isN_iff.2 (h.en e he).2⟩, h.up, h.lo⟩⟩
/-- What comes of a graph that may be. -/
structure Good (c3 c4 : Int) (G R : GL) : Prop where
  n : Nok R
  e : Eok R
  x : G.x ≤ R.x ∧ R.x ≤ c3 + 1
  y : G.y ≤ R.y ∧ R.y ≤ c4 + 1
section
variable {c0 c1 c2 c3 c4 : Int} {G R : GL}
theorem Okg.parts (o : Okg c0 c1 c2 c3 c4 G) : Nok G ∧ Eok G ∧ (1 ≤ G.x ∧ G.x ≤ c3 + 1) ∧ (1 ≤ G.y ∧ G.y ≤ c4 + 1) :=
  ⟨nok_iff.1 ⟨o.pr, o.nr, o.n0⟩, eok_iff.1 ⟨o.ee, o.er, o.e0⟩, o.x, o.y⟩
theorem Good.may (o : Okg c0 c1 c2 c3 c4 G) (h : Good c3 c4 G R) (hn : R.N.length ≤ 64) (he : R.E.length ≤ 64) (hp : propsN R.N R.N.length ≤ 64) : Okg 64 64 64 c3 c4 R := by
  refine okg_parts.2 ⟨?_, ?_, nok_iff.2 h.n, eok_iff.2 h.e⟩
  · obtain ⟨_, _, _, h1, h2⟩ := o.cfg
    exact ⟨by omega, by omega, by omega, h1, h2⟩
  · have := o.x
    have := o.y
    have := h.x
    have := h.y
    exact ⟨by omega, by omega, by omega, by omega, by omega⟩
theorem pw_snoc {l : List Int} {x : Int} (h : l.Pairwise (· < ·)) (hx : ∀ z ∈ l, z < x) : (l ++ [x]).Pairwise (· < ·) := by
  rw [List.pairwise_append]
  exact ⟨h, List.pairwise_singleton _ _, fun a ha b hb => by simp only [List.mem_singleton] at hb; rw [hb]; exact hx a ha⟩
theorem good_add {i : Int} (o : Okg c0 c1 c2 c3 c4 G) (hr : addR c3 G = (i, 0, R)) : Good c3 c4 G R := by
  unfold addR at hr
  split at hr
  · simp at hr
  · rename_i hx
    simp only [Prod.mk.injEq, true_and] at hr
    rw [← hr.2]
    obtain ⟨n, e, x, y⟩ := o.parts
    refine ⟨⟨?_, ?_, ?_⟩, ⟨?_, e.up, e.lo⟩, ⟨by simp only [addG]; omega, by simp only [addG]; omega⟩, ⟨Int.le_refl _, y.2⟩⟩
    · intro z hz
      rcases List.mem_append.1 hz with h | h
      · exact n.pr z h
      · simp only [List.mem_singleton] at h; rw [h]; exact List.Pairwise.nil
    · simp only [addG, List.map_append, List.map_cons, List.map_nil]
      refine pw_snoc n.up fun z hz => ?_
      obtain ⟨d, hd, rfl⟩ := List.mem_map.1 hz
      exact (n.lo d hd).2
    · intro z hz
      rcases List.mem_append.1 hz with h | h
      · have := n.lo z h; simp only [addG]; omega
      · simp only [List.mem_singleton] at h; rw [h]; simp only [addG]; omega
    · intro d hd
      have h := e.en d hd
      simp only [addG, List.map_append, List.mem_append]
      exact ⟨.inl h.1, .inl h.2⟩
theorem good_link {a b i : Int} (o : Okg c0 c1 c2 c3 c4 G) (hr : linkR c4 G a b = (i, 0, R)) : Good c3 c4 G R := by
  unfold linkR at hr
  split at hr
  · simp at hr
  · rename_i hab
    split at hr
    · simp at hr
    · rename_i hy
      simp only [Prod.mk.injEq, true_and] at hr
      rw [← hr.2]
      obtain ⟨n, e, x, y⟩ := o.parts
      have ha : isN G a = true := by cases h : isN G a <;> simp_all
      have hb : isN G b = true := by cases h : isN G b <;> simp_all
      refine ⟨⟨n.pr, n.up, n.lo⟩, ⟨?_, ?_, ?_⟩, ⟨Int.le_refl _, x.2⟩, ⟨by simp only [linkG]; omega, by simp only [linkG]; omega⟩⟩
      · intro d hd
        rcases List.mem_append.1 hd with h | h
        · exact e.en d h
        · simp only [List.mem_singleton] at h; rw [h]; exact ⟨isN_iff.1 ha, isN_iff.1 hb⟩
      · simp only [linkG, List.map_append, List.map_cons, List.map_nil]
        refine pw_snoc e.up fun z hz => ?_
        obtain ⟨d, hd, rfl⟩ := List.mem_map.1 hz
        exact (e.lo d hd).2
      · intro d hd
        rcases List.mem_append.1 hd with h | h
        · have := e.lo d h; simp only [linkG]; omega
        · simp only [List.mem_singleton] at h; rw [h]; simp only [linkG]; omega
theorem pw_filter {α : Type} {f : α → Int} {l : List α} {p : α → Bool} (h : (l.map f).Pairwise (· < ·)) : ((l.filter p).map f).Pairwise (· < ·) := h.sublist ((List.filter_sublist).map f)
theorem good_cut {a : Int} (o : Okg c0 c1 c2 c3 c4 G) (hr : cutR G a = (0, R)) : Good c3 c4 G R := by
  unfold cutR at hr
  split at hr
  · simp at hr
  · simp only [Prod.mk.injEq, true_and] at hr
    rw [← hr]
    obtain ⟨n, e, x, y⟩ := o.parts
    exact ⟨⟨n.pr, n.up, n.lo⟩, ⟨fun d hd => e.en d (List.mem_filter.1 hd).1, pw_filter e.up, fun d hd => e.lo d (List.mem_filter.1 hd).1⟩, ⟨Int.le_refl _, x.2⟩, ⟨Int.le_refl _, y.2⟩⟩
theorem good_drop {a : Int} (o : Okg c0 c1 c2 c3 c4 G) (hr : dropR G a = (0, R)) : Good c3 c4 G R := by
  unfold dropR at hr
  split at hr
  · simp at hr
  · simp only [Prod.mk.injEq, true_and] at hr
    rw [← hr]
    obtain ⟨n, e, x, y⟩ := o.parts
    refine ⟨⟨fun z hz => n.pr z (List.mem_filter.1 hz).1, pw_filter n.up, fun z hz => n.lo z (List.mem_filter.1 hz).1⟩, ⟨fun d hd => ?_, pw_filter e.up, fun d hd => e.lo d (List.mem_filter.1 hd).1⟩, ⟨Int.le_refl _, x.2⟩, ⟨Int.le_refl _, y.2⟩⟩
    obtain ⟨h1, h2⟩ := List.mem_filter.1 hd
    simp only [Bool.and_eq_true, bne_iff_ne] at h2
    have h3 := e.en d h1
    have keep : ∀ t : Int, t ∈ (G.N.map fun z : Nd => z.1) → t ≠ a → t ∈ ((dropG a G).N.map fun z : Nd => z.1) := fun t ht hta => by
      obtain ⟨z, hz, rfl⟩ := List.mem_map.1 ht
      exact List.mem_map.2 ⟨z, List.mem_filter.2 ⟨hz, by simpa using hta⟩, rfl⟩
    exact ⟨keep _ h3.1 h2.1, keep _ h3.2 h2.2⟩
theorem good_setN {i : Nat} {l : List Pr} (o : Okg c0 c1 c2 c3 c4 G) (hl : (l.map fun q : Pr => q.1).Pairwise (· < ·)) : Good c3 c4 G (setN G i l) := by
  obtain ⟨n, e, x, y⟩ := o.parts
  have hm : ∀ z ∈ (setN G i l).N, (z ∈ G.N ∨ z = ((G.N.getD i (0, [])).1, l)) := fun z hz => List.mem_or_eq_of_mem_set hz
  refine ⟨⟨fun z hz => ?_, by rw [ids_setN]; exact n.up, fun z hz => ?_⟩, ⟨fun d hd => by rw [ids_setN]; exact e.en d hd, e.up, e.lo⟩, ⟨Int.le_refl _, x.2⟩, ⟨Int.le_refl _, y.2⟩⟩
  · rcases hm z hz with h | h
    · exact n.pr z h
    · rw [h]; exact hl
  · have h1 : z.1 ∈ ((setN G i l).N.map fun z : Nd => z.1) := List.mem_map.2 ⟨z, hz, rfl⟩
    rw [ids_setN] at h1
    obtain ⟨d, hd, h2⟩ := List.mem_map.1 h1
    have := n.lo d hd
    show 1 ≤ z.1 ∧ z.1 < G.x
    omega
theorem prs_pw (o : Okg c0 c1 c2 c3 c4 G) (i : Nat) : ((prsAt G i).map fun q : Pr => q.1).Pairwise (· < ·) := by
  by_cases h : i < G.N.length
  · exact rise_pw.1 (o.pr i h)
  · have e : prsAt G i = [] := by unfold prsAt; rw [List.getD_eq_getElem?_getD, List.getElem?_eq_none (by omega)]; rfl
    rw [e]
    exact List.Pairwise.nil
theorem put_pw {l : List Pr} {k v : Int} (h : (l.map fun q : Pr => q.1).Pairwise (· < ·)) : ((putP l k v).map fun q : Pr => q.1).Pairwise (· < ·) := by
  unfold putP
  rw [List.append_assoc, List.map_append, List.map_append, List.pairwise_append, List.pairwise_append]
  refine ⟨pw_filter h, ⟨List.pairwise_singleton _ _, pw_filter h, ?_⟩, ?_⟩
  · intro p hp q hq
    simp only [List.map_cons, List.map_nil, List.mem_singleton] at hp
    obtain ⟨d, hd, rfl⟩ := List.mem_map.1 hq
    have := (List.mem_filter.1 hd).2
    simp only [decide_eq_true_iff] at this
    omega
  · intro p hp q hq
    obtain ⟨d, hd, rfl⟩ := List.mem_map.1 hp
    have h1 := (List.mem_filter.1 hd).2
    simp only [decide_eq_true_iff] at h1
    rcases List.mem_append.1 hq with h2 | h2
    · simp only [List.map_cons, List.map_nil, List.mem_singleton] at h2
      omega
    · obtain ⟨d2, hd2, rfl⟩ := List.mem_map.1 h2
      have := (List.mem_filter.1 hd2).2
      simp only [decide_eq_true_iff] at this
      omega
theorem good_set {a k v : Int} (o : Okg c0 c1 c2 c3 c4 G) (hr : setR G a k v = (0, R)) : Good c3 c4 G R := by
  unfold setR at hr
  split at hr
  · simp at hr
  · simp only [Prod.mk.injEq, true_and] at hr
    rw [← hr]
    exact good_setN o (put_pw (prs_pw o _))
theorem good_del {a k : Int} (o : Okg c0 c1 c2 c3 c4 G) (hr : delR G a k = (0, R)) : Good c3 c4 G R := by
  unfold delR at hr
  split at hr
  · simp at hr
  · simp only [Prod.mk.injEq, true_and] at hr
    rw [← hr]
    exact good_setN o (pw_filter (prs_pw o _))
theorem good_fuse {a b : Int} {M : List Pr} (o : Okg c0 c1 c2 c3 c4 G) (hM : (M.map fun q : Pr => q.1).Pairwise (· < ·)) (hr : fuseR G a b M = (0, R)) : Good c3 c4 G R := by
  unfold fuseR at hr
  split at hr
  · simp at hr
  · rename_i hab
    split at hr
    · simp at hr
    · rename_i hn
      simp only [Prod.mk.injEq, true_and] at hr
      rw [← hr]
      have S := good_setN (i := posN G a) o hM
      have ha : a ∈ G.N.map fun z : Nd => z.1 := atf_mem.1 (by omega)
      obtain ⟨n, e, x, y⟩ := o.parts
      have keep : ∀ t : Int, t ∈ (G.N.map fun z : Nd => z.1) → mv b a t ∈ ((fuseG a b M G).N.map fun z : Nd => z.1) := fun t ht => by
        have h1 : ∀ u : Int, u ∈ (G.N.map fun z : Nd => z.1) → u ≠ b → u ∈ ((fuseG a b M G).N.map fun z : Nd => z.1) := fun u hu hub => by
          rw [← ids_setN G (posN G a) M] at hu
          obtain ⟨z, hz, rfl⟩ := List.mem_map.1 hu
          exact List.mem_map.2 ⟨z, List.mem_filter.2 ⟨hz, by simpa using hub⟩, rfl⟩
        unfold mv
        by_cases h : t = b
        · rw [if_pos h]; exact h1 a ha hab
        · rw [if_neg h]; exact h1 t ht h
      refine ⟨⟨fun z hz => S.n.pr z (List.mem_filter.1 hz).1, pw_filter S.n.up, fun z hz => S.n.lo z (List.mem_filter.1 hz).1⟩, ⟨fun d hd => ?_, ?_, fun d hd => ?_⟩, ⟨Int.le_refl _, x.2⟩, ⟨Int.le_refl _, y.2⟩⟩
      · obtain ⟨c, hc, rfl⟩ := List.mem_map.1 hd
        have := e.en c hc
        exact ⟨keep _ this.1, keep _ this.2⟩
      · simp only [fuseG, List.map_map]
        exact e.up
      · obtain ⟨c, hc, rfl⟩ := List.mem_map.1 hd
        exact e.lo c hc
/-- The properties of both, joined: their keys rise. -/
theorem both_pw {P Q M : List Pr} (hP : Rise (fun z : Pr => z.1) (0, 0) P) (hQ : Rise (fun z : Pr => z.1) (0, 0) Q) (hp : M.Perm (P ++ missing P Q)) (hs : M.Pairwise fun p q => ¬ q.1 < p.1) : (M.map fun q : Pr => q.1).Pairwise (· < ·) := by
  have hd : (M.map fun q : Pr => q.1).Nodup := (hp.map _).nodup_iff.2 (both_apart hP hQ)
  rw [List.pairwise_map]
  rw [List.Nodup, List.pairwise_map] at hd
  exact (hs.and hd).imp fun ⟨h1, h2⟩ => by omega
end
end Go.Proofs.Ytiiadkjiofkonaa
