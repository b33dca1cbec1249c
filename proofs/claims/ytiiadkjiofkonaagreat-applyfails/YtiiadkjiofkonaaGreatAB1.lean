/- Plain mathematics for layer 11: operations, results, and what an operation comes to on a graph. No program, no conditions. Plain mathematics for layer 11: how many there are behind an operation, and which record it takes. No program, no conditions. -/
import Derived.Test.YtiiadkjiofkonaaGreatAB7
import Derived.Test.YtiiadkjiofkonaaGreatGNear
import Derived.Test.YtiiadkjiofkonaaGreatAB8
namespace Go.Proofs.YtiiadkjiofkonaaGreat
set_option linter.unusedVariables false

/-- An operation, a result. -/
structure O5 where
  k : Int
  a : Int
  b : Int
  q : Int
  v : Int
structure RL where
  er : Int
  id : Int
  P : List Pr
  O : List Pr
  I : List Pr
def noO : O5 := ⟨0, 0, 0, 0, 0⟩
def noR : RL := ⟨0, 0, [], [], []⟩
/-- The properties of two nodes together, by their keys. -/
def fuseM (P Q : List Pr) : List Pr := (P ++ missing P Q).mergeSort fun p q => decide (p.1 ≤ q.1)
def fuseAt (G : GL) (a b : Int) : List Pr := fuseM (prsAt G (posN G a)) (prsAt G (posN G b))
/-- What an operation comes to, whatever is then told of the graph. -/
def inR (c3 c4 : Int) (G : GL) (o : O5) : GL × RL :=
  if o.k = 1 then ((addR c3 G).2.2, ⟨(addR c3 G).2.1, (addR c3 G).1, [], [], []⟩)
  else if o.k = 2 then ((linkR c4 G o.a o.b).2.2, ⟨(linkR c4 G o.a o.b).2.1, (linkR c4 G o.a o.b).1, [], [], []⟩)
  else if o.k = 3 then ((cutR G o.a).2, ⟨(cutR G o.a).1, 0, [], [], []⟩)
  else if o.k = 4 then ((setR G o.a o.q o.v).2, ⟨(setR G o.a o.q o.v).1, 0, [], [], []⟩)
  else if o.k = 5 then ((delR G o.a o.q).2, ⟨(delR G o.a o.q).1, 0, [], [], []⟩)
  else if o.k = 6 then (G, ⟨(getR G o.a).1, 0, (getR G o.a).2, [], []⟩)
  else if o.k = 7 then (G, ⟨(nearR G o.a).1, 0, [], (nearR G o.a).2.1, (nearR G o.a).2.2⟩)
  else if o.k = 8 then ((dropR G o.a).2, ⟨(dropR G o.a).1, 0, [], [], []⟩)
  else if o.k = 9 then ((fuseR G o.a o.b (fuseAt G o.a o.b)).2, ⟨(fuseR G o.a o.b (fuseAt G o.a o.b)).1, 0, [], [], []⟩)
  else (G, ⟨1, 0, [], [], []⟩)
def doR (c3 c4 : Int) (G : GL) (o : O5) : GL × RL := (if (inR c3 c4 G o).2.er = 0 then (inR c3 c4 G o).1 else G, (inR c3 c4 G o).2)
/-- Of which kind a record is taken. -/
def takesR (c3 c4 : Int) (G : GL) (o : O5) : Int :=
  if (inR c3 c4 G o).2.er = 0 then (if o.k = 1 then 1 else if o.k = 2 then 2 else if o.k = 4 then (if hasR G o.a o.q = true then 0 else 3) else 0) else 0
def newG0 : GL := ⟨[], [], 1, 1⟩
def allG (c3 c4 : Int) : GL → List O5 → GL
  | G, [] => G
  | G, o :: l => allG c3 c4 (doR c3 c4 G o).1 l
def allR (c3 c4 : Int) : GL → List O5 → List RL
  | _, [] => []
  | G, o :: l => (doR c3 c4 G o).2 :: allR c3 c4 (doR c3 c4 G o).1 l

/-- How many properties there are. -/
def tot (N : List Nd) : Nat := (N.map fun z => z.2.length).sum
theorem tot_snoc (N : List Nd) (z : Nd) : tot (N ++ [z]) = tot N + z.2.length := by simp [tot]
theorem tot_cons (N : List Nd) (z : Nd) : tot (z :: N) = z.2.length + tot N := by simp [tot]
theorem tot_filter (p : Nd → Bool) : ∀ N : List Nd, tot (N.filter p) ≤ tot N
  | [] => Nat.le_refl _
  | z :: N => by
    have := tot_filter p N
    rw [List.filter_cons]
    split
    · rw [tot_cons, tot_cons]; omega
    · rw [tot_cons]; omega
theorem tot_set : ∀ (N : List Nd) (i : Nat) (z : Nd), i < N.length → tot (N.set i z) + (N.getD i (0, [])).2.length = tot N + z.2.length
  | [], i, z, h => by simp at h
  | a :: N, 0, z, _ => by
    rw [List.set_cons_zero, tot_cons, tot_cons]
    simp only [List.getD_cons_zero]
    omega
  | a :: N, i + 1, z, h => by
    have := tot_set N i z (by simpa using h)
    rw [List.set_cons_succ, tot_cons, tot_cons]
    simp only [List.getD_cons_succ]
    omega
theorem tot_get : ∀ (N : List Nd) (i : Nat), (N.getD i (0, [])).2.length ≤ tot N
  | [], i => by simp [tot]
  | a :: N, 0 => by rw [tot_cons]; simp only [List.getD_cons_zero]; omega
  | a :: N, i + 1 => by
    have := tot_get N i
    rw [tot_cons]
    simp only [List.getD_cons_succ]
    omega
theorem tot_without {b : Int} : ∀ (N : List Nd) (j : Nat), j < N.length → (N.getD j (0, [])).1 = b → tot (N.filter fun d => d.1 != b) + (N.getD j (0, [])).2.length ≤ tot N
  | [], j, h, _ => by simp at h
  | a :: N, 0, _, e => by
    simp only [List.getD_cons_zero] at e ⊢
    have h1 : (a.1 != b) = false := by simpa using e
    have := tot_filter (fun d => d.1 != b) N
    rw [List.filter_cons, h1, tot_cons]
    simp only [Bool.false_eq_true, if_false]
    omega
  | a :: N, j + 1, h, e => by
    simp only [List.getD_cons_succ] at e ⊢
    have := tot_without N j (by simpa using h) e
    rw [List.filter_cons]
    split
    · rw [tot_cons, tot_cons]; omega
    · rw [tot_cons]; omega

/-- There are at most k of each. -/
structure Few (k : Nat) (G : GL) : Prop where
  n : G.N.length ≤ k
  e : G.E.length ≤ k
  p : tot G.N ≤ k
  r : ∀ z ∈ G.N, (z.2.map fun q : Pr => q.1).Pairwise (· < ·)
  x : 1 ≤ G.x ∧ G.x ≤ k + 1
  y : 1 ≤ G.y ∧ G.y ≤ k + 1
section
variable {k m : Nat} {G : GL} {c0 c1 c2 c3 c4 a b : Int} {o : O5}
theorem Few.more (f : Few k G) (h : k ≤ m) : Few m G := ⟨by have := f.n; omega, by have := f.e; omega, by have := f.p; omega, f.r, by have := f.x; omega, by have := f.y; omega⟩
theorem few_new : Few 0 newG0 := ⟨Nat.le_refl _, Nat.le_refl _, Nat.le_refl _, fun z h => (by cases h), ⟨by decide, by decide⟩, ⟨by decide, by decide⟩⟩
theorem Few.pw (f : Few k G) (i : Nat) : ((prsAt G i).map fun q : Pr => q.1).Pairwise (· < ·) := by
  by_cases h : i < G.N.length
  · have e : G.N.getD i (0, []) ∈ G.N := by rw [getD_get h]; exact List.getElem_mem h
    exact f.r _ e
  · have e : prsAt G i = [] := by unfold prsAt; rw [List.getD_eq_getElem?_getD, List.getElem?_eq_none (by omega)]; rfl
    rw [e]
    exact List.Pairwise.nil
theorem Few.rise (f : Few k G) (i : Nat) : Rise (fun z : Pr => z.1) (0, 0) (prsAt G i) := rise_pw.2 (f.pw i)
theorem Few.prs (f : Few k G) (i : Nat) : (prsAt G i).length ≤ k := by have h1 : (G.N.getD i (0, [])).2.length ≤ tot G.N := tot_get G.N i; have := f.p; show (G.N.getD i (0, [])).2.length ≤ k; omega
theorem Few.small (f : Few k G) (h : k ≤ 140) : Small G :=
  ⟨by have := f.n; omega, by have := f.e; omega, fun j hj => by have : (G.N.getD j (0, [])).2.length ≤ k := f.prs j; omega, by have := f.x; omega, by have := f.y; omega⟩
theorem Okg.few (g : Okg c0 c1 c2 c3 c4 G) : Few 64 G := by
  have hc := g.cfg
  unfold Place.Ok at hc
  have h1 := g.n
  have h2 := g.e
  have h3 := g.p
  have h4 := g.x
  have h5 := g.y
  have h6 : propsN G.N G.N.length = tot G.N := by unfold propsN tot; rw [List.take_length]
  rw [h6] at h3
  exact ⟨by omega, by omega, by omega, g.parts.1.pr, by omega, by omega⟩
/-- There is one such list. -/
theorem fuseM_perm (P Q : List Pr) : (fuseM P Q).Perm (P ++ missing P Q) := List.mergeSort_perm _ _
theorem fuseM_sorted (P Q : List Pr) : (fuseM P Q).Pairwise fun p q => ¬ q.1 < p.1 := by
  have h1 := List.pairwise_mergeSort (le := fun p q : Pr => decide (p.1 ≤ q.1)) (by intro a b c h1 h2; simp only [decide_eq_true_iff] at *; omega) (by intro a b; simp only [Bool.or_eq_true, decide_eq_true_iff]; omega) (P ++ missing P Q)
  exact h1.imp fun h => by simp only [decide_eq_true_iff] at h; omega
theorem fuse_one (f : Few k G) : ∀ l : List Pr, l.Perm (prsAt G (posN G a) ++ missing (prsAt G (posN G a)) (prsAt G (posN G b))) → (l.Pairwise fun p q => ¬ q.1 < p.1) → l = fuseAt G a b := by
  intro l hl hs
  have hd := both_apart (f.rise (posN G a)) (f.rise (posN G b))
  refine List.Perm.eq_of_pairwise (le := fun p q : Pr => ¬ q.1 < p.1) ?_ hs (fuseM_sorted _ _) (hl.trans (fuseM_perm _ _).symm)
  intro x y hx hy h1 h2
  exact same_key hd (hl.subset hx) ((fuseM_perm _ _).subset hy) (by omega)
theorem fuse_len : (fuseAt G a b).length ≤ (prsAt G (posN G a)).length + (prsAt G (posN G b)).length := by
  unfold fuseAt
  rw [(fuseM_perm _ _).length_eq, List.length_append]
  have : (missing (prsAt G (posN G a)) (prsAt G (posN G b))).length ≤ (prsAt G (posN G b)).length := List.length_filter_le _ _
  omega
theorem fuse_pw (f : Few k G) : ((fuseAt G a b).map fun q : Pr => q.1).Pairwise (· < ·) := by
  have hd := both_apart (f.rise (posN G a)) (f.rise (posN G b))
  have h1 : ((fuseAt G a b).map fun q : Pr => q.1).Nodup := ((fuseM_perm _ _).map _).nodup_iff.2 hd
  have h2 : ((fuseAt G a b).map fun q : Pr => q.1).Pairwise fun x y => ¬ y < x := List.pairwise_map.2 (fuseM_sorted _ _)
  have h3 : ((fuseAt G a b).map fun q : Pr => q.1).Pairwise fun x y => x ≠ y := h1
  exact (h2.and h3).imp fun h => by have := h.1; have := h.2; omega

theorem put_len {l : List Pr} {q v : Int} : (putP l q v).length ≤ l.length + 1 := by
  unfold putP
  rw [List.length_append, List.length_append]
  have h : ∀ l : List Pr, (l.filter fun p => decide (p.1 < q)).length + (l.filter fun p => decide (q < p.1)).length ≤ l.length := by
    intro l
    induction l with
    | nil => simp
    | cons p l ih =>
      rw [List.filter_cons, List.filter_cons]
      by_cases h1 : p.1 < q
      · have h2 : ¬ q < p.1 := by omega
        simp only [h1, h2, decide_true, decide_false, if_true, Bool.false_eq_true, if_false, List.length_cons]
        omega
      · simp only [h1, decide_false, Bool.false_eq_true, if_false]
        split
        · simp only [List.length_cons]; omega
        · simp only [List.length_cons]; omega
  have := h l
  simp only [List.length_singleton]
  omega
/-! What an operation leaves is small, too. -/
theorem few_addG (f : Few k G) : Few (k + 1) (addG G) := by
  have := f.n; have := f.e; have := f.p; have := f.x; have := f.y
  refine ⟨by simp [addG]; omega, by simp [addG]; omega, by simp only [addG, tot_snoc, List.length_nil]; omega, ?_, by simp only [addG]; omega, by simp only [addG]; omega⟩
  intro z hz
  rcases List.mem_append.1 hz with h | h
  · exact f.r z h
  · simp only [List.mem_singleton] at h; rw [h]; exact List.Pairwise.nil
theorem few_linkG (f : Few k G) : Few (k + 1) (linkG a b G) := by
  have := f.n; have := f.e; have := f.p; have := f.x; have := f.y
  exact ⟨by simp only [linkG]; omega, by simp [linkG]; omega, by simp only [linkG]; omega, f.r, by simp only [linkG]; omega, by simp only [linkG]; omega⟩
theorem few_cutG (f : Few k G) : Few k (cutG a G) := by
  have := f.n; have := f.e; have := f.p; have := f.x; have := f.y
  exact ⟨f.n, Nat.le_trans (List.length_filter_le _ _) f.e, f.p, f.r, f.x, f.y⟩
theorem few_dropG (f : Few k G) : Few k (dropG a G) :=
  ⟨Nat.le_trans (List.length_filter_le _ _) f.n, Nat.le_trans (List.length_filter_le _ _) f.e, Nat.le_trans (tot_filter _ _) f.p, fun z hz => f.r z (List.mem_filter.1 hz).1, f.x, f.y⟩
theorem few_setN {i : Nat} {l : List Pr} (f : Few k G) (hi : i < G.N.length) (hl : l.length ≤ (prsAt G i).length + 1) (hp : (l.map fun q : Pr => q.1).Pairwise (· < ·)) : Few (k + 1) (setN G i l) := by
  have := f.n; have := f.e; have := f.p; have := f.x; have := f.y
  have h1 := tot_set G.N i ((G.N.getD i (0, [])).1, l) hi
  have h2 : (G.N.getD i (0, [])).2.length = (prsAt G i).length := rfl
  refine ⟨by simp [setN]; omega, by simp only [setN]; omega, by simp only [setN]; simp only at h1; omega, ?_, by simp only [setN]; omega, by simp only [setN]; omega⟩
  intro z hz
  rcases List.mem_or_eq_of_mem_set hz with h | h
  · exact f.r z h
  · rw [h]; exact hp
theorem fuse_less (ha : isN G a = true) (hb : isN G b = true) (hab : a ≠ b) : (fuseG a b (fuseAt G a b) G).N.length ≤ G.N.length ∧ (fuseG a b (fuseAt G a b) G).E.length ≤ G.E.length ∧ tot (fuseG a b (fuseAt G a b) G).N ≤ tot G.N := by
  obtain ⟨pa, ea⟩ := posN_lt ha
  obtain ⟨pb, eb⟩ := posN_lt hb
  have hne : posN G a ≠ posN G b := fun e => hab (by rw [← ea, e, eb])
  have h1 := tot_set G.N (posN G a) ((G.N.getD (posN G a) (0, [])).1, fuseAt G a b) pa
  have e2 : (setN G (posN G a) (fuseAt G a b)).N.getD (posN G b) (0, []) = G.N.getD (posN G b) (0, []) := by simp [setN, List.getD_eq_getElem?_getD, hne]
  have h2 := tot_without (b := b) (setN G (posN G a) (fuseAt G a b)).N (posN G b) (by rw [setN_len]; exact pb) (by rw [e2]; exact eb)
  rw [e2] at h2
  have h3 := fuse_len (G := G) (a := a) (b := b)
  have h4 : (G.N.getD (posN G a) (0, [])).2.length = (prsAt G (posN G a)).length := rfl
  have h5 : (G.N.getD (posN G b) (0, [])).2.length = (prsAt G (posN G b)).length := rfl
  have h6 : tot (setN G (posN G a) (fuseAt G a b)).N + (G.N.getD (posN G a) (0, [])).2.length = tot G.N + (fuseAt G a b).length := h1
  refine ⟨?_, ?_, ?_⟩
  · have : (setN G (posN G a) (fuseAt G a b)).N.length = G.N.length := setN_len ..
    have h7 : (fuseG a b (fuseAt G a b) G).N.length ≤ (setN G (posN G a) (fuseAt G a b)).N.length := List.length_filter_le _ _
    omega
  · have : (fuseG a b (fuseAt G a b) G).E.length = G.E.length := fuse_edges
    omega
  · have h7 : tot (fuseG a b (fuseAt G a b) G).N = tot ((setN G (posN G a) (fuseAt G a b)).N.filter fun d => d.1 != b) := rfl
    omega
theorem few_fuseG (f : Few k G) (ha : isN G a = true) (hb : isN G b = true) (hab : a ≠ b) : Few k (fuseG a b (fuseAt G a b) G) := by
  obtain ⟨q1, q2, q3⟩ := fuse_less (G := G) ha hb hab
  refine ⟨Nat.le_trans q1 f.n, Nat.le_trans q2 f.e, Nat.le_trans q3 f.p, ?_, f.x, f.y⟩
  intro z hz
  have hz2 : z ∈ (setN G (posN G a) (fuseAt G a b)).N := (List.mem_filter.1 hz).1
  rcases List.mem_or_eq_of_mem_set hz2 with h | h
  · exact f.r z h
  · rw [h]; exact fuse_pw f
theorem atf_isN {x : Int} (h : ¬ atf (fun z : Nd => z.1) G.N x < 0) : isN G x = true := by unfold isN; simp only [decide_eq_true_iff]; omega
theorem not_isN {x : Int} (h : ¬ isN G x = false) : isN G x = true := by cases e : isN G x <;> simp_all
theorem few_in (f : Few k G) (h : (inR c3 c4 G o).2.er = 0) : Few (k + 1) (inR c3 c4 G o).1 := by
  have up : k ≤ k + 1 := by omega
  unfold inR at h ⊢
  split
  · rename_i hk; rw [if_pos hk] at h
    unfold addR at h ⊢
    split at h
    · exact absurd h (by decide)
    · rename_i hx; rw [if_neg hx]; exact few_addG f
  · rename_i hk; rw [if_neg hk] at h
    split
    · rename_i hk; rw [if_pos hk] at h
      unfold linkR at h ⊢
      split at h
      · exact absurd h (by decide)
      · rename_i hx; rw [if_neg hx]
        split at h
        · exact absurd h (by decide)
        · rename_i hy; rw [if_neg hy]; exact few_linkG f
    · rename_i hk; rw [if_neg hk] at h
      split
      · rename_i hk; rw [if_pos hk] at h
        unfold cutR at h ⊢
        split at h
        · exact absurd h (by decide)
        · rename_i hx; rw [if_neg hx]; exact (few_cutG f).more up
      · rename_i hk; rw [if_neg hk] at h
        split
        · rename_i hk; rw [if_pos hk] at h
          unfold setR at h ⊢
          split at h
          · exact absurd h (by decide)
          · rename_i hx; rw [if_neg hx]
            refine few_setN f (posN_lt (atf_isN hx)).1 ?_ (put_pw (f.pw _))
            exact put_len ..
        · rename_i hk; rw [if_neg hk] at h
          split
          · rename_i hk; rw [if_pos hk] at h
            unfold delR at h ⊢
            split at h
            · exact absurd h (by decide)
            · rename_i hx; rw [if_neg hx]
              have hx' : ¬ atf (fun z : Nd => z.1) G.N o.a < 0 := fun h => hx (.inl h)
              refine few_setN f (posN_lt (atf_isN hx')).1 ?_ (pw_filter (f.pw _))
              have := List.length_filter_le (fun q : Pr => q.1 != o.q) (prsAt G (posN G o.a))
              omega
          · rename_i hk; rw [if_neg hk] at h
            split
            · exact f.more up
            · rename_i hk; rw [if_neg hk] at h
              split
              · exact f.more up
              · rename_i hk; rw [if_neg hk] at h
                split
                · rename_i hk; rw [if_pos hk] at h
                  unfold dropR at h ⊢
                  split at h
                  · exact absurd h (by decide)
                  · rename_i hx; rw [if_neg hx]; exact (few_dropG f).more up
                · rename_i hk; rw [if_neg hk] at h
                  split
                  · rename_i hk; rw [if_pos hk] at h
                    unfold fuseR at h ⊢
                    split at h
                    · exact absurd h (by decide)
                    · rename_i hx; rw [if_neg hx]
                      split at h
                      · exact absurd h (by decide)
                      · rename_i hy; rw [if_neg hy]
                        exact (few_fuseG f (atf_isN fun h => hy (.inl h)) (atf_isN fun h => hy (.inr h)) hx).more up
                  · exact f.more up
theorem few_do (f : Few k G) : Few (k + 1) (doR c3 c4 G o).1 := by
  unfold doR
  by_cases h : (inR c3 c4 G o).2.er = 0
  · simp only [h, if_true]; exact few_in f h
  · simp only [h, if_false]; exact f.more (by omega)
theorem few_all : ∀ (l : List O5) {k : Nat} {G : GL}, Few k G → Few (k + l.length) (allG c3 c4 G l)
  | [], k, G, f => f
  | o :: l, k, G, f => by
    have := few_all l (few_do (c3 := c3) (c4 := c4) (o := o) f)
    exact this.more (by simp; omega)
theorem few_res (f : Few k G) : (inR c3 c4 G o).2.P.length ≤ k ∧ (inR c3 c4 G o).2.O.length ≤ k ∧ (inR c3 c4 G o).2.I.length ≤ k := by
  have n0 : ([] : List Pr).length ≤ k := Nat.zero_le _
  unfold inR
  iterate 5 (split; · exact ⟨n0, n0, n0⟩)
  split
  · refine ⟨?_, n0, n0⟩
    show (getR G o.a).2.length ≤ k
    unfold getR
    split
    · exact n0
    · exact f.prs _
  split
  · have h1 : (nearR G o.a).2.1.length ≤ k ∧ (nearR G o.a).2.2.length ≤ k := by
      unfold nearR
      have := f.e
      have := outs_le (G := G) o.a
      have := ins_le (G := G) o.a
      split
      · exact ⟨n0, n0⟩
      · exact ⟨by show (outs G o.a).length ≤ k; omega, by show (ins G o.a).length ≤ k; omega⟩
    exact ⟨n0, h1.1, h1.2⟩
  iterate 2 (split; · exact ⟨n0, n0, n0⟩)
  exact ⟨n0, n0, n0⟩
end
section
variable {c3 c4 : Int}
theorem allG_append : ∀ (l m : List O5) (G : GL), allG c3 c4 G (l ++ m) = allG c3 c4 (allG c3 c4 G l) m
  | [], m, G => rfl
  | o :: l, m, G => allG_append l m _
theorem allR_append : ∀ (l m : List O5) (G : GL), allR c3 c4 G (l ++ m) = allR c3 c4 G l ++ allR c3 c4 (allG c3 c4 G l) m
  | [], m, G => rfl
  | o :: l, m, G => by
    have := allR_append l m (doR c3 c4 G o).1
    simp only [List.cons_append, allR, allG, this]
theorem allR_len : ∀ (l : List O5) (G : GL), (allR c3 c4 G l).length = l.length
  | [], G => rfl
  | o :: l, G => by simp only [allR, List.length_cons, allR_len l]
theorem allG_take {G : GL} {l : List O5} {k : Nat} (hk : k < l.length) : allG c3 c4 G (l.take (k + 1)) = (doR c3 c4 (allG c3 c4 G (l.take k)) (l.getD k noO)).1 := by
  rw [getD_take (d := noO) hk, allG_append]
  rfl
theorem allR_take {G : GL} {l : List O5} {k : Nat} (hk : k < l.length) : allR c3 c4 G (l.take (k + 1)) = allR c3 c4 G (l.take k) ++ [(doR c3 c4 (allG c3 c4 G (l.take k)) (l.getD k noO)).2] := by
  rw [getD_take (d := noO) hk, allR_append]
  rfl
end
end Go.Proofs.YtiiadkjiofkonaaGreat

namespace Go.Proofs.YtiiadkjiofkonaaGreat
set_option linter.unusedVariables false

/-- A property put among others: one more, if its key was not among them. -/
theorem count_key {q : Int} : ∀ {l : List Pr}, (l.map fun p : Pr => p.1).Nodup → (l.filter fun p => decide (p.1 < q)).length + (l.filter fun p => decide (q < p.1)).length + (if q ∈ l.map (fun p : Pr => p.1) then 1 else 0) = l.length
  | [], _ => by simp
  | p :: l, hd => by
    rw [List.map_cons, List.nodup_cons] at hd
    have ih := count_key (q := q) hd.2
    rw [List.filter_cons, List.filter_cons, List.map_cons, List.length_cons]
    by_cases h1 : p.1 < q
    · have h2 : ¬ q < p.1 := by omega
      have h3 : q ≠ p.1 := by omega
      have h4 : (q ∈ p.1 :: l.map fun p : Pr => p.1) ↔ q ∈ l.map fun p : Pr => p.1 := by simp [h3]
      simp only [h1, h2, decide_true, decide_false, if_true, Bool.false_eq_true, if_false, List.length_cons]
      by_cases h5 : q ∈ l.map fun p : Pr => p.1
      · rw [if_pos (h4.2 h5)]; rw [if_pos h5] at ih; omega
      · rw [if_neg (fun h => h5 (h4.1 h))]; rw [if_neg h5] at ih; omega
    · by_cases h2 : q < p.1
      · have h3 : q ≠ p.1 := by omega
        have h4 : (q ∈ p.1 :: l.map fun p : Pr => p.1) ↔ q ∈ l.map fun p : Pr => p.1 := by simp [h3]
        simp only [h1, h2, decide_true, decide_false, if_true, Bool.false_eq_true, if_false, List.length_cons]
        by_cases h5 : q ∈ l.map fun p : Pr => p.1
        · rw [if_pos (h4.2 h5)]; rw [if_pos h5] at ih; omega
        · rw [if_neg (fun h => h5 (h4.1 h))]; rw [if_neg h5] at ih; omega
      · have h3 : q = p.1 := by omega
        have h5 : q ∉ l.map fun p : Pr => p.1 := by rw [h3]; exact hd.1
        have h4 : q ∈ p.1 :: l.map fun p : Pr => p.1 := by rw [h3]; exact List.mem_cons_self
        rw [if_neg h5] at ih
        rw [if_pos h4]
        simp only [h1, h2, decide_false, Bool.false_eq_true, if_false]
        omega
theorem put_count {q v : Int} {l : List Pr} (hd : (l.map fun p : Pr => p.1).Pairwise (· < ·)) : (putP l q v).length + (if q ∈ l.map (fun p : Pr => p.1) then 1 else 0) = l.length + 1 := by
  have h : (l.map fun p : Pr => p.1).Nodup := hd.imp fun h => by omega
  have := count_key (q := q) h
  unfold putP
  rw [List.length_append, List.length_append, List.length_singleton]
  omega
theorem tot_props (N : List Nd) : propsN N N.length = tot N := by unfold propsN tot; rw [List.take_length]
theorem props_tot : ∀ (N : List Nd) (k : Nat), propsN N k ≤ tot N
  | [], k => by simp [propsN, tot]
  | z :: N, 0 => by simp [propsN]
  | z :: N, k + 1 => by
    have := props_tot N k
    unfold propsN tot at this ⊢
    simp only [List.take_succ_cons, List.map_cons, List.sum_cons]
    omega
/-- How many more there are. -/
structure More (G R : GL) (k dn de dp : Int) : Prop where
  n : (R.N.length : Int) - (G.N.length : Int) = dn
  e : (R.E.length : Int) - (G.E.length : Int) = de
  p : (tot R.N : Int) - (tot G.N : Int) = dp
  c : (k = 1 ∧ dn = 1 ∧ de = 0 ∧ dp = 0) ∨ (k = 2 ∧ dn = 0 ∧ de = 1 ∧ dp = 0) ∨ (k = 3 ∧ dn = 0 ∧ de = 0 ∧ dp = 1) ∨ (k = 0 ∧ dn ≤ 0 ∧ de ≤ 0 ∧ dp ≤ 0)
section
variable {G R : GL} {c0 c1 c2 c3 c4 : Int} {o : O5} {k : Nat}
theorem more_less (h1 : R.N.length ≤ G.N.length) (h2 : R.E.length ≤ G.E.length) (h3 : tot R.N ≤ tot G.N) : ∃ dn de dp, More G R 0 dn de dp :=
  ⟨_, _, _, ⟨rfl, rfl, rfl, .inr (.inr (.inr ⟨rfl, by omega, by omega, by omega⟩))⟩⟩
theorem takes_more (f : Few k G) : ∃ dn de dp, More G (doR c3 c4 G o).1 (takesR c3 c4 G o) dn de dp := by
  have same : ∃ dn de dp, More G G 0 dn de dp := more_less (Nat.le_refl _) (Nat.le_refl _) (Nat.le_refl _)
  unfold doR takesR
  by_cases h : (inR c3 c4 G o).2.er = 0
  case neg =>
    simp only [h, if_false]
    exact same
  simp only [h, if_true]
  unfold inR at h ⊢
  by_cases k1 : o.k = 1
  · simp only [k1, if_true] at h ⊢
    unfold addR at h ⊢
    split at h
    · exact absurd h (by decide)
    · rename_i hx
      rw [if_neg hx]
      exact ⟨1, 0, 0, ⟨by simp [addG]; omega, by simp [addG], by simp only [addG, tot_snoc]; simp, .inl ⟨rfl, rfl, rfl, rfl⟩⟩⟩
  by_cases k2 : o.k = 2
  · simp only [k2, if_true, show ¬ (2 : Int) = 1 by decide, if_false] at h ⊢
    unfold linkR at h ⊢
    split at h
    · exact absurd h (by decide)
    · rename_i hx
      rw [if_neg hx]
      split at h
      · exact absurd h (by decide)
      · rename_i hy
        rw [if_neg hy]
        exact ⟨0, 1, 0, ⟨by simp [linkG], by simp [linkG]; omega, by simp [linkG], .inr (.inl ⟨rfl, rfl, rfl, rfl⟩)⟩⟩
  by_cases k4 : o.k = 4
  · simp only [k4, if_true, show ¬ (4 : Int) = 1 by decide, show ¬ (4 : Int) = 2 by decide, show ¬ (4 : Int) = 3 by decide, if_false] at h ⊢
    unfold setR at h ⊢
    split at h
    · exact absurd h (by decide)
    · rename_i hx
      rw [if_neg hx]
      have hp := (posN_lt (atf_isN hx)).1
      have h1 := tot_set G.N (posN G o.a) ((G.N.getD (posN G o.a) (0, [])).1, putP (prsAt G (posN G o.a)) o.q o.v) hp
      have h2 := put_count (q := o.q) (v := o.v) (f.pw (posN G o.a))
      have h3 : (G.N.getD (posN G o.a) (0, [])).2.length = (prsAt G (posN G o.a)).length := rfl
      have h4 : tot (setN G (posN G o.a) (putP (prsAt G (posN G o.a)) o.q o.v)).N + (G.N.getD (posN G o.a) (0, [])).2.length = tot G.N + (putP (prsAt G (posN G o.a)) o.q o.v).length := h1
      have h5 : (hasR G o.a o.q = true) ↔ o.q ∈ (prsAt G (posN G o.a)).map fun p : Pr => p.1 := by
        unfold hasR
        rw [atf_isN hx, Bool.true_and, decide_eq_true_iff]
        exact atf_mem
      by_cases hm : o.q ∈ (prsAt G (posN G o.a)).map fun p : Pr => p.1
      · rw [if_pos hm] at h2
        rw [if_pos (h5.2 hm)]
        exact more_less (by rw [setN_len]; exact Nat.le_refl _) (Nat.le_refl _) (by show tot (setN G (posN G o.a) (putP (prsAt G (posN G o.a)) o.q o.v)).N ≤ tot G.N; omega)
      · rw [if_neg hm] at h2
        rw [if_neg (fun h => hm (h5.1 h))]
        exact ⟨0, 0, 1, ⟨by rw [setN_len]; omega, by simp [setN], by show (tot (setN G (posN G o.a) (putP (prsAt G (posN G o.a)) o.q o.v)).N : Int) - (tot G.N : Int) = 1; omega, .inr (.inr (.inl ⟨rfl, rfl, rfl, rfl⟩))⟩⟩
  simp only [k1, k2, k4, if_false] at h ⊢
  split
  · rename_i hk; rw [if_pos hk] at h
    unfold cutR at h ⊢
    split at h
    · exact absurd h (by decide)
    · rename_i hx; rw [if_neg hx]; exact more_less (Nat.le_refl _) (List.length_filter_le _ _) (Nat.le_refl _)
  · rename_i hk; rw [if_neg hk] at h
    split
    · rename_i hk; rw [if_pos hk] at h
      unfold delR at h ⊢
      split at h
      · exact absurd h (by decide)
      · rename_i hx; rw [if_neg hx]
        have hx' : ¬ atf (fun z : Nd => z.1) G.N o.a < 0 := fun h => hx (.inl h)
        have hp := (posN_lt (atf_isN hx')).1
        have h1 := tot_set G.N (posN G o.a) ((G.N.getD (posN G o.a) (0, [])).1, (prsAt G (posN G o.a)).filter fun q => q.1 != o.q) hp
        have h3 : (G.N.getD (posN G o.a) (0, [])).2.length = (prsAt G (posN G o.a)).length := rfl
        have h4 : tot (setN G (posN G o.a) ((prsAt G (posN G o.a)).filter fun q => q.1 != o.q)).N + (G.N.getD (posN G o.a) (0, [])).2.length = tot G.N + ((prsAt G (posN G o.a)).filter fun q => q.1 != o.q).length := h1
        have h5 := List.length_filter_le (fun q : Pr => q.1 != o.q) (prsAt G (posN G o.a))
        exact more_less (by rw [setN_len]; exact Nat.le_refl _) (Nat.le_refl _) (by show tot (setN G (posN G o.a) ((prsAt G (posN G o.a)).filter fun q => q.1 != o.q)).N ≤ tot G.N; omega)
    · rename_i hk; rw [if_neg hk] at h
      split
      · exact same
      · rename_i hk; rw [if_neg hk] at h
        split
        · exact same
        · rename_i hk; rw [if_neg hk] at h
          split
          · rename_i hk; rw [if_pos hk] at h
            unfold dropR at h ⊢
            split at h
            · exact absurd h (by decide)
            · rename_i hx; rw [if_neg hx]; exact more_less (List.length_filter_le _ _) (List.length_filter_le _ _) (tot_filter _ _)
          · rename_i hk; rw [if_neg hk] at h
            split
            · rename_i hk; rw [if_pos hk] at h
              unfold fuseR at h ⊢
              split at h
              · exact absurd h (by decide)
              · rename_i hx; rw [if_neg hx]
                split at h
                · exact absurd h (by decide)
                · rename_i hy; rw [if_neg hy]
                  have ha := atf_isN fun h => hy (.inl h)
                  have hb := atf_isN fun h => hy (.inr h)
                  obtain ⟨q1, q2, q3⟩ := fuse_less (G := G) ha hb hx
                  exact more_less q1 q2 q3
            · exact same
end
end Go.Proofs.YtiiadkjiofkonaaGreat
