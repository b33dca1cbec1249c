/- Plain mathematics for layer 12: histories as lists of events, and the calls that they have. No program, no conditions. -/
namespace Go.Proofs.Ytfefkdedgceomaa

abbrev Pr := Int × Int
def flat2 (l : List Pr) : List Int := l.flatMap fun p => [p.1, p.2]
theorem flat2_len (l : List Pr) : (flat2 l).length = l.length * 2 := by
  induction l with
  | nil => rfl
  | cons p l ih => simp [flat2] at ih ⊢; omega
theorem flat2_append (a b : List Pr) : flat2 (a ++ b) = flat2 a ++ flat2 b := by simp [flat2]
theorem flat2_at : ∀ (l : List Pr) (k : Nat), k < l.length → (flat2 l).getD (k * 2) 0 = (l.getD k (0, 0)).1 ∧ (flat2 l).getD (k * 2 + 1) 0 = (l.getD k (0, 0)).2
  | [], k, h => by simp at h
  | p :: l, 0, _ => by simp [flat2]
  | p :: l, k + 1, h => by
    have := flat2_at l k (by simpa using h)
    have e : (k + 1) * 2 = k * 2 + 2 := by omega
    have e2 : k * 2 + 2 + 1 = (k * 2 + 1) + 2 := by omega
    rw [e, e2]
    simpa [flat2] using this
theorem pairs_of {n : Nat} {zs : List Int} (h : zs.length = n * 2) : ∃ L : List Pr, flat2 L = zs := by
  induction n generalizing zs with
  | zero => exact ⟨[], by simpa [flat2] using (List.length_eq_zero_iff.1 (by simpa using h)).symm⟩
  | succ n ih =>
    match zs, h with
    | [], h => simp at h
    | [_], h => simp at h; omega
    | a :: b :: r, h =>
      obtain ⟨L, e⟩ := ih (zs := r) (by simp at h; omega)
      exact ⟨(a, b) :: L, by rw [← e]; rfl⟩

/-- A result, an operation, an event, a call. -/
structure RL where
  (er id : Int)
  (P O I : List Pr)
deriving DecidableEq
def noR : RL := ⟨0, 0, [], [], []⟩
structure O5 where
  (k a b q v : Int)
deriving DecidableEq
def noO : O5 := ⟨0, 0, 0, 0, 0⟩
structure Ev where
  t : Int
  d : Bool
  o : O5
  r : RL
def noEv : Ev := ⟨0, false, noO, noR⟩
structure Cl where
  t : Int
  o : O5
  f : Int
  e : Int
  r : RL
deriving DecidableEq
def noCl : Cl := ⟨0, noO, 0, 0, noR⟩

/-- What the event x, at place n, makes of a call that is there, and of the list of calls. -/
def mk (x : Ev) (n : Nat) (c : Cl) : Cl := if c.t = x.t ∧ c.e = -1 then { c with e := n, r := x.r } else c
def new (x : Ev) (n : Nat) : Cl := ⟨x.t, x.o, n, -1, noR⟩
def upd (x : Ev) (n : Nat) (cs : List Cl) : List Cl := cs.map (mk x n) ++ (if x.d then [] else [new x n])
def run (l : List Ev) : List Cl × Nat := l.foldl (fun s x => (upd x s.2 s.1, s.2 + 1)) ([], 0)
/-- The calls of a list of events. -/
def calls (l : List Ev) : List Cl := (run l).1
theorem run_len (l : List Ev) : (run l).2 = l.length := by
  have : ∀ (l : List Ev) (s : List Cl × Nat), (l.foldl (fun s x => (upd x s.2 s.1, s.2 + 1)) s).2 = s.2 + l.length := by
    intro l
    induction l with
    | nil => intro s; rfl
    | cons x l ih => intro s; simp only [List.foldl_cons, ih, List.length_cons]; omega
  have h := this l ([], 0)
  simp only [Nat.zero_add] at h
  exact h
theorem calls_nil : calls [] = [] := rfl
theorem calls_snoc (l : List Ev) (x : Ev) : calls (l ++ [x]) = upd x l.length (calls l) := by
  unfold calls
  have : run (l ++ [x]) = (upd x (run l).2 (run l).1, (run l).2 + 1) := by unfold run; rw [List.foldl_append]; rfl
  rw [this, run_len]
theorem snoc_ind {P : List Ev → Prop} (h0 : P []) (h1 : ∀ l x, P l → P (l ++ [x])) (l : List Ev) : P l := by
  have : ∀ r : List Ev, P r.reverse := by
    intro r
    induction r with
    | nil => exact h0
    | cons x r ih => rw [List.reverse_cons]; exact h1 _ _ ih
  simpa using this l.reverse

/-- Call i of thread t has no result yet. -/
def Open (cs : List Cl) (t : Int) (i : Nat) : Prop := i < cs.length ∧ (cs.getD i noCl).t = t ∧ (cs.getD i noCl).e = -1
/-- The event x may come next. -/
def Good (x : Ev) (cs : List Cl) : Prop :=
  ((∀ i, ¬ Open cs x.t i) ∧ 0 ≤ x.t ∧ x.t < 64 ∧ x.d = false ∧ x.r = noR) ∨ (∃ i, Open cs x.t i ∧ x.d = true ∧ x.o = (cs.getD i noCl).o)
/-- The history may be. -/
def May (l : List Ev) : Prop := ∀ n, n < l.length → Good (l.getD n noEv) (calls (l.take n))
theorem May.nil : May [] := fun n h => by cases h
theorem May.take {l : List Ev} (h : May l) (k : Nat) : May (l.take k) := fun n hn => by
  simp only [List.length_take] at hn
  have := h n (by omega)
  have e : (l.take k).getD n noEv = l.getD n noEv := by simp [List.getD_eq_getElem?_getD, show n < k by omega]
  rw [e, List.take_take, Nat.min_eq_left (by omega)]
  exact this
theorem may_snoc (l : List Ev) (x : Ev) : May (l ++ [x]) ↔ May l ∧ Good x (calls l) := by
  constructor
  · intro h
    refine ⟨by simpa using h.take l.length, ?_⟩
    have := h l.length (by simp)
    simpa [List.getD_eq_getElem?_getD] using this
  · rintro ⟨h1, h2⟩ n hn
    by_cases e : n < l.length
    · have := h1 n e
      have e1 : (l ++ [x]).getD n noEv = l.getD n noEv := by simp [List.getD_eq_getElem?_getD, List.getElem?_append_left e]
      rw [e1, List.take_append_of_le_length (by omega)]
      exact this
    · obtain rfl : n = l.length := by simp at hn; omega
      simpa [List.getD_eq_getElem?_getD] using h2
theorem take_snoc {l : List Ev} {k : Nat} (h : k < l.length) : l.take (k + 1) = l.take k ++ [l.getD k noEv] := by
  rw [List.take_add_one, List.getD_eq_getElem?_getD, List.getElem?_eq_getElem h]
  rfl
theorem may_step {l : List Ev} {k : Nat} (h : k < l.length) : May (l.take (k + 1)) ↔ May (l.take k) ∧ Good (l.getD k noEv) (calls (l.take k)) := by
  rw [take_snoc h, may_snoc]
theorem calls_step {l : List Ev} {k : Nat} (h : k < l.length) : calls (l.take (k + 1)) = upd (l.getD k noEv) k (calls (l.take k)) := by
  rw [take_snoc h, calls_snoc, List.length_take, Nat.min_eq_left (by omega)]
theorem not_may {l : List Ev} {k : Nat} (h : k < l.length) (hg : ¬ Good (l.getD k noEv) (calls (l.take k))) : ¬ May l := fun hm => hg (hm k h)

/-! What is so of the calls of any list. -/
theorem getD_map_mk (x : Ev) (n : Nat) (cs : List Cl) (i : Nat) (h : i < cs.length) : (cs.map (mk x n)).getD i noCl = mk x n (cs.getD i noCl) := by simp [List.getD_eq_getElem?_getD, h]
theorem upd_len (x : Ev) (n : Nat) (cs : List Cl) : (upd x n cs).length = cs.length + (if x.d then 0 else 1) := by unfold upd; split <;> simp
theorem upd_old (x : Ev) (n : Nat) (cs : List Cl) (i : Nat) (h : i < cs.length) : (upd x n cs).getD i noCl = mk x n (cs.getD i noCl) := by
  unfold upd
  rw [List.getD_eq_getElem?_getD, List.getElem?_append_left (by simpa using h), ← List.getD_eq_getElem?_getD, getD_map_mk x n cs i h]
theorem upd_new (x : Ev) (n : Nat) (cs : List Cl) (hd : x.d = false) : (upd x n cs).getD cs.length noCl = new x n := by
  unfold upd
  simp [List.getD_eq_getElem?_getD, hd]
theorem mk_t (x : Ev) (n : Nat) (c : Cl) : (mk x n c).t = c.t := by unfold mk; split <;> rfl
theorem mk_o (x : Ev) (n : Nat) (c : Cl) : (mk x n c).o = c.o := by unfold mk; split <;> rfl
theorem mk_f (x : Ev) (n : Nat) (c : Cl) : (mk x n c).f = c.f := by unfold mk; split <;> rfl
theorem mk_not {x : Ev} {n : Nat} {c : Cl} (h : ¬ (c.t = x.t ∧ c.e = -1)) : mk x n c = c := by unfold mk; rw [if_neg h]
theorem mk_yes {x : Ev} {n : Nat} {c : Cl} (h : c.t = x.t ∧ c.e = -1) : mk x n c = { c with e := n, r := x.r } := by unfold mk; rw [if_pos h]

/-- A call's place, and that of its result. -/
structure Put (l : List Ev) (c : Cl) : Prop where
  f0 : 0 ≤ c.f
  f1 : c.f < l.length
  fd : (l.getD c.f.toNat noEv).d = false
  ft : (l.getD c.f.toNat noEv).t = c.t
  fo : (l.getD c.f.toNat noEv).o = c.o
  e : (c.e = -1 ∧ c.r = noR) ∨ (c.f < c.e ∧ c.e < l.length ∧ (l.getD c.e.toNat noEv).t = c.t ∧ (l.getD c.e.toNat noEv).r = c.r)
theorem getD_app (l : List Ev) (x : Ev) (i : Nat) (h : i < l.length) : (l ++ [x]).getD i noEv = l.getD i noEv := by simp [List.getD_eq_getElem?_getD, List.getElem?_append_left h]
theorem getD_last (l : List Ev) (x : Ev) : (l ++ [x]).getD l.length noEv = x := by simp [List.getD_eq_getElem?_getD]
theorem put_at : ∀ l i, i < (calls l).length → Put l ((calls l).getD i noCl) := by
  refine snoc_ind (fun i h => by simp [calls_nil] at h) (fun l x ih i hi => ?_)
  rw [calls_snoc] at hi ⊢
  rw [upd_len] at hi
  by_cases h : i < (calls l).length
  · rw [upd_old _ _ _ _ h]
    have p := ih i h
    generalize (calls l).getD i noCl = c at p
    obtain ⟨p0, p1, pd, pt, po, pe⟩ := p
    have hl : (l ++ [x]).length = l.length + 1 := by simp
    have hf : (l ++ [x]).getD c.f.toNat noEv = l.getD c.f.toNat noEv := getD_app l x _ (by omega)
    refine ⟨by rw [mk_f]; exact p0, by rw [mk_f]; omega, by rw [mk_f, hf]; exact pd, by rw [mk_f, mk_t, hf]; exact pt, by rw [mk_f, mk_o, hf]; exact po, ?_⟩
    by_cases hm : c.t = x.t ∧ c.e = -1
    · rw [mk_yes hm]
      refine .inr ⟨p1, by show (l.length : Int) < _; rw [hl]; omega, ?_, ?_⟩
      · show ((l ++ [x]).getD ((l.length : Int)).toNat noEv).t = c.t
        rw [Int.toNat_natCast, getD_last]; exact hm.1.symm
      · show ((l ++ [x]).getD ((l.length : Int)).toNat noEv).r = x.r
        rw [Int.toNat_natCast, getD_last]
    · rw [mk_not hm]
      rcases pe with pe | ⟨q1, q2, q3, q4⟩
      · exact .inl pe
      · have he : (l ++ [x]).getD c.e.toNat noEv = l.getD c.e.toNat noEv := getD_app l x _ (by omega)
        exact .inr ⟨q1, by omega, by rw [he]; exact q3, by rw [he]; exact q4⟩
  · cases hd : x.d with
    | true => rw [hd] at hi; simp at hi; omega
    | false =>
      rw [hd] at hi
      obtain rfl : i = (calls l).length := by simp at hi; omega
      rw [upd_new _ _ _ hd]
      have hg : (l ++ [x]).getD (new x l.length).f.toNat noEv = x := by show (l ++ [x]).getD ((l.length : Int)).toNat noEv = x; rw [Int.toNat_natCast, getD_last]
      exact ⟨by show (0 : Int) ≤ (l.length : Int); omega, by show (l.length : Int) < _; simp; omega, by rw [hg]; exact hd, by rw [hg]; rfl, by rw [hg]; rfl, .inl ⟨rfl, rfl⟩⟩
/-- They stand in order. -/
theorem places : ∀ l i j, i < j → j < (calls l).length → ((calls l).getD i noCl).f < ((calls l).getD j noCl).f := by
  refine snoc_ind (fun i j _ h => by simp [calls_nil] at h) (fun l x ih i j hij hj => ?_)
  rw [calls_snoc] at hj ⊢
  rw [upd_len] at hj
  by_cases h : j < (calls l).length
  · rw [upd_old _ _ _ _ h, upd_old _ _ _ _ (by omega), mk_f, mk_f]
    exact ih i j hij h
  · cases hd : x.d with
    | true => rw [hd] at hj; simp at hj; omega
    | false =>
      rw [hd] at hj
      obtain rfl : j = (calls l).length := by simp at hj; omega
      rw [upd_new _ _ _ hd, upd_old _ _ _ _ hij, mk_f]
      exact (put_at l i hij).f1

/-! What is so of those of a list that may be. -/
theorem good_not {x : Ev} {cs : List Cl} {n : Nat} (h : ∀ i, ¬ Open cs x.t i) : cs.map (mk x n) = cs := by
  apply List.ext_getElem?
  intro i
  rw [List.getElem?_map]
  rcases Nat.lt_or_ge i cs.length with hi | hi
  · rw [List.getElem?_eq_getElem hi]
    have h1 := h i
    have e : cs.getD i noCl = cs[i] := by simp [List.getD_eq_getElem?_getD, hi]
    rw [Option.map_some, mk_not]
    rintro ⟨h2, h3⟩
    exact h1 ⟨hi, by rw [e]; exact h2, by rw [e]; exact h3⟩
  · simp [hi]
theorem good_set {x : Ev} {cs : List Cl} {n i : Nat} (h : Open cs x.t i) (hu : ∀ j, Open cs x.t j → j = i) : cs.map (mk x n) = cs.set i { cs.getD i noCl with e := n, r := x.r } := by
  apply List.ext_getElem?
  intro j
  rw [List.getElem?_map, List.getElem?_set]
  rcases Nat.lt_or_ge j cs.length with hj | hj
  · have e : cs.getD j noCl = cs[j] := by simp [List.getD_eq_getElem?_getD, hj]
    rw [List.getElem?_eq_getElem hj, Option.map_some]
    by_cases hij : i = j
    · subst hij
      rw [if_pos rfl, if_pos hj, mk_yes (by rw [← e]; exact h.2), ← e]
    · rw [if_neg hij, mk_not]
      rintro ⟨h2, h3⟩
      exact hij (hu j ⟨hj, by rw [e]; exact h2, by rw [e]; exact h3⟩).symm
  · have h1 : i ≠ j := by have := h.1; omega
    rw [if_neg h1]
    simp [hj]

/-- Of two calls of one thread the earlier one has a result, ahead of the later one's place. -/
theorem ahead : ∀ l, May l → ∀ i j, i < j → j < (calls l).length → ((calls l).getD i noCl).t = ((calls l).getD j noCl).t → 0 ≤ ((calls l).getD i noCl).e ∧ ((calls l).getD i noCl).e < ((calls l).getD j noCl).f := by
  refine snoc_ind (fun _ i j _ h => by simp [calls_nil] at h) (fun l x ih hm i j hij hj ht => ?_)
  obtain ⟨hm, hg⟩ := (may_snoc l x).1 hm
  have ih := ih hm
  rw [calls_snoc] at hj ht ⊢
  rw [upd_len] at hj
  by_cases h : j < (calls l).length
  · rw [upd_old _ _ _ _ h, upd_old _ _ _ _ (by omega), mk_t, mk_t] at ht
    rw [upd_old _ _ _ _ h, upd_old _ _ _ _ (by omega), mk_f]
    obtain ⟨a1, a2⟩ := ih i j hij h ht
    rw [mk_not (by omega)]
    exact ⟨a1, a2⟩
  · cases hd : x.d with
    | true => rw [hd] at hj; simp at hj; omega
    | false =>
      rw [hd] at hj
      obtain rfl : j = (calls l).length := by simp at hj; omega
      rw [upd_new _ _ _ hd, upd_old _ _ _ _ hij, mk_t] at ht
      rw [upd_new _ _ _ hd, upd_old _ _ _ _ hij]
      rcases hg with ⟨h1, _⟩ | ⟨_, _, h1, _⟩
      · have hne : ¬ (((calls l).getD i noCl).t = x.t ∧ ((calls l).getD i noCl).e = -1) := fun h2 => h1 i ⟨hij, h2⟩
        rw [mk_not hne]
        have p := put_at l i hij
        have p0 := p.f0
        rcases p.e with ⟨h2, _⟩ | ⟨h2, h3, _⟩
        · exact absurd ⟨ht, h2⟩ hne
        · exact ⟨by omega, by show _ < (l.length : Int); omega⟩
      · rw [hd] at h1; cases h1
/-- At most one call of a thread is open. -/
theorem one_open {l : List Ev} (hm : May l) {t : Int} {i j : Nat} (hi : Open (calls l) t i) (hj : Open (calls l) t j) : i = j := by
  rcases Nat.lt_trichotomy i j with h | h | h
  · have := (ahead l hm i j h hj.1 (hi.2.1.trans hj.2.1.symm)).1
    have := hi.2.2
    omega
  · exact h
  · have := (ahead l hm j i h hi.1 (hj.2.1.trans hi.2.1.symm)).1
    have := hj.2.2
    omega
/-- What comes next, written out. -/
theorem upd_call {x : Ev} {cs : List Cl} {n : Nat} (h : ∀ i, ¬ Open cs x.t i) (hd : x.d = false) : upd x n cs = cs ++ [new x n] := by unfold upd; rw [good_not h, hd]; rfl
theorem upd_done {l : List Ev} (hm : May l) {x : Ev} {n i : Nat} (h : Open (calls l) x.t i) (hd : x.d = true) : upd x n (calls l) = (calls l).set i { (calls l).getD i noCl with e := n, r := x.r } := by
  unfold upd; rw [good_set h fun j hj => one_open hm hj h, hd, if_pos rfl, List.append_nil]
/-- Threads, and what a result's event is. -/
theorem threads : ∀ l, May l → ∀ i, i < (calls l).length → (0 ≤ ((calls l).getD i noCl).t ∧ ((calls l).getD i noCl).t < 64) ∧ (((calls l).getD i noCl).e ≠ -1 → (l.getD ((calls l).getD i noCl).e.toNat noEv).d = true ∧ (l.getD ((calls l).getD i noCl).e.toNat noEv).o = ((calls l).getD i noCl).o) := by
  refine snoc_ind (fun _ i h => by simp [calls_nil] at h) (fun l x ih hm i hi => ?_)
  obtain ⟨hm, hg⟩ := (may_snoc l x).1 hm
  have ih := ih hm
  rw [calls_snoc] at hi ⊢
  rw [upd_len] at hi
  by_cases h : i < (calls l).length
  · rw [upd_old _ _ _ _ h, mk_t, mk_o]
    obtain ⟨i1, i2⟩ := ih i h
    refine ⟨i1, fun he => ?_⟩
    by_cases hc : ((calls l).getD i noCl).t = x.t ∧ ((calls l).getD i noCl).e = -1
    · rw [mk_yes hc]
      show ((l ++ [x]).getD ((l.length : Int)).toNat noEv).d = true ∧ ((l ++ [x]).getD ((l.length : Int)).toNat noEv).o = _
      rw [Int.toNat_natCast, getD_last]
      rcases hg with ⟨h1, _⟩ | ⟨k, h1, h2, h3⟩
      · exact absurd ⟨h, hc⟩ (h1 i)
      · obtain rfl := one_open hm h1 ⟨h, hc⟩
        exact ⟨h2, h3⟩
    · rw [mk_not hc] at he ⊢
      obtain ⟨j1, j2⟩ := i2 he
      rcases (put_at l i h).e with ⟨q, _⟩ | ⟨_, q, _⟩
      · exact absurd q he
      · have q0 := (put_at l i h).f0
        rw [getD_app l x _ (by omega)]
        exact ⟨j1, j2⟩
  · cases hd : x.d with
    | true => rw [hd] at hi; simp at hi; omega
    | false =>
      rw [hd] at hi
      obtain rfl : i = (calls l).length := by simp at hi; omega
      rw [upd_new _ _ _ hd]
      rcases hg with ⟨_, h1, h2, _⟩ | ⟨_, _, h1, _⟩
      · exact ⟨⟨h1, h2⟩, fun he => absurd rfl he⟩
      · rw [hd] at h1; cases h1

end Go.Proofs.Ytfefkdedgceomaa
