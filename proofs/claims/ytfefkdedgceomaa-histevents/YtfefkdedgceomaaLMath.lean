/- Plain mathematics for the laws of layer 12: which call an event is of; a history that is cut off; what comes next. -/
import Derived.Test.YtfefkdedgceomaaHMath
namespace Go.Proofs.Ytfefkdedgceomaa
set_option linter.unusedVariables false

/-! Each event is one call's. -/
def cnt (C : List Cl) (m : Int) : Nat := C.countP (fun c => decide (c.f = m)) + C.countP (fun c => decide (c.e = m))
def pendC (C : List Cl) : Nat := C.countP fun c => decide (c.e < 0)
theorem countP_set (p : Cl → Bool) (C : List Cl) (i : Nat) (a : Cl) (h : i < C.length) : (C.set i a).countP p + (if p (C.getD i noCl) then 1 else 0) = C.countP p + (if p a then 1 else 0) := by
  have e : C.getD i noCl = C[i] := by simp [List.getD_eq_getElem?_getD, h]
  rw [e, List.set_eq_take_append_cons_drop, if_pos h]
  have e2 : C.countP p = (C.take i ++ C[i] :: C.drop (i + 1)).countP p := by
    congr 1
    rw [← List.drop_eq_getElem_cons h, List.take_append_drop]
  rw [e2]
  simp only [List.countP_append, List.countP_cons]
  omega
theorem cnt_snoc (C : List Cl) (c : Cl) (m : Int) : cnt (C ++ [c]) m = cnt C m + (if c.f = m then 1 else 0) + (if c.e = m then 1 else 0) := by
  unfold cnt
  simp only [List.countP_append, List.countP_cons, List.countP_nil, decide_eq_true_eq]
  omega
theorem cnt_take {C : List Cl} {k : Nat} (h : k < C.length) (m : Int) : cnt (C.take (k + 1)) m = cnt (C.take k) m + (if (C.getD k noCl).f = m then 1 else 0) + (if (C.getD k noCl).e = m then 1 else 0) := by
  have e : C.getD k noCl = C[k] := by simp [List.getD_eq_getElem?_getD, h]
  rw [List.take_add_one, List.getElem?_eq_getElem h, e]
  exact cnt_snoc _ _ _
theorem cnt_zero {C : List Cl} {m : Int} (h : ∀ i, i < C.length → (C.getD i noCl).f ≠ m ∧ (C.getD i noCl).e ≠ m) : cnt C m = 0 := by
  unfold cnt
  rw [List.countP_eq_zero.2, List.countP_eq_zero.2]
  · intro c hc
    obtain ⟨i, hi, rfl⟩ := List.getElem_of_mem hc
    have := (h i hi).2
    simpa [List.getD_eq_getElem?_getD, hi] using this
  · intro c hc
    obtain ⟨i, hi, rfl⟩ := List.getElem_of_mem hc
    have := (h i hi).1
    simpa [List.getD_eq_getElem?_getD, hi] using this
theorem cnt_one : ∀ l, May l → ∀ n : Nat, n < l.length → cnt (calls l) n = 1 := by
  refine snoc_ind (fun _ n h => by simp at h) (fun l x ih hm n hn => ?_)
  obtain ⟨hm, hg⟩ := (may_snoc l x).1 hm
  have ih := ih hm
  have hz : cnt (calls l) (l.length : Int) = 0 := cnt_zero fun i hi => by
    have p := put_at l i hi
    have := p.f1
    have := p.e
    omega
  rw [calls_snoc]
  rcases hg with ⟨h1, h2, h3, h4, h5⟩ | ⟨i, h1, h2, h3⟩
  · rw [upd_call h1 h4, cnt_snoc]
    show _ + (if (l.length : Int) = n then 1 else 0) + (if (-1 : Int) = n then 1 else 0) = 1
    rw [if_neg (show ¬ ((-1 : Int) = n) by omega)]
    by_cases h : n < l.length
    · rw [ih n h, if_neg (by omega)]
    · obtain rfl : n = l.length := by simp at hn; omega
      rw [hz, if_pos rfl]
  · obtain ⟨c', e0, ef, ee⟩ : ∃ c' : Cl, upd x l.length (calls l) = (calls l).set i c' ∧ c'.f = ((calls l).getD i noCl).f ∧ c'.e = l.length := ⟨_, upd_done hm h1 h2, rfl, rfl⟩
    rw [e0]
    have hi := h1.1
    have e1 := countP_set (fun c => decide (c.f = (n : Int))) (calls l) i c' hi
    have e2 := countP_set (fun c => decide (c.e = (n : Int))) (calls l) i c' hi
    have he := h1.2.2
    simp only [decide_eq_true_eq, he, ef, ee] at e1 e2
    rw [if_neg (show ¬ ((-1 : Int) = n) by omega)] at e2
    unfold cnt
    by_cases h : n < l.length
    · have := ih n h
      unfold cnt at this
      rw [if_neg (show ¬ ((l.length : Int) = n) by omega)] at e2
      omega
    · obtain rfl : n = l.length := by simp at hn; omega
      unfold cnt at hz
      rw [if_pos rfl] at e2
      omega
theorem pend_sum : ∀ l, May l → l.length + pendC (calls l) = 2 * (calls l).length := by
  refine snoc_ind (fun _ => rfl) (fun l x ih hm => ?_)
  obtain ⟨hm, hg⟩ := (may_snoc l x).1 hm
  have ih := ih hm
  rw [calls_snoc, List.length_append]
  rcases hg with ⟨h1, h2, h3, h4, h5⟩ | ⟨i, h1, h2, h3⟩
  · rw [upd_call h1 h4]
    unfold pendC at ih ⊢
    rw [List.countP_append, List.length_append]
    have e1 : [new x l.length].countP (fun c => decide (c.e < 0)) = 1 := by simp [new]
    rw [e1]
    show l.length + 1 + _ = 2 * ((calls l).length + 1)
    omega
  · obtain ⟨c', e0, ee⟩ : ∃ c' : Cl, upd x l.length (calls l) = (calls l).set i c' ∧ c'.e = l.length := ⟨_, upd_done hm h1 h2, rfl⟩
    rw [e0, List.length_set]
    have e1 := countP_set (fun c => decide (c.e < 0)) (calls l) i c' h1.1
    have he := h1.2.2
    simp only [decide_eq_true_eq, he, ee] at e1
    rw [if_pos (by decide), if_neg (by omega)] at e1
    unfold pendC at ih ⊢
    show l.length + 1 + _ = _
    omega

/-! A history that is cut off. -/
def cutc (k : Nat) (c : Cl) : Cl := if (k : Int) ≤ c.e then { c with e := -1, r := noR } else c
theorem cut_at : ∀ l (k : Nat), k ≤ l.length → (calls (l.take k)).length ≤ (calls l).length ∧ (∀ i, i < (calls (l.take k)).length → (calls (l.take k)).getD i noCl = cutc k ((calls l).getD i noCl)) ∧ (∀ i, (calls (l.take k)).length ≤ i → i < (calls l).length → (k : Int) ≤ ((calls l).getD i noCl).f) := by
  refine snoc_ind (fun k hk => ?_) (fun l x ih k hk => ?_)
  · obtain rfl : k = 0 := by simpa using hk
    exact ⟨Nat.le_refl _, fun i hi => by simp [calls_nil] at hi, fun i _ hi => by simp [calls_nil] at hi⟩
  · by_cases h : k ≤ l.length
    · have e : (l ++ [x]).take k = l.take k := List.take_append_of_le_length h
      rw [e, calls_snoc]
      obtain ⟨i1, i2, i3⟩ := ih k h
      refine ⟨by rw [upd_len]; omega, fun i hi => ?_, fun i hi hi2 => ?_⟩
      · rw [i2 i hi, upd_old _ _ _ _ (by omega)]
        have p := put_at l i (by omega)
        generalize (calls l).getD i noCl = c at p
        by_cases hc : c.t = x.t ∧ c.e = -1
        · rw [mk_yes hc]
          unfold cutc
          rw [if_neg (by rw [hc.2]; omega), if_pos (by show (k : Int) ≤ (l.length : Int); omega)]
          rcases p.e with ⟨h1, h2⟩ | ⟨h1, _⟩
          · cases c; simp_all
          · have := p.f0; omega
        · rw [mk_not hc]
      · by_cases h2 : i < (calls l).length
        · rw [upd_old _ _ _ _ h2, mk_f]
          exact i3 i hi h2
        · rw [upd_len] at hi2
          cases hd : x.d with
          | true => rw [hd] at hi2; simp at hi2; omega
          | false =>
            rw [hd] at hi2
            obtain rfl : i = (calls l).length := by simp at hi2; omega
            rw [upd_new _ _ _ hd]
            show (k : Int) ≤ (l.length : Int)
            omega
    · obtain rfl : k = l.length + 1 := by simp at hk; omega
      have e : (l ++ [x]).take (l.length + 1) = l ++ [x] := List.take_of_length_le (by simp)
      rw [e]
      refine ⟨Nat.le_refl _, fun i hi => ?_, fun i h1 h2 => by omega⟩
      have p := put_at (l ++ [x]) i hi
      unfold cutc
      rw [if_neg]
      have h2 : ((l ++ [x]).length : Int) = l.length + 1 := by simp
      have := p.e
      omega

/-! What comes next, and how many are ahead. -/
/-- Where the next event of an event's thread is. -/
def nxt (l : List Ev) (i : Nat) : Int := match (l.drop (i + 1)).findIdx? (fun y => decide (y.t = (l.getD i noEv).t)) with
  | some j => ((i + 1 + j : Nat) : Int)
  | none => -1
def nthN (l : List Ev) (i : Nat) : Nat := (l.take i).countP fun y => decide (y.t = (l.getD i noEv).t)
theorem drop_getD (l : List Ev) (i j : Nat) (h : i + j < l.length) : (l.drop i)[j]'(by simp; omega) = l.getD (i + j) noEv := by simp [List.getD_eq_getElem?_getD, h]
theorem nxt_here {l : List Ev} {i k : Nat} (hik : i < k) (hk : k < l.length) (ht : (l.getD k noEv).t = (l.getD i noEv).t) (hno : ∀ j, i < j → j < k → (l.getD j noEv).t ≠ (l.getD i noEv).t) : nxt l i = k := by
  unfold nxt
  have : (l.drop (i + 1)).findIdx? (fun y => decide (y.t = (l.getD i noEv).t)) = some (k - (i + 1)) := by
    rw [List.findIdx?_eq_some_iff_getElem]
    refine ⟨by simp; omega, ?_, fun j hj => ?_⟩
    · rw [drop_getD l (i + 1) _ (by omega), show i + 1 + (k - (i + 1)) = k by omega]
      simpa using ht
    · rw [drop_getD l (i + 1) j (by omega)]
      simpa using hno (i + 1 + j) (by omega) (by omega)
  rw [this]
  show ((i + 1 + (k - (i + 1)) : Nat) : Int) = k
  omega
theorem nxt_none {l : List Ev} {i : Nat} (hno : ∀ j, i < j → j < l.length → (l.getD j noEv).t ≠ (l.getD i noEv).t) : nxt l i = -1 := by
  unfold nxt
  have : (l.drop (i + 1)).findIdx? (fun y => decide (y.t = (l.getD i noEv).t)) = none := by
    rw [List.findIdx?_eq_none_iff]
    intro y hy
    obtain ⟨j, hj, rfl⟩ := List.getElem_of_mem hy
    rw [drop_getD l (i + 1) j (by simp at hj; omega)]
    simpa using hno (i + 1 + j) (by omega) (by simp at hj; omega)
  rw [this]
theorem nxt_cases (l : List Ev) (i : Nat) : (∃ k : Nat, nxt l i = k ∧ i < k ∧ k < l.length ∧ (l.getD k noEv).t = (l.getD i noEv).t ∧ ∀ j, i < j → j < k → (l.getD j noEv).t ≠ (l.getD i noEv).t) ∨ (nxt l i = -1 ∧ ∀ j, i < j → j < l.length → (l.getD j noEv).t ≠ (l.getD i noEv).t) := by
  cases hf : (l.drop (i + 1)).findIdx? (fun y => decide (y.t = (l.getD i noEv).t)) with
  | none =>
    rw [List.findIdx?_eq_none_iff] at hf
    have hno : ∀ j, i < j → j < l.length → (l.getD j noEv).t ≠ (l.getD i noEv).t := fun j h1 h2 => by
      have := hf (l.getD j noEv) (by
        exact List.mem_iff_getElem.2 ⟨j - (i + 1), by simp; omega, by rw [drop_getD l (i + 1) (j - (i + 1)) (by omega)]; congr 1; omega⟩)
      simpa using this
    exact .inr ⟨nxt_none hno, hno⟩
  | some j =>
    rw [List.findIdx?_eq_some_iff_getElem] at hf
    obtain ⟨h1, h2, h3⟩ := hf
    simp at h1
    rw [drop_getD l (i + 1) j (by omega)] at h2
    have hno : ∀ m, i < m → m < i + 1 + j → (l.getD m noEv).t ≠ (l.getD i noEv).t := fun m a b => by
      have := h3 (m - (i + 1)) (by omega)
      rw [drop_getD l (i + 1) _ (by omega), show i + 1 + (m - (i + 1)) = m by omega] at this
      simpa using this
    exact .inl ⟨i + 1 + j, nxt_here (by omega) (by omega) (by simpa using h2) hno, by omega, by omega, by simpa using h2, hno⟩
theorem nxt_snoc (l : List Ev) (x : Ev) (i : Nat) (hi : i < l.length) : nxt (l ++ [x]) i = if nxt l i = -1 ∧ (l.getD i noEv).t = x.t then (l.length : Int) else nxt l i := by
  have g : ∀ j, j < l.length → (l ++ [x]).getD j noEv = l.getD j noEv := fun j hj => getD_app l x j hj
  rcases nxt_cases l i with ⟨k, e, h1, h2, h3, h4⟩ | ⟨e, h4⟩
  · rw [e, if_neg (by omega)]
    refine nxt_here h1 (by simp; omega) (by rw [g k h2, g i hi]; exact h3) fun j a b => by rw [g j (by omega), g i hi]; exact h4 j a b
  · rw [e]
    by_cases ht : (l.getD i noEv).t = x.t
    · rw [if_pos ⟨rfl, ht⟩]
      refine nxt_here hi (by simp) (by rw [getD_last, g i hi]; exact ht.symm) fun j a b => by rw [g j b, g i hi]; exact h4 j a b
    · rw [if_neg (fun h => ht h.2)]
      refine nxt_none fun j a b => ?_
      rw [g i hi]
      by_cases hj : j < l.length
      · rw [g j hj]; exact h4 j a hj
      · obtain rfl : j = l.length := by simp at b; omega
        rw [getD_last]
        exact fun h => ht h.symm
theorem nxt_last (l : List Ev) (x : Ev) : nxt (l ++ [x]) l.length = -1 := nxt_none fun j a b => by simp at b; omega

/-- The document's calls: of the first k events. -/
def rcall (l : List Ev) (i : Nat) : Cl := ⟨(l.getD i noEv).t, (l.getD i noEv).o, i, nxt l i, if 0 ≤ nxt l i then (l.getD (nxt l i).toNat noEv).r else noR⟩
def rcalls (l : List Ev) (k : Nat) : List Cl := ((List.range k).filter fun i => !(l.getD i noEv).d).map (rcall l)
theorem rcalls_step (l : List Ev) (k : Nat) : rcalls l (k + 1) = rcalls l k ++ (if (l.getD k noEv).d then [] else [rcall l k]) := by
  unfold rcalls
  rw [List.range_succ, List.filter_append, List.map_append]
  cases h : (l.getD k noEv).d with
  | true => simp only [List.filter_cons, List.filter_nil, h, Bool.not_true, Bool.false_eq_true, if_false, if_true, List.map_nil]
  | false => simp only [List.filter_cons, List.filter_nil, h, Bool.not_false, Bool.false_eq_true, if_false, if_true, List.map_cons, List.map_nil]
theorem rcall_snoc (l : List Ev) (x : Ev) (i : Nat) (hi : i < l.length) : rcall (l ++ [x]) i = mk x l.length (rcall l i) := by
  unfold rcall
  rw [nxt_snoc l x i hi, getD_app l x i hi]
  by_cases h : nxt l i = -1 ∧ (l.getD i noEv).t = x.t
  · rw [if_pos h, mk_yes ⟨h.2, h.1⟩, if_pos (by omega), Int.toNat_natCast, getD_last]
  · rw [if_neg h, mk_not (fun h2 => h ⟨h2.2, h2.1⟩)]
    rcases nxt_cases l i with ⟨k, e, h1, h2, _⟩ | ⟨e, _⟩
    · rw [e, if_pos (by omega), if_pos (by omega), Int.toNat_natCast, getD_app l x k h2]
    · rw [e, if_neg (by omega), if_neg (by omega)]
theorem rcalls_all : ∀ l, rcalls l l.length = calls l := by
  refine snoc_ind rfl (fun l x ih => ?_)
  rw [calls_snoc, List.length_append, List.length_singleton, rcalls_step, getD_last]
  unfold upd
  congr 1
  · rw [← ih]
    unfold rcalls
    rw [List.map_map]
    have hf : (List.range l.length).filter (fun i => !((l ++ [x]).getD i noEv).d) = (List.range l.length).filter (fun i => !(l.getD i noEv).d) := by
      apply List.filter_congr
      intro i hi
      rw [getD_app l x i (by simpa using hi)]
    rw [hf]
    apply List.map_congr_left
    intro i hi
    simp only [List.mem_filter, List.mem_range] at hi
    exact rcall_snoc l x i hi.1
  · cases x.d with
    | true => rfl
    | false =>
      show [rcall (l ++ [x]) l.length] = [new x l.length]
      unfold rcall new
      rw [nxt_last, getD_last]
      rfl

/-- What the document asks of event i. -/
def RGood (l : List Ev) (i : Nat) : Prop :=
  (0 ≤ (l.getD i noEv).t ∧ (l.getD i noEv).t ≤ 63) ∧ ((l.getD i noEv).d = decide (nthN l i % 2 = 1)) ∧ ((l.getD i noEv).d = false → (l.getD i noEv).r = noR) ∧ ((l.getD i noEv).d = false → 0 ≤ nxt l i → (l.getD (nxt l i).toNat noEv).o = (l.getD i noEv).o)
def RMay (l : List Ev) : Prop := ∀ i, i < l.length → RGood l i
theorem nthN_app (l : List Ev) (x : Ev) (i : Nat) (hi : i < l.length) : nthN (l ++ [x]) i = nthN l i := by
  unfold nthN
  rw [List.take_append_of_le_length (by omega), getD_app l x i hi]
theorem nthN_last (l : List Ev) (x : Ev) : nthN (l ++ [x]) l.length = l.countP (fun y => decide (y.t = x.t)) := by
  unfold nthN
  rw [getD_last, List.take_left']
  rfl
/-- A thread has a call that is open just if it has an odd number of events. -/
theorem odd_open : ∀ l, May l → ∀ t, l.countP (fun y => decide (y.t = t)) % 2 = 1 ↔ ∃ i, Open (calls l) t i := by
  refine snoc_ind (fun _ t => ?_) (fun l x ih hm t => ?_)
  · simp [Open, calls_nil]
  · obtain ⟨hm, hg⟩ := (may_snoc l x).1 hm
    have ih := ih hm t
    rw [calls_snoc, List.countP_append]
    have e1 : [x].countP (fun y => decide (y.t = t)) = if x.t = t then 1 else 0 := by simp [List.countP_cons]
    rw [e1]
    rcases hg with ⟨h1, h2, h3, h4, h5⟩ | ⟨i, h1, h2, h3⟩
    · rw [upd_call h1 h4]
      by_cases ht : x.t = t
      · subst ht
        rw [if_pos rfl]
        have hno : ¬ ∃ i, Open (calls l) x.t i := fun ⟨i, h⟩ => h1 i h
        rw [← ih] at hno
        refine ⟨fun _ => ⟨(calls l).length, by simp, ?_, ?_⟩, fun _ => by omega⟩
        · simp [List.getD_eq_getElem?_getD, new]
        · simp [List.getD_eq_getElem?_getD, new]
      · rw [if_neg ht, Nat.add_zero, ih]
        constructor
        · rintro ⟨i, a, b, d⟩
          have e : (calls l ++ [new x l.length]).getD i noCl = (calls l).getD i noCl := by simp [List.getD_eq_getElem?_getD, List.getElem?_append_left a]
          exact ⟨i, by simp; omega, by rw [e]; exact b, by rw [e]; exact d⟩
        · rintro ⟨i, a, b, d⟩
          by_cases hi : i < (calls l).length
          · have e : (calls l ++ [new x l.length]).getD i noCl = (calls l).getD i noCl := by simp [List.getD_eq_getElem?_getD, List.getElem?_append_left hi]
            rw [e] at b d
            exact ⟨i, hi, b, d⟩
          · obtain rfl : i = (calls l).length := by simp at a; omega
            have e : (calls l ++ [new x l.length]).getD (calls l).length noCl = new x l.length := by simp [List.getD_eq_getElem?_getD]
            rw [e] at b
            exact absurd b ht
    · rw [upd_done hm h1 h2]
      have hset : ∀ j, j ≠ i → ((calls l).set i { (calls l).getD i noCl with e := l.length, r := x.r }).getD j noCl = (calls l).getD j noCl := fun j hj => by simp [List.getD_eq_getElem?_getD, Ne.symm hj]
      have hsame : ((calls l).set i { (calls l).getD i noCl with e := l.length, r := x.r }).getD i noCl = { (calls l).getD i noCl with e := l.length, r := x.r } := by simp [List.getD_eq_getElem?_getD, h1.1]
      by_cases ht : x.t = t
      · subst ht
        rw [if_pos rfl]
        have hy := ih.2 ⟨i, h1⟩
        refine ⟨fun h => by omega, ?_⟩
        rintro ⟨j, a, b, d⟩
        by_cases hj : j = i
        · subst hj
          rw [hsame] at d
          have d' : (l.length : Int) = -1 := d
          omega
        · rw [hset j hj] at b d
          exact absurd (one_open hm ⟨by simpa using a, b, d⟩ h1) hj
      · rw [if_neg ht, Nat.add_zero, ih]
        constructor
        · rintro ⟨j, a, b, d⟩
          have hj : j ≠ i := fun e => ht (by rw [← h1.2.1, ← b, e])
          exact ⟨j, by simpa using a, by rw [hset j hj]; exact b, by rw [hset j hj]; exact d⟩
        · rintro ⟨j, a, b, d⟩
          by_cases hj : j = i
          · subst hj
            rw [hsame] at d
            have d' : (l.length : Int) = -1 := d
            omega
          · rw [hset j hj] at b d
            exact ⟨j, by simpa using a, b, d⟩
/-- Of each call the document's event. -/
theorem call_event (l : List Ev) (i : Nat) (h : i < (calls l).length) : ∃ f, f < l.length ∧ (l.getD f noEv).d = false ∧ (calls l).getD i noCl = rcall l f := by
  rw [← rcalls_all] at h ⊢
  unfold rcalls at h ⊢
  have hm : ((List.map (rcall l) ((List.range l.length).filter fun i => !(l.getD i noEv).d)).getD i noCl) ∈ List.map (rcall l) ((List.range l.length).filter fun i => !(l.getD i noEv).d) := by
    rw [List.getD_eq_getElem?_getD, List.getElem?_eq_getElem h]
    exact List.getElem_mem _
  obtain ⟨f, hf, e⟩ := List.mem_map.1 hm
  simp only [List.mem_filter, List.mem_range, Bool.not_eq_true'] at hf
  exact ⟨f, hf.1, hf.2, e.symm⟩
theorem event_call (l : List Ev) (f : Nat) (hf : f < l.length) (hd : (l.getD f noEv).d = false) : ∃ i, i < (calls l).length ∧ (calls l).getD i noCl = rcall l f := by
  rw [← rcalls_all]
  unfold rcalls
  have hm : rcall l f ∈ List.map (rcall l) ((List.range l.length).filter fun i => !(l.getD i noEv).d) := List.mem_map.2 ⟨f, by rw [List.mem_filter]; exact ⟨List.mem_range.2 hf, by rw [hd]; rfl⟩, rfl⟩
  obtain ⟨i, hi, e⟩ := List.getElem_of_mem hm
  exact ⟨i, hi, by rw [List.getD_eq_getElem?_getD, List.getElem?_eq_getElem hi]; exact e⟩
theorem rmay_iff : ∀ l, RMay l ↔ May l := by
  refine snoc_ind ⟨fun _ => May.nil, fun _ i h => by cases h⟩ (fun l x ih => ?_)
  rw [may_snoc, ← ih]
  have hlen : (l ++ [x]).length = l.length + 1 := by simp
  constructor
  · intro h
    have hR : RMay l := fun i hi => by
      obtain ⟨a, b, c, d⟩ := h i (by omega)
      rw [getD_app l x i hi] at a b c d
      rw [nthN_app l x i hi] at b
      refine ⟨a, b, c, fun h1 h2 => ?_⟩
      have e := nxt_snoc l x i hi
      rw [if_neg (by omega)] at e
      have := d h1 (by rw [e]; exact h2)
      rw [e] at this
      rcases nxt_cases l i with ⟨k, e2, _, h4, _⟩ | ⟨e2, _⟩
      · rw [e2, Int.toNat_natCast] at this ⊢
        rwa [getD_app l x k h4] at this
      · omega
    refine ⟨hR, ?_⟩
    have hm := ih.1 hR
    obtain ⟨a, b, c, d⟩ := h l.length (by omega)
    rw [getD_last] at a b c d
    rw [nthN_last] at b
    by_cases ho : ∃ i, Open (calls l) x.t i
    · have h1 := (odd_open l hm x.t).2 ho
      rw [h1] at b
      obtain ⟨i, ho⟩ := ho
      refine .inr ⟨i, ho, by simpa using b, ?_⟩
      obtain ⟨f, h2, h3, h4⟩ := call_event l i ho.1
      have h5 := ho.2
      rw [h4] at h5 ⊢
      have ht : (l.getD f noEv).t = x.t := h5.1
      have hn : nxt l f = -1 := h5.2
      obtain ⟨_, _, _, d2⟩ := h f (by omega)
      rw [getD_app l x f h2, nxt_snoc l x f h2, if_pos ⟨hn, ht⟩] at d2
      have := d2 h3 (by omega)
      rw [Int.toNat_natCast, getD_last] at this
      exact this
    · have h1 : ¬ _ := fun h => ho ((odd_open l hm x.t).1 h)
      have b' : x.d = false := by rw [b]; simpa using h1
      exact .inl ⟨fun i hi => ho ⟨i, hi⟩, a.1, by omega, b', c b'⟩
  · rintro ⟨hR, hg⟩ i hi
    have hm := ih.1 hR
    by_cases h : i < l.length
    · obtain ⟨a, b, c, d⟩ := hR i h
      unfold RGood
      rw [getD_app l x i h, nthN_app l x i h]
      refine ⟨a, b, c, fun h1 h2 => ?_⟩
      rw [nxt_snoc l x i h] at h2 ⊢
      by_cases hn : nxt l i = -1 ∧ (l.getD i noEv).t = x.t
      · rw [if_pos hn, Int.toNat_natCast, getD_last]
        obtain ⟨j, hj, e⟩ := event_call l i h h1
        have ho : Open (calls l) x.t j := ⟨hj, by rw [e]; exact hn.2, by rw [e]; exact hn.1⟩
        rcases hg with ⟨g1, _⟩ | ⟨j2, g1, _, g3⟩
        · exact absurd ho (g1 j)
        · obtain rfl := one_open hm g1 ho
          rw [e] at g3
          exact g3
      · rw [if_neg hn] at h2 ⊢
        rcases nxt_cases l i with ⟨k, e2, _, h4, _⟩ | ⟨e2, _⟩
        · have := d h1 h2
          rw [e2, Int.toNat_natCast] at this ⊢
          rwa [getD_app l x k h4]
        · omega
    · obtain rfl : i = l.length := by omega
      unfold RGood
      rw [getD_last, nthN_last, nxt_last]
      rcases hg with ⟨g1, g2, g3, g4, g5⟩ | ⟨j, g1, g2, g3⟩
      · have hno : ¬ _ := fun h => by
          obtain ⟨i, hi⟩ := (odd_open l hm x.t).1 h
          exact g1 i hi
        refine ⟨⟨g2, by omega⟩, g4.trans (Eq.symm (decide_eq_false hno)), fun _ => g5, fun _ h => by omega⟩
      · have hy := (odd_open l hm x.t).2 ⟨j, g1⟩
        have ht := (threads l hm j g1.1).1
        rw [g1.2.1] at ht
        exact ⟨⟨ht.1, by omega⟩, (by rw [g2, hy]; rfl), (fun h => by rw [g2] at h; cases h), (fun _ h => by omega)⟩
end Go.Proofs.Ytfefkdedgceomaa
