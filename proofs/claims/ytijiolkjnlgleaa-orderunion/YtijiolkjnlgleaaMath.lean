/- Plain mathematics for layer 9: the set of a list's numbers, the least number that passes, lists that rise. No program, no conditions. -/
namespace Go.Proofs.Ytijiolkjnlgleaa

/-- The numbers rise. -/
abbrev Up (l : List Int) : Prop := l.Pairwise (· < ·)

/-- Put among those that rise. -/
def ins (x : Int) : List Int → List Int
  | [] => [x]
  | y :: r => if x < y then x :: y :: r else if x = y then y :: r else y :: ins x r

/-- The set of a list's numbers. -/
def sset (l : List Int) : List Int := l.foldr ins []

theorem mem_ins {x z : Int} : ∀ {l : List Int}, z ∈ ins x l ↔ z = x ∨ z ∈ l
  | [] => by simp [ins]
  | y :: r => by
    unfold ins
    split
    · simp
    · split
      · rename_i h; subst h; simp
      · simp only [List.mem_cons, mem_ins (l := r)]
        constructor
        · rintro (h | h | h) <;> simp [h]
        · rintro (h | h | h) <;> simp [h]

theorem up_ins {x : Int} : ∀ {l : List Int}, Up l → Up (ins x l)
  | [], _ => by simp [ins, Up]
  | y :: r, h => by
    obtain ⟨h1, h2⟩ := List.pairwise_cons.1 h
    unfold ins
    split
    · rename_i c
      refine List.pairwise_cons.2 ⟨fun z hz => ?_, h⟩
      rcases List.mem_cons.1 hz with rfl | hz
      · exact c
      · have := h1 z hz; omega
    · split
      · exact h
      · rename_i c d
        refine List.pairwise_cons.2 ⟨fun z hz => ?_, up_ins h2⟩
        rcases mem_ins.1 hz with rfl | hz
        · omega
        · exact h1 z hz

theorem mem_sset {z : Int} : ∀ {l : List Int}, z ∈ sset l ↔ z ∈ l
  | [] => by simp [sset]
  | x :: r => by
    have := mem_sset (z := z) (l := r)
    simp only [sset, List.foldr_cons, mem_ins, List.mem_cons] at *
    rw [this]

theorem up_sset : ∀ l : List Int, Up (sset l)
  | [] => List.Pairwise.nil
  | _ :: r => up_ins (up_sset r)

/-- Two that rise, and have the same numbers, are one. -/
theorem up_ext : ∀ {a b : List Int}, Up a → Up b → (∀ z, z ∈ a ↔ z ∈ b) → a = b
  | [], [], _, _, _ => rfl
  | [], y :: _, _, _, h => by have := (h y).2 (by simp); simp at this
  | x :: _, [], _, _, h => by have := (h x).1 (by simp); simp at this
  | x :: r, y :: q, ha, hb, h => by
    obtain ⟨a1, a2⟩ := List.pairwise_cons.1 ha
    obtain ⟨b1, b2⟩ := List.pairwise_cons.1 hb
    have e : x = y := by
      have h1 := (h x).1 (by simp)
      have h2 := (h y).2 (by simp)
      rcases List.mem_cons.1 h1 with e | h1
      · exact e
      rcases List.mem_cons.1 h2 with e | h2
      · exact e.symm
      have := a1 y h2
      have := b1 x h1
      omega
    subst e
    have : r = q := up_ext a2 b2 fun z => by
      have hz := h z
      simp only [List.mem_cons] at hz
      constructor
      · intro hr
        rcases hz.1 (.inr hr) with e | e
        · subst e; exact absurd (a1 z hr) (by omega)
        · exact e
      · intro hq
        rcases hz.2 (.inr hq) with e | e
        · subst e; exact absurd (b1 z hq) (by omega)
        · exact e
    rw [this]

theorem sset_of {l s : List Int} (hs : Up s) (h : ∀ z, z ∈ s ↔ z ∈ l) : s = sset l := up_ext hs (up_sset l) fun z => (h z).trans mem_sset.symm
theorem sset_same {a b : List Int} (h : ∀ z, z ∈ a ↔ z ∈ b) : sset a = sset b := sset_of (up_sset a) fun z => mem_sset.trans (h z)
theorem sset_iff {a b : List Int} : sset a = sset b ↔ ∀ z, z ∈ a ↔ z ∈ b := ⟨fun e z => by rw [← mem_sset, e, mem_sset], sset_same⟩
theorem sset_sset (l : List Int) : sset (sset l) = sset l := sset_same fun _ => mem_sset
theorem sset_up {l : List Int} : sset l = l ↔ Up l := ⟨fun e => e ▸ up_sset l, fun h => (sset_of h fun _ => Iff.rfl).symm⟩
theorem sset_turn (l : List Int) (k : Nat) : sset (l.drop k ++ l.take k) = sset l := sset_same fun z => by
  rw [List.mem_append, or_comm, ← List.mem_append, List.take_append_drop]
theorem sset_swap (a b : List Int) : sset (a ++ b) = sset (b ++ a) := sset_same fun z => by simp [or_comm]

theorem len_ins (x : Int) : ∀ l : List Int, (ins x l).length ≤ l.length + 1
  | [] => by simp [ins]
  | y :: r => by
    unfold ins
    have := len_ins x r
    split
    · simp
    · split
      · simp
      · simp; exact this
theorem len_sset : ∀ l : List Int, (sset l).length ≤ l.length
  | [] => Nat.le_refl _
  | x :: r => by
    have h1 := len_ins x (sset r)
    have h2 := len_sset r
    simp only [List.length_cons]
    exact Nat.le_trans h1 (Nat.succ_le_succ h2)

/-- What is sorted, and has each once, is the set. -/
theorem sorted_sset {ss l : List Int} (hn : ss.Nodup) (h : ∀ z, z ∈ ss ↔ z ∈ l) : ss.mergeSort (fun x y => decide (x ≤ y)) = sset l := by
  have p := List.mergeSort_perm ss (fun x y => decide (x ≤ y))
  have s := List.pairwise_mergeSort (le := fun x y : Int => decide (x ≤ y)) (fun a b c h1 h2 => by simp only [decide_eq_true_eq] at *; omega) (fun a b => by simp only [Bool.or_eq_true, decide_eq_true_eq]; omega) ss
  refine sset_of ?_ fun z => p.mem_iff.trans (h z)
  have hn' := p.nodup_iff.2 hn
  refine (s.and hn').imp fun {a b} hab => ?_
  have h1 := hab.1
  have h2 := hab.2
  simp only [decide_eq_true_eq] at h1
  omega

/-- The least one that passes, and whether there is one. -/
def pick (p : Int → Bool) (l : List Int) : Int × Bool := l.foldl (fun s x => if p x && (!s.2 || decide (x < s.1)) then (x, true) else s) (0, false)

theorem pick_snoc (p : Int → Bool) (l : List Int) (x : Int) : pick p (l ++ [x]) = if p x && (!(pick p l).2 || decide (x < (pick p l).1)) then (x, true) else pick p l := by
  simp [pick, List.foldl_append]

theorem pick_nil (p : Int → Bool) : pick p [] = (0, false) := rfl

/-- What it is. -/
def Picked (p : Int → Bool) (l : List Int) (s : Int × Bool) : Prop :=
  (s.2 = false → s.1 = 0 ∧ ∀ x ∈ l, p x = false) ∧ (s.2 = true → s.1 ∈ l ∧ p s.1 = true ∧ ∀ x ∈ l, p x = true → s.1 ≤ x)

theorem picked_step {p : Int → Bool} {l : List Int} {s : Int × Bool} (h : Picked p l s) (x : Int) : Picked p (l ++ [x]) (if p x && (!s.2 || decide (x < s.1)) then (x, true) else s) := by
  obtain ⟨b, m⟩ := s
  obtain ⟨h0, h1⟩ := h
  simp only at h0 h1
  cases hp : p x
  · simp only [Bool.false_and, Bool.false_eq_true, if_false]
    refine ⟨fun hm => ?_, fun hm => ?_⟩
    · obtain ⟨e, ha⟩ := h0 hm
      refine ⟨e, fun y hy => ?_⟩
      rcases List.mem_append.1 hy with hy | hy
      · exact ha y hy
      · simp at hy; subst hy; exact hp
    · obtain ⟨e, hb, ha⟩ := h1 hm
      refine ⟨by simp [e], hb, fun y hy hy2 => ?_⟩
      rcases List.mem_append.1 hy with hy | hy
      · exact ha y hy hy2
      · simp at hy; subst hy; rw [hp] at hy2; cases hy2
  · cases m
    · simp only [Bool.not_false, Bool.true_or, Bool.and_self, if_true]
      refine ⟨fun hm => by simp at hm, fun _ => ⟨by simp, hp, fun y hy hy2 => ?_⟩⟩
      rcases List.mem_append.1 hy with hy | hy
      · rw [(h0 rfl).2 y hy] at hy2; cases hy2
      · simp at hy; subst hy; exact Int.le_refl _
    · obtain ⟨e, hb, ha⟩ := h1 rfl
      by_cases c : x < b
      · simp only [c, decide_true, Bool.or_true, Bool.and_self, if_true]
        refine ⟨fun hm => by simp at hm, fun _ => ⟨by simp, hp, fun y hy hy2 => ?_⟩⟩
        rcases List.mem_append.1 hy with hy | hy
        · have := ha y hy hy2; omega
        · simp at hy; subst hy; exact Int.le_refl _
      · simp only [c, decide_false, Bool.not_true, Bool.or_self, Bool.and_false, Bool.false_eq_true, if_false]
        refine ⟨fun hm => by simp at hm, fun _ => ⟨by simp [e], hb, fun y hy hy2 => ?_⟩⟩
        rcases List.mem_append.1 hy with hy | hy
        · exact ha y hy hy2
        · simp at hy; subst hy; omega

theorem picked_fold {p : Int → Bool} : ∀ (r l : List Int) (s : Int × Bool), Picked p l s → Picked p (l ++ r) (r.foldl (fun s x => if p x && (!s.2 || decide (x < s.1)) then (x, true) else s) s)
  | [], l, s, h => by simpa using h
  | x :: r, l, s, h => by
    have := picked_fold r (l ++ [x]) _ (picked_step h x)
    simpa using this

theorem pick_picked (p : Int → Bool) (l : List Int) : Picked p l (pick p l) := by
  have := picked_fold (p := p) l [] (0, false) ⟨fun _ => ⟨rfl, by simp⟩, fun h => by simp at h⟩
  simpa [pick] using this

theorem picked_one {p : Int → Bool} {l : List Int} {s t : Int × Bool} (h : Picked p l s) (k : Picked p l t) : s = t := by
  obtain ⟨b, m⟩ := s
  obtain ⟨c, n⟩ := t
  obtain ⟨h0, h1⟩ := h
  obtain ⟨k0, k1⟩ := k
  simp only at h0 h1 k0 k1
  cases m <;> cases n
  · rw [(h0 rfl).1, (k0 rfl).1]
  · obtain ⟨e, f, _⟩ := k1 rfl
    rw [(h0 rfl).2 c e] at f; cases f
  · obtain ⟨e, f, _⟩ := h1 rfl
    rw [(k0 rfl).2 b e] at f; cases f
  · obtain ⟨e, f, g⟩ := h1 rfl
    obtain ⟨e', f', g'⟩ := k1 rfl
    have := g c e' f'
    have := g' b e f
    obtain rfl : b = c := by omega
    rfl

/-- The one behind in the set of them. -/
theorem pick_above {l pre r : List Int} {n x : Int} (h : sset l = pre ++ x :: r) (hpre : ∀ z ∈ pre, z ≤ n) (hx : n < x) : pick (fun m => decide (n < m)) l = (x, true) := by
  refine picked_one (pick_picked _ _) ⟨fun hm => by simp at hm, fun _ => ⟨mem_sset.1 (by rw [h]; simp), by simpa using hx, fun z hz hz2 => ?_⟩⟩
  have hz' : z ∈ pre ++ x :: r := h ▸ mem_sset.2 hz
  have hup := up_sset l
  rw [h] at hup
  have hxr := (List.pairwise_cons.1 (List.pairwise_append.1 hup).2.1).1
  simp only [decide_eq_true_eq] at hz2
  rcases List.mem_append.1 hz' with hz' | hz'
  · have := hpre z hz'; omega
  · rcases List.mem_cons.1 hz' with rfl | hz'
    · exact Int.le_refl _
    · exact Int.le_of_lt (hxr z hz')

theorem pick_none {l : List Int} {n : Int} (h : ∀ z ∈ sset l, z ≤ n) : pick (fun m => decide (n < m)) l = (0, false) := by
  refine picked_one (pick_picked _ _) ⟨fun _ => ⟨rfl, fun z hz => ?_⟩, fun hm => by simp at hm⟩
  have := h z (mem_sset.2 hz)
  simp; omega

/-- Those that are not yet in. -/
def left (out l : List Int) : Nat := (l.filter fun x => !out.contains x).length

theorem left_less {out : List Int} {b : Int} : ∀ {l : List Int}, b ∈ l → b ∉ out → left (out ++ [b]) l < left out l
  | x :: r, h, hb => by
    have hmono : ∀ q : List Int, left (out ++ [b]) q ≤ left out q := fun q => by
      unfold left
      induction q with
      | nil => simp
      | cons y q ih =>
        simp only [List.filter_cons]
        by_cases c : y ∈ out
        · have c' : (out ++ [b]).contains y = true := by simp [c]
          have c2 : out.contains y = true := by simp [c]
          simp only [c', c2, Bool.not_true, Bool.false_eq_true, if_false]
          exact ih
        · have c2 : out.contains y = false := by simp [c]
          simp only [c2, Bool.not_false, if_true, List.length_cons]
          split
          · simp only [List.length_cons]; omega
          · omega
    by_cases e : x = b
    · subst e
      have := hmono r
      unfold left at *
      simp [hb]
      simp at this
      omega
    · have hr : b ∈ r := by rcases List.mem_cons.1 h with h | h; · exact absurd h.symm e
                            · exact h
      have ih := left_less hr hb
      unfold left at *
      simp only [List.filter_cons]
      by_cases c : x ∈ out
      · have c1 : (out ++ [b]).contains x = true := by simp [c]
        have c2 : out.contains x = true := by simp [c]
        simp only [c1, c2, Bool.not_true, Bool.false_eq_true, if_false]
        exact ih
      · have c1 : (out ++ [b]).contains x = false := by simp [c, e]
        have c2 : out.contains x = false := by simp [c]
        simp only [c1, c2, Bool.not_false, if_true, List.length_cons]
        omega

/-- What the document's Set has after k rounds. -/
def Some_ (l : List Int) (k : Nat) (out : List Int) : Prop :=
  Up out ∧ (∀ x ∈ out, x ∈ l) ∧ (∀ x ∈ l, x ∉ out → ∀ y ∈ out, y < x) ∧ left out l ≤ l.length - k ∧ out.length ≤ k

theorem some_start (l : List Int) : Some_ l 0 [] := by
  refine ⟨List.Pairwise.nil, by simp, by simp, ?_, by simp⟩
  exact List.length_filter_le _ _

theorem some_yes {l out : List Int} {k : Nat} {b : Int} (h : Some_ l k out) (hp : pick (fun x => !out.contains x) l = (b, true)) : Some_ l (k + 1) (out ++ [b]) := by
  obtain ⟨h1, h2, h3, h4, h5⟩ := h
  have hk := (pick_picked (fun x => !out.contains x) l).2
  rw [hp] at hk
  obtain ⟨e1, e2, e3⟩ := hk rfl
  simp only at e1 e2 e3
  have hb : b ∉ out := by simpa using e2
  refine ⟨List.pairwise_append.2 ⟨h1, by simp, fun x hx y hy => ?_⟩, fun x hx => ?_, fun x hx hn y hy => ?_, ?_, by simp; exact h5⟩
  · simp at hy; subst hy; exact h3 _ e1 hb x hx
  · rcases List.mem_append.1 hx with hx | hx
    · exact h2 x hx
    · simp at hx; subst hx; exact e1
  · simp only [List.mem_append, List.mem_singleton, not_or] at hn
    rcases List.mem_append.1 hy with hy | hy
    · exact h3 x hx hn.1 y hy
    · simp at hy; subst hy
      have := e3 x hx (by simpa using hn.1)
      have := hn.2
      omega
  · have := left_less e1 hb
    omega

theorem some_no {l out : List Int} {k : Nat} {b : Int} (h : Some_ l k out) (hp : pick (fun x => !out.contains x) l = (b, false)) : Some_ l (k + 1) out := by
  obtain ⟨h1, h2, h3, h4, h5⟩ := h
  have hk := (pick_picked (fun x => !out.contains x) l).1
  rw [hp] at hk
  obtain ⟨_, e⟩ := hk rfl
  refine ⟨h1, h2, h3, ?_, by omega⟩
  have : left out l = 0 := by
    unfold left
    rw [List.length_eq_zero_iff, List.filter_eq_nil_iff]
    intro a ha
    have := e a ha
    simp only at this
    rw [this]
    simp
  omega

theorem some_end {l out : List Int} (h : Some_ l l.length out) : out = sset l := by
  obtain ⟨h1, h2, _, h4, _⟩ := h
  refine sset_of h1 fun z => ⟨h2 z, fun hz => ?_⟩
  have h0 : left out l = 0 := by omega
  unfold left at h0
  rw [List.length_eq_zero_iff, List.filter_eq_nil_iff] at h0
  simpa using h0 z hz

/-- Rises, number by number. -/
def Ups (l : List Int) : Prop := ∀ i, i + 1 < l.length → l.getD i 0 < l.getD (i + 1) 0

theorem ups_iff : ∀ l : List Int, Ups l ↔ Up l
  | [] => by simp [Ups, Up]
  | [x] => by simp [Ups, Up]
  | x :: y :: r => by
    have ih := ups_iff (y :: r)
    have e : Ups (x :: y :: r) ↔ x < y ∧ Ups (y :: r) := by
      constructor
      · intro h
        exact ⟨h 0 (by simp), fun i hi => h (i + 1) (by simp at hi ⊢; omega)⟩
      · rintro ⟨h1, h2⟩ i hi
        cases i with
        | zero => exact h1
        | succ i => exact h2 i (by simp at hi ⊢; omega)
    rw [e, ih]
    constructor
    · rintro ⟨h1, h2⟩
      refine List.pairwise_cons.2 ⟨fun z hz => ?_, h2⟩
      rcases List.mem_cons.1 hz with rfl | hz
      · exact h1
      · have := (List.pairwise_cons.1 h2).1 z hz; omega
    · intro h
      obtain ⟨h1, h2⟩ := List.pairwise_cons.1 h
      exact ⟨h1 y (by simp), h2⟩

/-- Each number of a is in b. -/
def within (a b : List Int) : Bool := a.all fun x => b.contains x
theorem within_iff {a b : List Int} : within a b = true ↔ ∀ z ∈ a, z ∈ b := by simp [within]

theorem contains_take {l : List Int} {n : Int} {k : Nat} (hk : k < l.length) : (l.take (k + 1)).contains n = ((l.take k).contains n || (l.getD k 0 == n)) := by
  rw [List.take_add_one, List.getElem?_eq_getElem hk]
  have e : l.getD k 0 = l[k] := by simp [hk]
  rw [e, Bool.eq_iff_iff]
  simp only [Option.toList, List.contains_iff_mem, List.mem_append, List.mem_singleton, Bool.or_eq_true, beq_iff_eq]
  exact or_congr_right eq_comm

theorem take_snoc {l : List Int} {k : Nat} (hk : k < l.length) : l.take (k + 1) = l.take k ++ [l.getD k 0] := by
  rw [List.take_add_one, List.getElem?_eq_getElem hk]
  simp [hk]

end Go.Proofs.Ytijiolkjnlgleaa
