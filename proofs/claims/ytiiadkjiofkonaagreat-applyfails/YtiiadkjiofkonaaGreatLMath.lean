/- Plain mathematics of a graph that may be: its numbers are apart, each edge has its ends among the nodes. -/
import Derived.Test.YtiiadkjiofkonaaGreatGMay
import Derived.Test.YtiiadkjiofkonaaGreatGNear
namespace Go.Proofs.YtiiadkjiofkonaaGreat
open Go.RowKit
set_option linter.unusedVariables false

section
variable {α : Type} {f : α → Int} {d : α} {l : List α}
theorem Rise.lt (h : Rise f d l) : ∀ j i, i < j → j < l.length → f (l.getD i d) < f (l.getD j d)
  | 0, i, hi, _ => by omega
  | j + 1, i, hi, hj => by
    have h1 := h j hj
    by_cases e : i = j
    · subst e; exact h1
    · have := Rise.lt h j i (by omega) (by omega)
      omega
theorem Rise.apart (h : Rise f d l) : (l.map f).Nodup := by
  rw [List.nodup_iff_pairwise_ne, List.pairwise_iff_getElem]
  intro i j hi hj hij
  simp only [List.length_map] at hi hj
  have := Rise.lt h j i hij hj
  simp only [List.getElem_map]
  simp only [List.getD_eq_getElem?_getD, List.getElem?_eq_getElem hi, List.getElem?_eq_getElem hj, Option.getD_some] at this
  omega
end
theorem isN_mem {G : GL} {x : Int} (h : isN G x = true) : x ∈ G.N.map fun z : Nd => z.1 := by
  by_cases hm : x ∈ G.N.map fun z : Nd => z.1
  · exact hm
  · have h0 : atf (fun z : Nd => z.1) G.N x = -1 := atf_none (d := (0, [])) fun j hj e => hm (by
      rw [List.mem_map]
      refine ⟨G.N.getD j (0, []), ?_, e⟩
      rw [List.getD_eq_getElem?_getD, List.getElem?_eq_getElem hj]
      exact List.getElem_mem hj)
    unfold isN at h
    rw [h0] at h
    simp at h
theorem sum_none : ∀ (l : List Int) (x : Int), x ∉ l → (l.map fun a => if x == a then 1 else 0).sum = 0
  | [], x, _ => rfl
  | a :: l, x, h => by
    have h1 : (x == a) = false := by simpa using fun e => h (by simp [e])
    have := sum_none l x (fun hm => h (by simp [hm]))
    simp only [List.map_cons, List.sum_cons, h1, this]
    rfl
theorem sum_one : ∀ (l : List Int) (x : Int), l.Nodup → x ∈ l → (l.map fun a => if x == a then 1 else 0).sum = 1
  | [], x, _, h => by cases h
  | a :: l, x, hd, h => by
    rw [List.nodup_cons] at hd
    by_cases e : x = a
    · subst e
      have := sum_none l x hd.1
      simp only [List.map_cons, List.sum_cons, beq_self_eq_true, this, if_true]
    · have h1 : (x == a) = false := by simpa using e
      have := sum_one l x hd.2 (by simpa [e] using h)
      simp only [List.map_cons, List.sum_cons, h1, this]
      rfl
theorem sum_add (l : List Int) (f g : Int → Nat) : (l.map fun a => f a + g a).sum = (l.map f).sum + (l.map g).sum := by
  induction l with
  | nil => rfl
  | cons a l ih => simp only [List.map_cons, List.sum_cons, ih]; omega
theorem sum_filter {f : Ed → Int} {l : List Int} (hd : l.Nodup) : ∀ E : List Ed, (∀ e ∈ E, f e ∈ l) → (l.map fun a => (E.filter fun d => f d == a).length).sum = E.length
  | [], _ => by
    simp only [List.filter_nil, List.length_nil]
    clear hd
    induction l with
    | nil => rfl
    | cons a l ih => simpa using ih
  | e :: E, h => by
    have h1 := sum_filter hd E fun x hx => h x (by simp [hx])
    have h2 := sum_one l (f e) hd (h e (by simp))
    have h3 : (l.map fun a => ((e :: E).filter fun d => f d == a).length) = l.map fun a => (if f e == a then 1 else 0) + (E.filter fun d => f d == a).length := by
      refine List.map_congr_left fun a _ => ?_
      rw [List.filter_cons]
      cases hb : (f e == a) <;> simp <;> omega
    rw [h3, sum_add, h1, h2, List.length_cons]
    omega
/-- How many edges the first k nodes have: from them, to them. -/
def outsN (G : GL) (k : Nat) : Nat := ((G.N.take k).map fun z => (outs G z.1).length).sum
def insN (G : GL) (k : Nat) : Nat := ((G.N.take k).map fun z => (ins G z.1).length).sum
section
variable {G : GL} {c0 c1 c2 c3 c4 : Int} {k m : Nat}
theorem outsN_succ (hk : k < G.N.length) : outsN G (k + 1) = outsN G k + (outs G (G.N.getD k (0, [])).1).length := by
  unfold outsN
  rw [getD_take (d := (0, [])) hk]
  simp
theorem insN_succ (hk : k < G.N.length) : insN G (k + 1) = insN G k + (ins G (G.N.getD k (0, [])).1).length := by
  unfold insN
  rw [getD_take (d := (0, [])) hk]
  simp
theorem outs_le (x : Int) : (outs G x).length ≤ G.E.length := by unfold outs; rw [List.length_map]; exact List.length_filter_le _ _
theorem ins_le (x : Int) : (ins G x).length ≤ G.E.length := by unfold ins; rw [List.length_map]; exact List.length_filter_le _ _
theorem Okg.ids (o : Okg c0 c1 c2 c3 c4 G) : (G.N.map fun z : Nd => z.1).Nodup := o.nr.apart
theorem Okg.ends (o : Okg c0 c1 c2 c3 c4 G) : ∀ e ∈ G.E, e.2.1 ∈ (G.N.map fun z : Nd => z.1) ∧ e.2.2 ∈ (G.N.map fun z : Nd => z.1) := by
  intro e he
  obtain ⟨i, hi, rfl⟩ := List.getElem_of_mem he
  have := o.ee i hi
  rw [List.getD_eq_getElem?_getD, List.getElem?_eq_getElem hi] at this
  exact ⟨isN_mem this.1, isN_mem this.2⟩
theorem outsN_all (o : Okg c0 c1 c2 c3 c4 G) : outsN G G.N.length = G.E.length := by
  have := sum_filter (f := fun e => e.2.1) o.ids G.E fun e he => (o.ends e he).1
  unfold outsN outs
  rw [List.take_length]
  simp only [List.length_map]
  rw [List.map_map] at this
  exact this
theorem insN_all (o : Okg c0 c1 c2 c3 c4 G) : insN G G.N.length = G.E.length := by
  have := sum_filter (f := fun e => e.2.2) o.ids G.E fun e he => (o.ends e he).2
  unfold insN ins
  rw [List.take_length]
  simp only [List.length_map]
  rw [List.map_map] at this
  exact this
theorem outs_mem {x : Int} (hm : m < (outs G x).length) : (((outs G x).getD m (0, 0)).1, x, ((outs G x).getD m (0, 0)).2) ∈ G.E := by
  have h : (outs G x).getD m (0, 0) ∈ outs G x := by rw [List.getD_eq_getElem?_getD, List.getElem?_eq_getElem hm]; exact List.getElem_mem hm
  unfold outs at h
  rw [List.mem_map] at h
  obtain ⟨d, hd, e⟩ := h
  rw [List.mem_filter] at hd
  rw [show (outs G x).getD m (0, 0) = (d.1, d.2.2) from e.symm]
  have h2 : d.2.1 = x := by simpa using hd.2
  rw [← h2]
  exact hd.1
theorem ins_mem {x : Int} (hm : m < (ins G x).length) : (((ins G x).getD m (0, 0)).1, ((ins G x).getD m (0, 0)).2, x) ∈ G.E := by
  have h : (ins G x).getD m (0, 0) ∈ ins G x := by rw [List.getD_eq_getElem?_getD, List.getElem?_eq_getElem hm]; exact List.getElem_mem hm
  unfold ins at h
  rw [List.mem_map] at h
  obtain ⟨d, hd, e⟩ := h
  rw [List.mem_filter] at hd
  rw [show (ins G x).getD m (0, 0) = (d.1, d.2.1) from e.symm]
  have h2 : d.2.2 = x := by simpa using hd.2
  rw [← h2]
  exact hd.1
/-- How often an edge is among the first k. -/
def metN (E : List Ed) (k : Nat) (e : Ed) : Nat := (E.take k).countP (· == e)
theorem metN_succ {E : List Ed} {e : Ed} (hk : k < E.length) : metN E (k + 1) e = metN E k e + if E.getD k (0, 0, 0) == e then 1 else 0 := by
  unfold metN
  rw [getD_take (d := (0, 0, 0)) hk, List.countP_append, List.countP_singleton]
theorem count_one : ∀ (E : List Ed) (e : Ed), (E.map fun z : Ed => z.1).Nodup → e ∈ E → E.countP (· == e) = 1
  | [], e, _, h => by cases h
  | a :: E, e, hd, h => by
    rw [List.map_cons, List.nodup_cons] at hd
    rw [List.countP_cons]
    by_cases ea : a = e
    · subst ea
      have : E.countP (· == a) = 0 := by
        rw [List.countP_eq_zero]
        intro b hb eb
        have : b = a := by simpa using eb
        subst this
        exact hd.1 (List.mem_map_of_mem hb)
      simp [this]
    · have h1 := count_one E e hd.2 (by rcases List.mem_cons.1 h with h | h; · exact absurd h.symm ea
                                        · exact h)
      have : (a == e) = false := by simpa using ea
      simp [h1, this]
theorem metN_all {e : Ed} (o : Okg c0 c1 c2 c3 c4 G) (he : e ∈ G.E) : metN G.E G.E.length e = 1 := by
  unfold metN
  rw [List.take_length]
  exact count_one G.E e o.er.apart he
theorem Okg.small (o : Okg c0 c1 c2 c3 c4 G) (f : FewG G) : Small G := by
  have h := o.cfg
  unfold Place.Ok at h
  have := o.x
  have := o.y
  exact ⟨by have := f.2.1; omega, by have := f.2.2; omega, fun j hj => by have := f.1 j hj; omega, by omega, by omega⟩
end
end Go.Proofs.YtiiadkjiofkonaaGreat
