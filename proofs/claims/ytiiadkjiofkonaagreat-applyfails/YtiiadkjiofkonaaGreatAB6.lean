/- Plain mathematics for layer 10: graphs as lists. No program, no conditions. Words for layer 10: a graph by value, and what it reads as. No conditions. -/
import Derived.Test.YtiiadkjiofkonaaGreatWords
namespace Go.Proofs.YtiiadkjiofkonaaGreat

abbrev Pr := Int × Int
abbrev Nd := Int × List Pr
abbrev Ed := Int × Int × Int
/-- A graph: its nodes (number, properties), its edges (number, from, to), the numbers that come next. -/
structure GL where
  N : List Nd
  E : List Ed
  x : Int
  y : Int

def flat2 (l : List Pr) : List Int := l.flatMap fun p => [p.1, p.2]
def flat3 (l : List Ed) : List Int := l.flatMap fun p => [p.1, p.2.1, p.2.2]

theorem flat2_len (l : List Pr) : (flat2 l).length = l.length * 2 := by
  induction l with
  | nil => rfl
  | cons p l ih => simp [flat2] at ih ⊢; omega
theorem flat3_len (l : List Ed) : (flat3 l).length = l.length * 3 := by
  induction l with
  | nil => rfl
  | cons p l ih => simp [flat3] at ih ⊢; omega
theorem flat2_append (a b : List Pr) : flat2 (a ++ b) = flat2 a ++ flat2 b := by simp [flat2]
theorem flat3_append (a b : List Ed) : flat3 (a ++ b) = flat3 a ++ flat3 b := by simp [flat3]
theorem flat2_at : ∀ (l : List Pr) (k : Nat), k < l.length → (flat2 l).getD (k * 2) 0 = (l.getD k (0, 0)).1 ∧ (flat2 l).getD (k * 2 + 1) 0 = (l.getD k (0, 0)).2
  | [], k, h => by simp at h
  | p :: l, 0, _ => by simp [flat2]
  | p :: l, k + 1, h => by
    have := flat2_at l k (by simpa using h)
    have e : (k + 1) * 2 = k * 2 + 2 := by omega
    have e2 : k * 2 + 2 + 1 = (k * 2 + 1) + 2 := by omega
    rw [e, e2]
    simpa [flat2] using this
theorem flat3_at : ∀ (l : List Ed) (k : Nat), k < l.length → (flat3 l).getD (k * 3) 0 = (l.getD k (0, 0, 0)).1 ∧ (flat3 l).getD (k * 3 + 1) 0 = (l.getD k (0, 0, 0)).2.1 ∧ (flat3 l).getD (k * 3 + 2) 0 = (l.getD k (0, 0, 0)).2.2
  | [], k, h => by simp at h
  | p :: l, 0, _ => by simp [flat3]
  | p :: l, k + 1, h => by
    have := flat3_at l k (by simpa using h)
    have e : (k + 1) * 3 = k * 3 + 3 := by omega
    have e2 : k * 3 + 3 + 1 = (k * 3 + 1) + 3 := by omega
    have e3 : k * 3 + 3 + 2 = (k * 3 + 2) + 3 := by omega
    rw [e, e2, e3]
    simpa [flat3] using this

/-- Where a node stands; the length if nowhere. -/
def pos (l : List Nd) (n : Int) : Nat := l.findIdx fun d => d.1 == n
/-- .. as it is told. -/
def atI (l : List Nd) (n : Int) : Int := if pos l n < l.length then (pos l n : Int) else -1
theorem pos_not {l : List Nd} {n : Int} {k : Nat} (h : k < pos l n) (hk : k < l.length) : (l.getD k (0, [])).1 ≠ n := by
  have h1 := List.not_of_lt_findIdx h
  intro e
  simp [hk] at e
  simp [e] at h1
theorem pos_here {l : List Nd} {n : Int} {k : Nat} (hk : k < l.length) (hall : ∀ j, j < k → (l.getD j (0, [])).1 ≠ n) (h : (l.getD k (0, [])).1 = n) : pos l n = k := by
  have h1 : pos l n ≤ k := by
    rcases Nat.lt_or_ge k (pos l n) with x | x
    · exact absurd h (pos_not x hk)
    · exact x
  rcases Nat.lt_or_eq_of_le h1 with x | x
  · have h2 := hall _ x
    have h3 : pos l n < l.length := by omega
    have h4 := List.findIdx_getElem (xs := l) (p := fun d : Nd => d.1 == n) (w := h3)
    have h5 : (l.getD (pos l n) (0, [])).1 = n := by
      have e : l.getD (pos l n) (0, []) = l[pos l n]'h3 := by simp [h3]
      rw [e]
      exact eq_of_beq h4
    exact absurd h5 h2
  · exact x
theorem pos_none {l : List Nd} {n : Int} (hall : ∀ j, j < l.length → (l.getD j (0, [])).1 ≠ n) : ¬ pos l n < l.length := fun h3 => by
  have h4 := List.findIdx_getElem (xs := l) (p := fun d : Nd => d.1 == n) (w := h3)
  have e : l.getD (pos l n) (0, []) = l[pos l n]'h3 := by simp [h3]
  refine hall _ h3 ?_
  rw [e]
  exact eq_of_beq h4
end Go.Proofs.YtiiadkjiofkonaaGreat

namespace Go.Proofs.YtiiadkjiofkonaaGreat
open Go.RowKit

structure Sl where
  A : Option Addr
  n : Nat
  c : Nat
def noSl : Sl := ⟨none, 0, 0⟩
abbrev Sl.val (s : Sl) : Value := .slice s.A s.n s.c
/-- A graph by value. -/
structure Gv where
  N : Sl
  E : Sl
  x : Int
  y : Int
abbrev Gv.cs (v : Gv) : Array Value := #[.slice v.N.A v.N.n v.N.c, .slice v.E.A v.E.n v.E.c, .int .i64 v.x, .int .i64 v.y]
abbrev Gv.val (v : Gv) : Value := .agg v.cs
def noG : GL := ⟨[], [], 0, 0⟩
def noGv : Gv := ⟨noSl, noSl, 0, 0⟩

/-- The properties at h read as l. -/
def Props (w : World) (B : Nat) (h : Sl) (l : List Pr) : Prop := Nums w B 2 h.A h.n (flat2 l) ∧ (h.A = none → h.c = 0)
/-- The nodes at s read as N. -/
def Nodes (w : World) (B : Nat) (s : Sl) (N : List Nd) : Prop :=
  N.length = s.n ∧ (s.A = none → s.c = 0) ∧ (0 < s.n → ∃ b off, s.A = some ⟨b, off, none⟩ ∧ b < B ∧ ∀ i, i < s.n →
    w.cell? ⟨b, off + i * 2, none⟩ = some (.int .i64 (N.getD i (0, [])).1) ∧ ∃ h : Sl, w.cell? ⟨b, off + i * 2 + 1, none⟩ = some (.slice h.A h.n h.c) ∧ Props w B h (N.getD i (0, [])).2)
/-- The graph v reads as G, and lies below block B. -/
structure Sees (w : World) (B : Nat) (v : Gv) (G : GL) : Prop where
  nodes : Nodes w B v.N G.N
  edges : Nums w B 3 v.E.A v.E.n (flat3 G.E)
  cap : v.E.A = none → v.E.c = 0
  x : v.x = G.x
  y : v.y = G.y

section
variable {w w' u u' : World} {B B' : Nat} {h s : Sl} {l : List Pr} {N : List Nd} {v : Gv} {G : GL}
theorem Props.below (p : Props w B h l) (hb : Below B' w w') (hB : B ≤ B') : Props w' B h l := ⟨p.1.below hb hB, p.2⟩
theorem Props.more (p : Props w B h l) (hB : B ≤ B') : Props w B' h l := ⟨p.1.more hB, p.2⟩
theorem Props.len (p : Props w B h l) : h.n = l.length := by have := p.1.1; rw [flat2_len] at this; omega
theorem Nodes.below (p : Nodes w B s N) (hb : Below B' w w') (hB : B ≤ B') : Nodes w' B s N :=
  ⟨p.1, p.2.1, fun hn => by
    obtain ⟨b, off, e, hlt, hc⟩ := p.2.2 hn
    refine ⟨b, off, e, hlt, fun i hi => ?_⟩
    obtain ⟨h1, h, h2, h3⟩ := hc i hi
    exact ⟨(hb.cell (p := ⟨b, _, none⟩) (Nat.lt_of_lt_of_le hlt hB)).trans h1, h, (hb.cell (p := ⟨b, _, none⟩) (Nat.lt_of_lt_of_le hlt hB)).trans h2, h3.below hb hB⟩⟩
theorem Nodes.more (p : Nodes w B s N) (hB : B ≤ B') : Nodes w B' s N :=
  ⟨p.1, p.2.1, fun hn => by
    obtain ⟨b, off, e, hlt, hc⟩ := p.2.2 hn
    refine ⟨b, off, e, Nat.lt_of_lt_of_le hlt hB, fun i hi => ?_⟩
    obtain ⟨h1, h, h2, h3⟩ := hc i hi
    exact ⟨h1, h, h2, h3.more hB⟩⟩
theorem Nodes.at_ {k : Nat} (p : Nodes w B s N) (hk : k < s.n) : ∃ b off, s.A = some ⟨b, off, none⟩ ∧ b < B ∧ w.cell? ⟨b, off + k * 2, none⟩ = some (.int .i64 (N.getD k (0, [])).1) ∧ ∃ h : Sl, w.cell? ⟨b, off + k * 2 + 1, none⟩ = some (.slice h.A h.n h.c) ∧ Props w B h (N.getD k (0, [])).2 := by
  obtain ⟨b, off, e, hlt, hc⟩ := p.2.2 (by omega)
  exact ⟨b, off, e, hlt, hc k hk⟩
theorem Sees.below (p : Sees w B v G) (hb : Below B' w w') (hB : B ≤ B') : Sees w' B v G := ⟨p.nodes.below hb hB, p.edges.below hb hB, p.cap, p.x, p.y⟩
theorem Sees.more (p : Sees w B v G) (hB : B ≤ B') : Sees w B' v G := ⟨p.nodes.more hB, p.edges.more hB, p.cap, p.x, p.y⟩
theorem Sees.step (p : Sees u u.heap.size v G) (hb : Below u.heap.size u u') : Sees u' u'.heap.size v G := (p.below hb (Nat.le_refl _)).more hb.size
theorem Nodes.nil (w : World) (B : Nat) : Nodes w B noSl [] := ⟨rfl, fun _ => rfl, fun h => by cases h⟩
theorem Sees.none (w : World) (B : Nat) : Sees w B noGv noG := ⟨Nodes.nil w B, Nums.nil, fun _ => rfl, rfl, rfl⟩
/-- One pair of a list of properties. -/
theorem Props.at_ {k : Nat} (p : Props w B h l) (hk : k < h.n) : ∃ b off, h.A = some ⟨b, off, Option.none⟩ ∧ b < B ∧ w.cell? ⟨b, off + k * 2, Option.none⟩ = some (.int .i64 (l.getD k (0, 0)).1) ∧ w.cell? ⟨b, off + k * 2 + 1, Option.none⟩ = some (.int .i64 (l.getD k (0, 0)).2) := by
  have hl := p.len
  obtain ⟨b, off, e, hlt, hc⟩ := p.1.2 (by omega)
  obtain ⟨e1, e2⟩ := flat2_at l k (by omega)
  exact ⟨b, off, e, hlt, by rw [hc _ (by omega), e1], by rw [Nat.add_assoc, hc _ (by omega), e2]⟩
/-- One edge. -/
theorem edge_at {A : Option Addr} {n k : Nat} {E : List Ed} (p : Nums w B 3 A n (flat3 E)) (hk : k < n) : ∃ b off, A = some ⟨b, off, Option.none⟩ ∧ b < B ∧ w.cell? ⟨b, off + k * 3, Option.none⟩ = some (.int .i64 (E.getD k (0, 0, 0)).1) ∧ w.cell? ⟨b, off + k * 3 + 1, Option.none⟩ = some (.int .i64 (E.getD k (0, 0, 0)).2.1) ∧ w.cell? ⟨b, off + k * 3 + 2, Option.none⟩ = some (.int .i64 (E.getD k (0, 0, 0)).2.2) := by
  have hl := p.1
  rw [flat3_len] at hl
  obtain ⟨b, off, e, hlt, hc⟩ := p.2 (by omega)
  obtain ⟨e1, e2, e3⟩ := flat3_at E k (by omega)
  exact ⟨b, off, e, hlt, by rw [hc _ (by omega), e1], by rw [Nat.add_assoc, hc _ (by omega), e2], by rw [Nat.add_assoc, hc _ (by omega), e3]⟩
theorem edges_len {A : Option Addr} {n : Nat} {E : List Ed} (p : Nums w B 3 A n (flat3 E)) : n = E.length := by have := p.1; rw [flat3_len] at this; omega
end
end Go.Proofs.YtiiadkjiofkonaaGreat
