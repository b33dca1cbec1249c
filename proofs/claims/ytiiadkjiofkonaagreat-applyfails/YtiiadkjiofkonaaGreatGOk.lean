/- Whether a graph may be: the document's answer. -/
import Derived.Test.YtiiadkjiofkonaaGreatCFin
import Derived.Test.YtiiadkjiofkonaaGreatGFind
import Derived.Test.YtiiadkjiofkonaaGreatGPlace
import Derived.WalkKit
import Derived.Below
import Derived.Deep.QuietTactic
import Derived.BigQuiet
import Derived.Shelf.Abstract
namespace Go.Proofs.YtiiadkjiofkonaaGreat
open Go.RowKit
set_option linter.unusedVariables false

/-- The number of all properties of the first k nodes. -/
def propsN (N : List Nd) (k : Nat) : Nat := ((N.take k).map fun d => d.2.length).sum
/-- A graph that may be. -/
structure Okg (c0 c1 c2 c3 c4 : Int) (G : GL) : Prop where
  cfg : Place.Ok c0 c1 c2 c3 c4
  x : 1 ≤ G.x ∧ G.x ≤ c3 + 1
  y : 1 ≤ G.y ∧ G.y ≤ c4 + 1
  n : (G.N.length : Int) ≤ c0
  e : (G.E.length : Int) ≤ c1
  p : (propsN G.N G.N.length : Int) ≤ c2
  pr : ∀ i, i < G.N.length → Rise (fun z : Pr => z.1) (0, 0) (G.N.getD i (0, [])).2
  nr : Rise (fun z : Nd => z.1) (0, []) G.N
  n0 : ∀ i, i < G.N.length → 1 ≤ (G.N.getD i (0, [])).1 ∧ (G.N.getD i (0, [])).1 < G.x
  er : Rise (fun z : Ed => z.1) (0, 0, 0) G.E
  e0 : ∀ i, i < G.E.length → 1 ≤ (G.E.getD i (0, 0, 0)).1 ∧ (G.E.getD i (0, 0, 0)).1 < G.y
  ee : ∀ i, i < G.E.length → isN G (G.E.getD i (0, 0, 0)).2.1 = true ∧ isN G (G.E.getD i (0, 0, 0)).2.2 = true

def errOf (q : Bool) : Int := if q then 0 else 1
def lastN (N : List Nd) : Nat → Int
  | 0 => 0
  | k + 1 => (N.getD k (0, [])).1
def lastE (E : List Ed) : Nat → Int
  | 0 => 0
  | k + 1 => (E.getD k (0, 0, 0)).1
/-- What is asked ahead of the nodes. -/
structure HeadG (c0 c1 c2 c3 c4 : Int) (G : GL) : Prop where
  cfg : Place.Ok c0 c1 c2 c3 c4
  x : 1 ≤ G.x ∧ G.x ≤ c3 + 1
  y : 1 ≤ G.y ∧ G.y ≤ c4 + 1
  n : (G.N.length : Int) ≤ c0
  e : (G.E.length : Int) ≤ c1
def NodesUp (G : GL) (k : Nat) : Prop := ∀ i, i < k → lastN G.N i < (G.N.getD i (0, [])).1 ∧ (G.N.getD i (0, [])).1 < G.x ∧ Rise (fun z : Pr => z.1) (0, 0) (G.N.getD i (0, [])).2
def EdgesUp (G : GL) (k : Nat) : Prop := ∀ i, i < k → lastE G.E i < (G.E.getD i (0, 0, 0)).1 ∧ (G.E.getD i (0, 0, 0)).1 < G.y ∧ isN G (G.E.getD i (0, 0, 0)).2.1 = true ∧ isN G (G.E.getD i (0, 0, 0)).2.2 = true
theorem lastN_le {N : List Nd} {x : Int} {k : Nat} (h : ∀ i, i < k → lastN N i < (N.getD i (0, [])).1) : ∀ i, i < k → 1 ≤ (N.getD i (0, [])).1
  | 0, hi => by have := h 0 hi; simp only [lastN] at this; omega
  | i + 1, hi => by have := h (i + 1) hi; have := lastN_le (x := x) h i (by omega); simp only [lastN] at *; omega
theorem lastE_le {E : List Ed} {x : Int} {k : Nat} (h : ∀ i, i < k → lastE E i < (E.getD i (0, 0, 0)).1) : ∀ i, i < k → 1 ≤ (E.getD i (0, 0, 0)).1
  | 0, hi => by have := h 0 hi; simp only [lastE] at this; omega
  | i + 1, hi => by have := h (i + 1) hi; have := lastE_le (x := x) h i (by omega); simp only [lastE] at *; omega
theorem okg_iff {c0 c1 c2 c3 c4 : Int} {G : GL} : Okg c0 c1 c2 c3 c4 G ↔ HeadG c0 c1 c2 c3 c4 G ∧ NodesUp G G.N.length ∧ EdgesUp G G.E.length ∧ (propsN G.N G.N.length : Int) ≤ c2 := by
  constructor
  · rintro ⟨h1, h2, h3, h4, h5, h6, h7, h8, h9, h10, h11, h12⟩
    refine ⟨⟨h1, h2, h3, h4, h5⟩, fun i hi => ⟨?_, (h9 i hi).2, h7 i hi⟩, fun i hi => ⟨?_, (h11 i hi).2, h12 i hi⟩, h6⟩
    · match i, hi with
      | 0, hi => simp only [lastN]; have := (h9 0 hi).1; omega
      | i + 1, hi => exact h8 i hi
    · match i, hi with
      | 0, hi => simp only [lastE]; have := (h11 0 hi).1; omega
      | i + 1, hi => exact h10 i hi
  · rintro ⟨⟨h1, h2, h3, h4, h5⟩, hn, he, h6⟩
    exact ⟨h1, h2, h3, h4, h5, h6, fun i hi => (hn i hi).2.2, fun i hi => (hn (i + 1) hi).1, fun i hi => ⟨lastN_le (x := 0) (fun i hi => (hn i hi).1) i hi, (hn i hi).2.1⟩, fun i hi => (he (i + 1) hi).1, fun i hi => ⟨lastE_le (x := 0) (fun i hi => (he i hi).1) i hi, (he i hi).2.1⟩, fun i hi => (he i hi).2.2⟩
theorem propsN_succ {N : List Nd} {k : Nat} (hk : k < N.length) : propsN N (k + 1) = propsN N k + (N.getD k (0, [])).2.length := by
  unfold propsN
  rw [getD_take (d := (0, [])) hk]
  simp
theorem propsN_le {N : List Nd} (h : ∀ j, j < N.length → (N.getD j (0, [])).2.length ≤ 100) : ∀ k, k ≤ N.length → propsN N k ≤ 100 * k
  | 0, _ => by simp [propsN]
  | k + 1, hk => by have := propsN_le h k (by omega); rw [propsN_succ (by omega)]; have := h k (by omega); omega
theorem nodesUp_succ {G : GL} {k : Nat} : NodesUp G (k + 1) ↔ NodesUp G k ∧ lastN G.N k < (G.N.getD k (0, [])).1 ∧ (G.N.getD k (0, [])).1 < G.x ∧ Rise (fun z : Pr => z.1) (0, 0) (G.N.getD k (0, [])).2 :=
  ⟨fun h => ⟨fun i hi => h i (by omega), h k (by omega)⟩, fun h i hi => by
    by_cases e : i = k
    · subst e; exact h.2
    · exact h.1 i (by omega)⟩
theorem edgesUp_succ {G : GL} {k : Nat} : EdgesUp G (k + 1) ↔ EdgesUp G k ∧ lastE G.E k < (G.E.getD k (0, 0, 0)).1 ∧ (G.E.getD k (0, 0, 0)).1 < G.y ∧ isN G (G.E.getD k (0, 0, 0)).2.1 = true ∧ isN G (G.E.getD k (0, 0, 0)).2.2 = true :=
  ⟨fun h => ⟨fun i hi => h i (by omega), h k (by omega)⟩, fun h i hi => by
    by_cases e : i = k
    · subst e; exact h.2
    · exact h.1 i (by omega)⟩

end Go.Proofs.YtiiadkjiofkonaaGreat
