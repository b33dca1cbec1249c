/- Whether a graph may be: the code. -/
import Derived.Test.YtiiadkjiofkonaaGreatGRise
import Derived.Test.YtiiadkjiofkonaaGreatGFind
import Derived.Test.YtiiadkjiofkonaaGreatGRCheck
import Derived.WalkKit
import Derived.Below
import Derived.Deep.QuietTactic
import Derived.BigQuiet
import Derived.Deep.RegionHeld3
import Derived.Deep.DeepCutAuto
import Derived.Shelf.Abstract
namespace Go.Proofs.YtiiadkjiofkonaaGreat
open Go.RowKit
set_option linter.unusedVariables false

theorem no_q {q : Bool} {p : Prop} (h : q = true ↔ p) (hp : ¬ p) : q = false := by
  cases q with
  | false => rfl
  | true => exact absurd (h.1 rfl) hp

theorem rise_lt {α : Type} {f : α → Int} {d : α} {l : List α} (h : Rise f d l) : ∀ j i, i ≤ j → j < l.length → f (l.getD i d) ≤ f (l.getD j d)
  | 0, i, hi, _ => by obtain rfl : i = 0 := by omega
                      exact Int.le_refl _
  | j + 1, i, hi, hj => by
    have h1 := h j hj
    rcases Nat.lt_or_ge j i with x | x
    · obtain rfl : i = j + 1 := by omega
      exact Int.le_refl _
    · have h2 := rise_lt h j i x (by omega)
      omega
theorem rise_ends {α : Type} {f : α → Int} {d : α} {l : List α} {m : Nat} (h : Rise f d l) (hl : l.length = m + 1) : ∀ i, i < l.length → f (l.getD 0 d) ≤ f (l.getD i d) ∧ f (l.getD i d) ≤ f (l.getD m d) := fun i hi => ⟨rise_lt h i 0 (by omega) hi, rise_lt h m i (by omega) (by omega)⟩

/-- What is asked of how much there is, and of how far the numbers go. -/
structure Fits (c0 c1 c2 c3 c4 : Int) (G : GL) : Prop where
  n : (G.N.length : Int) ≤ c0
  e : (G.E.length : Int) ≤ c1
  p : (propsN G.N G.N.length : Int) ≤ c2
  x : 1 ≤ G.x ∧ G.x ≤ c3 + 1
  y : 1 ≤ G.y ∧ G.y ≤ c4 + 1
def NodesOk (G : GL) : Prop := (∀ i, i < G.N.length → Rise (fun z : Pr => z.1) (0, 0) (G.N.getD i (0, [])).2) ∧ Rise (fun z : Nd => z.1) (0, []) G.N ∧ ∀ i, i < G.N.length → 1 ≤ (G.N.getD i (0, [])).1 ∧ (G.N.getD i (0, [])).1 < G.x
def EdgesOk (G : GL) : Prop := (∀ i, i < G.E.length → isN G (G.E.getD i (0, 0, 0)).2.1 = true ∧ isN G (G.E.getD i (0, 0, 0)).2.2 = true) ∧ Rise (fun z : Ed => z.1) (0, 0, 0) G.E ∧ ∀ i, i < G.E.length → 1 ≤ (G.E.getD i (0, 0, 0)).1 ∧ (G.E.getD i (0, 0, 0)).1 < G.y
theorem okg_parts {c0 c1 c2 c3 c4 : Int} {G : GL} : Okg c0 c1 c2 c3 c4 G ↔ Place.Ok c0 c1 c2 c3 c4 ∧ Fits c0 c1 c2 c3 c4 G ∧ NodesOk G ∧ EdgesOk G :=
  ⟨fun o => ⟨o.cfg, ⟨o.n, o.e, o.p, o.x, o.y⟩, ⟨o.pr, o.nr, o.n0⟩, ⟨o.ee, o.er, o.e0⟩⟩, fun ⟨h1, h2, h3, h4⟩ => ⟨h1, h2.x, h2.y, h2.n, h2.e, h2.p, h3.1, h3.2.1, h3.2.2, h4.2.1, h4.2.2, h4.1⟩⟩
end Go.Proofs.YtiiadkjiofkonaaGreat
