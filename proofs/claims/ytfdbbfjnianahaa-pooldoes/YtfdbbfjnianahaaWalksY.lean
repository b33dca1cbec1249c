/- What the document's Same tells of two pools that read alike: true. -/
import Derived.Test.YtfdbbfjnianahaaWalksB
import Derived.Test.YtfdbbfjnianahaaStand
namespace Go.Proofs.Ytfdbbfjnianahaa
open Go.RowKit
set_option linter.unusedVariables false

/-- What is kept: both boxes, and what both read as. -/
def Both (w u : World) (p q : Pl) (P : PL) (B B' : Nat) : Prop :=
  (Below w.heap.size w u ∧ PBox u w.heap.size p.cs ∧ PBox u (w.heap.size + 1) q.cs) ∧ (B ≤ w.heap.size ∧ B' ≤ w.heap.size) ∧ Reads u B p P ∧ Reads u B' q P
theorem Both.step {w u u' : World} {p q : Pl} {P : PL} {B B' : Nat} (h : Both w u p q P B B') (hb : Below u.heap.size u u') : Both w u' p q P B B' :=
  ⟨⟨next_call h.1.1 (Nat.le_refl _) hb, h.1.2.1.step hb, h.1.2.2.step hb⟩, h.2.1, h.2.2.1.below hb (Nat.le_trans h.2.1.1 h.1.1.size), h.2.2.2.below hb (Nat.le_trans h.2.1.2 h.1.1.size)⟩
theorem Both.first {w : World} {p q : Pl} {P : PL} {B B' : Nat} (h : Reads w B p P) (h' : Reads w B' q P) (hB : B ≤ w.heap.size) (hB' : B' ≤ w.heap.size) : Both w ((w.alloc (.cells p.cs 24)).alloc (.cells q.cs 24)) p q P B B' := by
  have b := ((Below.refl w.heap.size w).alloc (Nat.le_refl _) (.cells p.cs 24)).alloc (by simp) (.cells q.cs 24)
  exact ⟨⟨b, (PBox.new w _).alloc _, heap_alloc2_new w _ _⟩, ⟨hB, hB'⟩, h.below b hB, h'.below b hB'⟩

set_option maxHeartbeats 1000000 in
theorem samep_yes (p q : Pl) (P : PL) (B B' : Nat) (w : World) (h : Reads w B p P) (h' : Reads w B' q P) (hB : B ≤ w.heap.size) (hB' : B' ≤ w.heap.size) (hm : Small p) :
    Calls Try.prog 15 #[p.val, q.val] w (Drew (.bool true) w) := by
  have K0 := hide (Both.first h h' hB hB')
  obtain ⟨A0, A1, A2, A3, n0, n1, n2, n3, c0, c1, c2, c3⟩ := p
  obtain ⟨D0, D1, D2, D3, e0, e1, e2, e3, d0, d1, d2, d3⟩ := q
  obtain rfl : n0 = e0 := by have h1 := h.g.1; have h2 := h'.g.1; dsimp only at h1 h2; omega
  obtain rfl : n1 = e1 := by have h1 := h.s.1; have h2 := h'.s.1; dsimp only at h1 h2; omega
  obtain rfl : n2 = e2 := by have h1 := h.t.1; have h2 := h'.t.1; dsimp only at h1 h2; omega
  obtain rfl : n3 = e3 := by have h1 := h.f.1; have h2 := h'.f.1; dsimp only at h1 h2; omega
  obtain ⟨m0, m1, m2, m3⟩ := hm
  dsimp only at m0 m1 m2 m3
  clear h h'
  go_enter Try.func15, Try.ntmps15
  go_wp2_with fail
  refine (same_yes _ _ _ _ _ _ _ P.G _ (K0.out.2.2.1.g) (K0.out.2.2.2.g) m0).mono ?_
  rintro e u1 ⟨rfl, b1⟩
  have K1 := hide (K0.out.step b1)
  clear b1
  have hc := K1.out.1.2.1.cells
  have hl := K1.out.1.2.1.lt
  have hd := K1.out.1.2.2.cells
  have hm := K1.out.1.2.2.lt
  go_wp2_with fail
  refine (same_yes _ _ _ _ _ _ _ P.S _ (K1.out.2.2.1.s) (K1.out.2.2.2.s) m1).mono ?_
  rintro e u2 ⟨rfl, b2⟩
  have K2 := hide (K1.out.step b2)
  clear b2 hc hl hd hm
  have hc := K2.out.1.2.1.cells
  have hl := K2.out.1.2.1.lt
  have hd := K2.out.1.2.2.cells
  have hm := K2.out.1.2.2.lt
  go_wp2_with fail
  refine (same_yes _ _ _ _ _ _ _ P.W _ (K2.out.2.2.1.t) (K2.out.2.2.2.t) m2).mono ?_
  rintro e u3 ⟨rfl, b3⟩
  have K3 := hide (K2.out.step b3)
  clear b3 hc hl hd hm
  have hc := K3.out.1.2.1.cells
  have hl := K3.out.1.2.1.lt
  have hd := K3.out.1.2.2.cells
  have hm := K3.out.1.2.2.lt
  go_wp2_with fail
  refine (same_yes _ _ _ _ _ _ _ P.F _ (K3.out.2.2.1.f) (K3.out.2.2.2.f) m3).mono ?_
  rintro e u4 ⟨rfl, b4⟩
  have K4 := hide (K3.out.step b4)
  clear b4 hc hl hd hm
  have hc := K4.out.1.2.1.cells
  have hl := K4.out.1.2.1.lt
  have hd := K4.out.1.2.2.cells
  have hm := K4.out.1.2.2.lt
  go_wp2
  go_ret
  exact ⟨rfl, K4.out.1.1⟩

end Go.Proofs.Ytfdbbfjnianahaa
