/- A pool that stands in a box while it is taken from, retired and reclaimed. -/
import Derived.Test.YtfdbbfjnianahaaWalksT
namespace Go.Proofs.Ytfdbbfjnianahaa
open Go.RowKit

/-- The cells of a pool's box. -/
abbrev Pl.cs (q : Pl) : Array Value := C4 q.A0 q.A1 q.A2 q.A3 q.n0 q.n1 q.n2 q.n3 q.c0 q.c1 q.c2 q.c3

/-- In world u block h is the box of q, which reads as Q; what lay below w's end is as it was. -/
structure Stand (w u : World) (h : Nat) (q : Pl) (Q : PL) : Prop where
  bel : Below w.heap.size w u
  ge : w.heap.size ≤ h
  box : PBox u h q.cs
  reads : Reads u u.heap.size q Q
  small : Small q

/-- Not great. -/
def Few (Q : PL) : Prop := Q.G.length ≤ 200 ∧ Q.S.length ≤ 200 ∧ Q.W.length ≤ 200 ∧ Q.F.length ≤ 200

theorem Told4.small {u : World} {B : Nat} {q : Pl} {Q : PL} (h : Told4 u B q Q) (hf : Few Q) : Small q :=
  ⟨by rw [← h.g.1]; exact hf.1, by rw [← h.s.1]; exact hf.2.1, by rw [← h.t.1]; exact hf.2.2.1, by rw [← h.f.1]; exact hf.2.2.2⟩
theorem Told4.set4 {u : World} {B k : Nat} {q : Pl} {Q : PL} (h : Told4 u B q Q) (hk : k < B) (a b c d : Value) : Told4 ((((u.setCell ⟨k, 0, none⟩ a).setCell ⟨k, 1, none⟩ b).setCell ⟨k, 2, none⟩ c).setCell ⟨k, 3, none⟩ d) B q Q :=
  ⟨h.g.set4 hk _ _ _ _, h.s.set4 hk _ _ _ _, h.t.set4 hk _ _ _ _, h.f.set4 hk _ _ _ _, h.zg, h.zs, h.zt, h.zf⟩

theorem set4_box {u : World} {g : Nat} {x y z t : Value} (h : PBox u g #[x, y, z, t]) (p q r s : Value) :
    PBox ((((u.setCell ⟨g, 0, none⟩ p).setCell ⟨g, 1, none⟩ q).setCell ⟨g, 2, none⟩ r).setCell ⟨g, 3, none⟩ s) g #[p, q, r, s] := by
  have h1 := heap_setCell_same u g 0 _ 24 p h
  have h2 := heap_setCell_same _ g 1 _ 24 q h1
  have h3 := heap_setCell_same _ g 2 _ 24 r h2
  exact heap_setCell_same _ g 3 _ 24 s h3

/-- The box of a told pool is written. -/
abbrev World.put (u : World) (h : Nat) (q : Pl) : World := (((u.setCell ⟨h, 0, none⟩ (.slice q.A0 q.n0 q.c0)).setCell ⟨h, 1, none⟩ (.slice q.A1 q.n1 q.c1)).setCell ⟨h, 2, none⟩ (.slice q.A2 q.n2 q.c2)).setCell ⟨h, 3, none⟩ (.slice q.A3 q.n3 q.c3)

theorem Stand.next {w u u' : World} {h : Nat} {q q' : Pl} {Q Q' : PL} (hs : Stand w u h q Q) (ht : Told4 u' u.heap.size q' Q') (hb : Below u.heap.size u u') (hf : Few Q') : Stand w (World.put u' h q') h q' Q' :=
  ⟨set4_below (next_call hs.bel (Nat.le_refl _) hb) hs.ge _ _ _ _, hs.ge, set4_box (hs.box.step hb) _ _ _ _, (ht.set4 hs.box.lt _ _ _ _).reads, ht.small hf⟩
/-- .. or not. -/
theorem Stand.step {w u u' : World} {h : Nat} {q : Pl} {Q : PL} (hs : Stand w u h q Q) (hb : Below u.heap.size u u') : Stand w u' h q Q :=
  ⟨next_call hs.bel (Nat.le_refl _) hb, hs.ge, hs.box.step hb, (hs.reads.below hb (Nat.le_refl _)).more hb.size, hs.small⟩
theorem Stand.alloc {w u : World} {h : Nat} {q : Pl} {Q : PL} (hs : Stand w u h q Q) (o : Obj) : Stand w (u.alloc o) h q Q := hs.step ((Below.refl _ _).alloc (Nat.le_refl _) _)
/-- A box that was just laid. -/
theorem Stand.first {w u : World} {B : Nat} {q : Pl} {Q : PL} (hb : Below w.heap.size w u) (ht : Told4 u B q Q) (hf : Few Q) : Stand w (u.alloc (.cells q.cs 24)) u.heap.size q Q :=
  ⟨hb.alloc hb.size _, hb.size, PBox.new u _, (ht.reads.below ((Below.refl u.heap.size u).alloc (Nat.le_refl _) _) (Nat.le_refl _)).more (by simp), ht.small hf⟩

theorem Few.new {n : Nat} (h : n ≤ 200) : Few (newP n) := by simp [Few, newP, h]

theorem may0 : MayBe ⟨[0], [0], [0], [0]⟩ := by
  refine ⟨by simp, by simp, by simp, by simp, fun k hk => ?_, ?_, by simp, ?_⟩
  · obtain rfl : k = 0 := by simp at hk; omega
    simp [SlotOk]
  · simp
  · intro k hk _
    obtain rfl : k = 0 := by simp at hk; omega
    simp
theorem may1 : MayBe ⟨[0], [1], [0], []⟩ := by
  refine ⟨by simp, by simp, by simp, by simp, fun k hk => ?_, ?_, by simp, ?_⟩
  · obtain rfl : k = 0 := by simp at hk; omega
    simp [SlotOk]
  · simp
  · intro k hk h
    obtain rfl : k = 0 := by simp at hk; omega
    simp at h
theorem may2 : MayBe ⟨[0], [2], [3], []⟩ := by
  refine ⟨by simp, by simp, by simp, by simp, fun k hk => ?_, ?_, by simp, ?_⟩
  · obtain rfl : k = 0 := by simp at hk; omega
    simp [SlotOk]
  · simp
  · intro k hk h
    obtain rfl : k = 0 := by simp at hk; omega
    simp at h
theorem may3 : MayBe ⟨[1], [0], [0], [0]⟩ := by
  refine ⟨by simp, by simp, by simp, by simp, fun k hk => ?_, ?_, by simp, ?_⟩
  · obtain rfl : k = 0 := by simp at hk; omega
    simp [SlotOk]
  · simp
  · intro k hk _
    obtain rfl : k = 0 := by simp at hk; omega
    simp
end Go.Proofs.Ytfdbbfjnianahaa
