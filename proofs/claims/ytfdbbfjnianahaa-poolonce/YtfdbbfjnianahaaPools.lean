/- Words for layer 5's proofs: a pool as a value (four slices of numbers), what it reads as, its box. No conditions. -/
import Derived.Test.YtfdbbfjnianahaaRows
import Derived.Test.YtfdbbfjnianahaaWords
import Derived.Laws.Rows
import Derived.WalkKit
namespace Go.Proofs.Ytfdbbfjnianahaa
open Go.RowKit

/-- The four slices of a pool: where they lie, how many they are, their room. -/
structure Pl where
  (A0 A1 A2 A3 : Option Addr)
  (n0 n1 n2 n3 c0 c1 c2 c3 : Nat)

abbrev V4 (A0 A1 A2 A3 : Option Addr) (n0 n1 n2 n3 c0 c1 c2 c3 : Nat) : Value := .agg #[.slice A0 n0 c0, .slice A1 n1 c1, .slice A2 n2 c2, .slice A3 n3 c3]
abbrev Pl.val (p : Pl) : Value := V4 p.A0 p.A1 p.A2 p.A3 p.n0 p.n1 p.n2 p.n3 p.c0 p.c1 p.c2 p.c3
abbrev C4 (A0 A1 A2 A3 : Option Addr) (n0 n1 n2 n3 c0 c1 c2 c3 : Nat) : Array Value := #[.slice A0 n0 c0, .slice A1 n1 c1, .slice A2 n2 c2, .slice A3 n3 c3]

/-- The four lists. -/
structure PL where
  (G S W F : List Int)

/-- The pool p reads as P, and lies below block B. -/
structure Reads (u : World) (B : Nat) (p : Pl) (P : PL) : Prop where
  g : Nums u B 1 p.A0 p.n0 P.G
  s : Nums u B 1 p.A1 p.n1 P.S
  t : Nums u B 1 p.A2 p.n2 P.W
  f : Nums u B 1 p.A3 p.n3 P.F
  zg : p.A0 = none → p.c0 = 0
  zs : p.A1 = none → p.c1 = 0
  zw : p.A2 = none → p.c2 = 0
  zf : p.A3 = none → p.c3 = 0

/-- .. and is not great. -/
structure Small (p : Pl) : Prop where
  n0 : p.n0 ≤ 200
  n1 : p.n1 ≤ 200
  n2 : p.n2 ≤ 200
  n3 : p.n3 ≤ 200

section
variable {w w' : World} {B B' : Nat} {p : Pl} {P : PL}
theorem Reads.below (h : Reads w B p P) (hb : Below B' w w') (hB : B ≤ B') : Reads w' B p P := ⟨h.g.below hb hB, h.s.below hb hB, h.t.below hb hB, h.f.below hb hB, h.zg, h.zs, h.zw, h.zf⟩
theorem Reads.more (h : Reads w B p P) (hB : B ≤ B') : Reads w B' p P := ⟨h.g.more hB, h.s.more hB, h.t.more hB, h.f.more hB, h.zg, h.zs, h.zw, h.zf⟩
end

/-- Block g is the box of a pool. -/
def PBox (u : World) (g : Nat) (cs : Array Value) : Prop := u.heap[g]? = some (.cells cs 24 (0, 0))

section
variable {u u' : World} {g : Nat} {cs : Array Value}
theorem PBox.lt (h : PBox u g cs) : g < u.heap.size := (Array.getElem?_eq_some_iff.1 h).1
theorem PBox.cells (h : PBox u g cs) : ∀ i, u.cell? ⟨g, i, none⟩ = cs[i]? := fun i => cell_of_row u g i _ 24 (0, 0) h
theorem PBox.below {B : Nat} (h : PBox u g cs) (hb : Below B u u') (hg : g < B) : PBox u' g cs := (hb.block g hg).trans h
theorem PBox.alloc (h : PBox u g cs) (o : Obj) : PBox (u.alloc o) g cs := (Below.heap_alloc u o g h.lt).trans h
theorem PBox.new (u : World) (cs : Array Value) : PBox (u.alloc (.cells cs 24)) u.heap.size cs := heap_alloc_new u _
theorem PBox.step (h : PBox u g cs) (hb : Below u.heap.size u u') : PBox u' g cs := h.below hb h.lt
theorem PBox.set (h : PBox u g cs) (i : Nat) (v : Value) : PBox (u.setCell ⟨g, i, none⟩ v) g (cs.setIfInBounds i v) := heap_setCell_same u g i cs 24 v h
theorem PBox.other (h : PBox u g cs) {k i : Nat} (hk : k ≠ g) (v : Value) : PBox (u.setCell ⟨k, i, none⟩ v) g cs := (Below.heap_setCell u ⟨k, i, none⟩ v g (by simpa using hk.symm)).trans h
theorem PBox.frozen (h : PBox u g cs) : ∀ i, u.frozen? ⟨g, i, none⟩ = false := fun i => frozen_of_row u g i cs 24 h
end

/-- Behind a call that was made behind one new block. -/
theorem one_call {w u : World} {o : Obj} (h : Below (w.alloc o).heap.size (w.alloc o) u) : Below w.heap.size w u :=
  ((Below.refl _ _).alloc (Nat.le_refl _) _).trans (h.mono (by simp))

/-- Behind a further one. -/
theorem next_call {w u u' : World} {B : Nat} (h : Below B w u) (hB : B ≤ w.heap.size) (h' : Below u.heap.size u u') : Below B w u' :=
  h.trans (h'.mono (Nat.le_trans hB h.size))

end Go.Proofs.Ytfdbbfjnianahaa
