/- A graph's own copy: the document's answer. -/
import Derived.Test.YtiiadkjiofkonaaGreatGOwn
import Derived.WalkKit
import Derived.Below
import Derived.Deep.QuietTactic
import Derived.BigQuiet
import Derived.Deep.RegionHeld3
import Derived.Laws.Rows
namespace Go.Proofs.YtiiadkjiofkonaaGreat
open Go.RowKit
set_option linter.unusedVariables false

theorem info80 : (Tryz.prog.info? 79).map (fun i => (i.zero, i.size, i.bytes)) = some (some (.agg #[.int .i64 0, .int .i64 0, .int .i64 0]), 3, 24) := by kernel_rfl
theorem info54 : (Tryz.prog.info? 83).map (fun i => (i.zero, i.size, i.bytes)) = some (some (.agg #[.int .i64 0, .int .i64 0]), 2, 16) := by kernel_rfl
theorem info58 : (Tryz.prog.info? 61).map (fun i => (i.zero, i.size, i.bytes)) = some (some (.agg #[.int .i64 0, .slice none 0 0]), 2, 32) := by kernel_rfl
theorem size27 : (Tryz.prog.info? 27).map (·.size) = some 4 := by kernel_rfl
/-- The cells that are to be copied. -/
theorem nums_news {u : World} {B s n : Nat} {A : Option Addr} {zs : List Int} (h : Nums u B s A n zs) : ∀ ad, A = some ad → ∀ j v, (ints zs)[j]? = some v → u.cell? (ad.add j) = some v := fun ad e => by subst e; exact h.cells
theorem nums_nil {u : World} {B s n : Nat} {A : Option Addr} {zs : List Int} (h : Nums u B s A n zs) : A = none → n = 0 := fun e => by
  rcases Nat.eq_zero_or_pos n with h0 | h0
  · exact h0
  · obtain ⟨b, off, e', _⟩ := h.2 h0
    rw [e] at e'
    cases e'
theorem nums_len {u : World} {B s n : Nat} {A : Option Addr} {zs : List Int} (h : Nums u B s A n zs) : (ints zs).length = n * s := by simpa using h.1
theorem below_al {B : Nat} {w u : World} {o : Obj} (h : Below B w u) (hB : B ≤ w.heap.size) : Below B w (u.alloc o) := h.alloc (Nat.le_trans hB h.size) o

theorem set4_below {B : Nat} {w u : World} {g : Nat} (h : Below B w u) (hg : B ≤ g) (a b c d : Value) : Below B w ((((u.setCell ⟨g, 0, none⟩ a).setCell ⟨g, 1, none⟩ b).setCell ⟨g, 2, none⟩ c).setCell ⟨g, 3, none⟩ d) := ((((h.setCell (p := ⟨g, 0, none⟩) hg _).setCell (p := ⟨g, 1, none⟩) hg _).setCell (p := ⟨g, 2, none⟩) hg _).setCell (p := ⟨g, 3, none⟩) hg _)
theorem zero_row {W x : World} (G1 : (W.drew.alloc (.cells #[.slice none 0 0, .slice none 0 0, .int .i64 0, .int .i64 0] 27)).grownBy x (Value.slice none 0 0).ownBlock) : x.heap[W.heap.size]? = some (.cells #[.slice none 0 0, .slice none 0 0, .int .i64 0, .int .i64 0] 27 (0, 0)) := by
  have h0 : (W.drew.alloc (.cells #[.slice none 0 0, .slice none 0 0, .int .i64 0, .int .i64 0] 27)).heap[W.heap.size]? = some (.cells #[.slice none 0 0, .slice none 0 0, .int .i64 0, .int .i64 0] 27 (0, 0)) := heap_alloc_new W.drew _
  exact (G1.block W.heap.size (Array.getElem?_eq_some_iff.1 h0).1 (by intro e; cases e)).trans h0
theorem zero_box {W x : World} (G1 : (W.drew.alloc (.cells #[.slice none 0 0, .slice none 0 0, .int .i64 0, .int .i64 0] 27)).grownBy x (Value.slice none 0 0).ownBlock) : (∀ i, x.cell? ⟨W.heap.size, i, none⟩ = (#[.slice none 0 0, .slice none 0 0, .int .i64 0, .int .i64 0] : Array Value)[i]?) ∧ (∀ i, x.frozen? ⟨W.heap.size, i, none⟩ = false) ∧ W.heap.size < x.heap.size := by
  have h0 : (W.drew.alloc (.cells #[.slice none 0 0, .slice none 0 0, .int .i64 0, .int .i64 0] 27)).heap[W.heap.size]? = some (.cells #[.slice none 0 0, .slice none 0 0, .int .i64 0, .int .i64 0] 27 (0, 0)) := heap_alloc_new W.drew _
  have h1 := (G1.block W.heap.size (Array.getElem?_eq_some_iff.1 h0).1 (by intro e; cases e)).trans h0
  exact ⟨fun i => cell_of_row x _ i _ 27 (0, 0) h1, fun i => frozen_of_row x _ i _ 27 h1, (Array.getElem?_eq_some_iff.1 h1).1⟩

/-- What stands as a graph is copied. -/
structure Cp (w u : World) (gO : Nat) (v : Gv) (G : GL) (L : List (Int × Sl)) (v0 : Gv) : Prop where
  bel : Below w.heap.size w u
  ga : u.heap[w.heap.size]? = some (.cells v0.cs 27 (0, 0))
  rb : u.heap[w.heap.size + 1]? = some (.cells #[.slice none 0 0, .slice none 0 0, .int .i64 0, .int .i64 0] 27 (0, 0))
  box : u.heap[gO]? = some (.cells v.cs 27 (0, 0))
  gt : w.heap.size + 2 ≤ gO
  own : Own u w.heap.size v G L

section
variable {w W x1 u u' : World} {gO : Nat} {v v0 : Gv} {G : GL} {L : List (Int × Sl)} {A1 : Option Addr} {en c1 : Nat} {E : List Ed} {x y : Int}
theorem Cp.step (c : Cp w u gO v G L v0) (b : Below u.heap.size u u') : Cp w u' gO v G L v0 :=
  ⟨c.bel.trans (b.mono c.bel.size), (b.block _ (Array.getElem?_eq_some_iff.1 c.ga).1).trans c.ga, (b.block _ (Array.getElem?_eq_some_iff.1 c.rb).1).trans c.rb, (b.block _ (Array.getElem?_eq_some_iff.1 c.box).1).trans c.box, c.gt, c.own.step b⟩
theorem own_first (O1 : x1.ownsRow W.heap.size 79 3 (.slice A1 (0 + en) c1) (0 + en) ([] ++ ints (flat3 E))) : Own x1 W.heap.size ⟨noSl, ⟨A1, en, c1⟩, x, y⟩ ⟨[], E, x, y⟩ [] :=
  ⟨World.ownsRow_nil _ _ _ _, rfl, (fun i hi => by cases hi), (fun i hi => by cases hi), by rw [Nat.zero_add, List.nil_append] at O1; exact O1, rfl, rfl⟩
theorem cp_first1 (TW : Two W w.heap.size v0 ⟨⟨none, 0, 0⟩, ⟨none, 0, 0⟩, 0, 0⟩) (BW : Below w.heap.size w W) (HS : W.heap.size = w.heap.size + 2) (BU : Below W.heap.size W x1) (O1 : x1.ownsRow W.heap.size 79 3 (.slice A1 (0 + en) c1) (0 + en) ([] ++ ints (flat3 E))) :
    Cp w (x1.alloc (.cells #[.slice none 0 0, .slice A1 en c1, .int .i64 x, .int .i64 y] 27)) x1.heap.size ⟨noSl, ⟨A1, en, c1⟩, x, y⟩ ⟨[], E, x, y⟩ [] v0 := by
  have T := TW.step BU
  have b1 := (BW.trans (BU.mono BW.size))
  have hs := BU.size
  exact ⟨b1.alloc b1.size _, (Below.heap_alloc _ _ _ (by omega)).trans T.one, (Below.heap_alloc _ _ _ (by omega)).trans T.two, heap_alloc_new _ _, by omega, ((own_first O1).less BW.size).step ((Below.refl _ _).alloc (Nat.le_refl _) _)⟩
theorem cp_first2 (TW : Two W w.heap.size v0 ⟨⟨none, 0, 0⟩, ⟨none, 0, 0⟩, 0, 0⟩) (BW : Below w.heap.size w W) (HS : W.heap.size = w.heap.size + 2) (BU : Below W.heap.size W x1) (O1 : x1.ownsRow W.heap.size 79 3 (.slice A1 (0 + en) c1) (0 + en) ([] ++ ints (flat3 E)))
    (hb : x1.heap[W.heap.size]? = some (.cells #[.slice none 0 0, .slice none 0 0, .int .i64 0, .int .i64 0] 27 (0, 0))) :
    Cp w ((((x1.setCell ⟨W.heap.size, 0, none⟩ (.slice none 0 0)).setCell ⟨W.heap.size, 1, none⟩ (.slice A1 en c1)).setCell ⟨W.heap.size, 2, none⟩ (.int .i64 x)).setCell ⟨W.heap.size, 3, none⟩ (.int .i64 y)) W.heap.size ⟨noSl, ⟨A1, en, c1⟩, x, y⟩ ⟨[], E, x, y⟩ [] v0 := by
  have T := TW.step BU
  have b1 := (BW.trans (BU.mono BW.size))
  have h1 := heap_setCell_same x1 W.heap.size 0 _ 27 (.slice none 0 0) hb
  have h2 := heap_setCell_same _ W.heap.size 1 _ 27 (.slice A1 en c1) h1
  have h3 := heap_setCell_same _ W.heap.size 2 _ 27 (.int .i64 x) h2
  have h4 := heap_setCell_same _ W.heap.size 3 _ 27 (.int .i64 y) h3
  have o1 : ∀ (u : World) (i g : Nat) (z : Value), g ≠ W.heap.size → (u.setCell ⟨W.heap.size, i, none⟩ z).heap[g]? = u.heap[g]? := fun u i g z hg => heap_setCell_other u _ _ _ hg
  have O := (own_first (x := x) (y := y) O1).less BW.size
  have e1 := own_cell (own_cell (own_cell (own_cell O.edg hb (by decide) 0 (.slice none 0 0)) h1 (by decide) 1 (.slice A1 en c1)) h2 (by decide) 2 (.int .i64 x)) h3 (by decide) 3 (.int .i64 y)
  refine ⟨set4_below b1 (by omega) _ _ _ _, ?_, ?_, h4, by omega, ⟨World.ownsRow_nil _ _ _ _, rfl, (fun i hi => by cases hi), (fun i hi => by cases hi), e1, rfl, rfl⟩⟩
  · rw [o1 _ _ _ _ (by omega), o1 _ _ _ _ (by omega), o1 _ _ _ _ (by omega), o1 _ _ _ _ (by omega)]; exact T.one
  · rw [o1 _ _ _ _ (by omega), o1 _ _ _ _ (by omega), o1 _ _ _ _ (by omega), o1 _ _ _ _ (by omega)]; exact T.two
end


/-- A block of another type than the nodes' row is as it was. -/
theorem kept_grown {X x4 : World} {B n c : Nat} {A : Option Addr} {xs : List Value} (h : X.ownsRow B 61 2 (.slice A n c) n xs) (hg : X.grownBy x4 (Value.slice A n c).ownBlock) {g t : Nat} {cs : Array Value} (hb : X.heap[g]? = some (.cells cs t (0, 0))) (ht : t ≠ 61) : x4.heap[g]? = some (.cells cs t (0, 0)) := by
  refine (hg.block g (Array.getElem?_eq_some_iff.1 hb).1 fun e => ?_).trans hb
  rcases h.2 with ⟨h1, _⟩ | ⟨k, cap, cur, h1, _, hk, _⟩
  · rw [h1] at e; cases e
  · rw [h1] at e
    simp only [Value.ownBlock, Option.some.injEq] at e
    rw [e, hk] at hb
    simp only [Option.some.injEq, Obj.cells.injEq] at hb
    exact ht hb.2.1.symm
theorem own_grown {X x4 : World} {B B' n c e s m : Nat} {A : Option Addr} {xs ys : List Value} {v : Value} (h : X.ownsRow B 61 2 (.slice A n c) n xs) (hg : X.grownBy x4 (Value.slice A n c).ownBlock) (o : X.ownsRow B' e s v m ys) (ht : e ≠ 61) : x4.ownsRow B' e s v m ys := by
  refine ⟨o.1, ?_⟩
  rcases o.2 with h0 | ⟨k, cap, cur, hv, hB, hk, r⟩
  · exact .inl h0
  · exact .inr ⟨k, cap, cur, hv, hB, kept_grown h hg hk ht, r⟩
theorem news_new (x : World) (cs : Array Value) (t : TypeId) : ∀ ad, some (⟨x.heap.size, 0, none⟩ : Addr) = some ad → ∀ j u, cs.toList[j]? = some u → (x.alloc (.cells cs t)).cell? (ad.add j) = some u := fun ad e => by
  cases e
  exact World.news_of_block (heap_alloc_new x _)
theorem take_more {N : List Nd} {k : Nat} (hk : k < N.length) : N.take (k + 1) = N.take k ++ [N.getD k (0, [])] := by
  rw [List.take_add_one, List.getElem?_eq_getElem hk]
  simp [hk]
theorem take_getD {N : List Nd} {k i : Nat} (h : i < k) : (N.take k).getD i (0, []) = N.getD i (0, []) := by simp [List.getD_eq_getElem?_getD, h]
/-- One node more. -/
theorem Cp.more {w X x4 : World} {gO k hh c3 on oc pn pc c4 : Nat} {z : Int} {oA pA A3 A4 : Option Addr} {N : List Nd} {E : List Ed} {x y x' y' : Int} {L : List (Int × Sl)} {v0 : Gv} (C : Cp w X gO ⟨⟨oA, on, oc⟩, ⟨pA, pn, pc⟩, x', y'⟩ ⟨N.take k, E, x, y⟩ L v0) (hk : k < N.length) (hz : (N.getD k (0, [])).1 = z)
    (O3 : X.ownsRow w.heap.size 83 2 (.slice A3 hh c3) hh (ints (flat2 (N.getD k (0, [])).2))) (O4 : x4.ownsRow w.heap.size 61 2 (.slice A4 (on + 1) c4) (on + 1) (cellsN L ++ [.int .i64 z, .slice A3 hh c3])) (G4 : X.grownBy x4 (Value.slice oA on oc).ownBlock) :
    Cp w (x4.setCell ⟨gO, 0, none⟩ (.slice A4 (on + 1) c4)) gO ⟨⟨A4, on + 1, c4⟩, ⟨pA, pn, pc⟩, x', y'⟩ ⟨N.take (k + 1), E, x, y⟩ (L ++ [(z, ⟨A3, hh, c3⟩)]) v0 := by
  have R := C.own.rows
  have hlen : L.length = k := by rw [C.own.len]; simp; omega
  have kb := kept_grown R G4 C.box (by decide)
  have hbx := heap_setCell_same x4 gO 0 _ 27 (.slice A4 (on + 1) c4) kb
  have oth : ∀ g, g ≠ gO → (x4.setCell ⟨gO, 0, none⟩ (.slice A4 (on + 1) c4)).heap[g]? = x4.heap[g]? := fun g hg => heap_setCell_other x4 _ _ _ hg
  have gt := C.gt
  refine ⟨?_, (oth _ (by omega)).trans (kept_grown R G4 C.ga (by decide)), (oth _ (by omega)).trans (kept_grown R G4 C.rb (by decide)), hbx, gt, ⟨?_, ?_, fun i hi => ?_, fun i hi => ?_, ?_, C.own.x, C.own.y⟩⟩
  · exact ((C.bel.grown G4 C.bel.size fun j hj => (R.lt j hj).1)).setCell (p := ⟨gO, 0, none⟩) (by dsimp only; omega) _
  · have e : cellsN (L ++ [(z, ⟨A3, hh, c3⟩)]) = cellsN L ++ [.int .i64 z, .slice A3 hh c3] := by rw [cellsN_append]; rfl
    rw [e]
    exact own_cell O4 kb (by decide) 0 _
  · simp only [List.length_append, List.length_cons, List.length_nil, List.length_take]; omega
  · simp only [List.length_take] at hi
    rw [take_getD (show i < k + 1 by omega)]
    by_cases e : i = k
    · subst e
      have e1 : (L ++ [(z, (⟨A3, hh, c3⟩ : Sl))]).getD i (0, noSl) = (z, ⟨A3, hh, c3⟩) := by simp [List.getD_eq_getElem?_getD, ← hlen]
      rw [e1]
      exact hz.symm
    · have hi' : i < k := by omega
      have e1 : (L ++ [(z, (⟨A3, hh, c3⟩ : Sl))]).getD i (0, noSl) = L.getD i (0, noSl) := by simp [List.getD_eq_getElem?_getD, List.getElem?_append, hlen, hi']
      rw [e1, ← take_getD hi']
      exact C.own.ids i (by simp; omega)
  · simp only [List.length_take] at hi
    rw [take_getD (show i < k + 1 by omega)]
    by_cases e : i = k
    · subst e
      have e1 : (L ++ [(z, (⟨A3, hh, c3⟩ : Sl))]).getD i (0, noSl) = (z, ⟨A3, hh, c3⟩) := by simp [List.getD_eq_getElem?_getD, ← hlen]
      rw [e1]
      exact own_cell (own_grown R G4 O3 (by decide)) kb (by decide) 0 _
    · have hi' : i < k := by omega
      have e1 : (L ++ [(z, (⟨A3, hh, c3⟩ : Sl))]).getD i (0, noSl) = L.getD i (0, noSl) := by simp [List.getD_eq_getElem?_getD, List.getElem?_append, hlen, hi']
      rw [e1, ← take_getD hi']
      exact own_cell (own_grown R G4 (C.own.prs i (by simp; omega)) (by decide)) kb (by decide) 0 _
  · exact own_cell (own_grown R G4 C.own.edg (by decide)) kb (by decide) 0 _

theorem some_not {n : Nat} (a : Addr) : some a = none → n = 0 := fun h => by cases h
theorem some_zero {n : Nat} (a : Addr) : some a = none → n = 0 := fun h => by cases h
theorem node_cells {wr x3 : World} {z : Int} {hA : Option Addr} {hh hcc : Nat} (B3 : Below (wr.alloc (.cells #[.int .i64 z, .slice hA hh hcc] 61)).heap.size (wr.alloc (.cells #[.int .i64 z, .slice hA hh hcc] 61)) x3) : x3.cell? ⟨wr.heap.size, 0, none⟩ = some (.int .i64 z) ∧ x3.cell? ⟨wr.heap.size, 1, none⟩ = some (.slice hA hh hcc) := by
  have h0 := (B3.block wr.heap.size (by simp)).trans (heap_alloc_new wr (.cells #[.int .i64 z, .slice hA hh hcc] 61))
  exact ⟨(cell_of_row _ _ 0 _ 61 (0, 0) h0).trans rfl, (cell_of_row _ _ 1 _ 61 (0, 0) h0).trans rfl⟩
theorem own_pairs {x3 : World} {B hh c3 : Nat} {A3 : Option Addr} {l : List Pr} (O3 : x3.ownsRow B 83 2 (.slice A3 (0 + hh) c3) (0 + hh) ([] ++ ints (flat2 l))) : x3.ownsRow B 83 2 (.slice A3 hh c3) hh (ints (flat2 l)) := by
  rw [Nat.zero_add, List.nil_append] at O3
  exact O3
theorem node_one (z : Int) (A3 : Option Addr) (hh c3 : Nat) : ∀ u ∈ (#[.int .i64 z, .slice A3 hh c3] : Array Value).toList, u.oneCell' = true := by
  intro u hu
  simp at hu
  rcases hu with rfl | rfl <;> rfl
theorem box_free {w X x4 : World} {gO on oc pn pc : Nat} {oA pA : Option Addr} {x' y' : Int} {G : GL} {L : List (Int × Sl)} {v0 : Gv} (C : Cp w X gO ⟨⟨oA, on, oc⟩, ⟨pA, pn, pc⟩, x', y'⟩ G L v0) (G4 : X.grownBy x4 (Value.slice oA on oc).ownBlock) : x4.cell? ⟨gO, 0, none⟩ = some (.slice oA on oc) ∧ x4.frozen? ⟨gO, 0, none⟩ = false := by
  have kb := kept_grown C.own.rows G4 C.box (by decide)
  exact ⟨(cell_of_row _ gO 0 _ 27 (0, 0) kb).trans rfl, frozen_of_row _ gO 0 _ 27 kb⟩

theorem own_four {u : World} {B e s n g t : Nat} {v : Value} {xs : List Value} {cs : Array Value} (h : u.ownsRow B e s v n xs) (hg : u.heap[g]? = some (.cells cs t (0, 0))) (ht : t ≠ e) (a b c d : Value) : ((((u.setCell ⟨g, 0, none⟩ a).setCell ⟨g, 1, none⟩ b).setCell ⟨g, 2, none⟩ c).setCell ⟨g, 3, none⟩ d).ownsRow B e s v n xs := by
  have h1 := heap_setCell_same u g 0 _ t a hg
  have h2 := heap_setCell_same _ g 1 _ t b h1
  have h3 := heap_setCell_same _ g 2 _ t c h2
  exact own_cell (own_cell (own_cell (own_cell h hg ht 0 a) h1 ht 1 b) h2 ht 2 c) h3 ht 3 d
theorem copy_done {w u : World} {gO k on oc pn pc : Nat} {oA pA : Option Addr} {x y x' y' : Int} {G : GL} {L : List (Int × Sl)} {v0 : Gv} (C : Cp w u gO ⟨⟨oA, on, oc⟩, ⟨pA, pn, pc⟩, x', y'⟩ ⟨G.N.take k, G.E, x, y⟩ L v0) (hk : G.N.length ≤ k) (ex : x = G.x) (ey : y = G.y) :
    ((((u.setCell ⟨w.heap.size + 1, 0, none⟩ (.slice oA on oc)).setCell ⟨w.heap.size + 1, 1, none⟩ (.slice pA pn pc)).setCell ⟨w.heap.size + 1, 2, none⟩ (.int .i64 x')).setCell ⟨w.heap.size + 1, 3, none⟩ (.int .i64 y')).heap[w.heap.size + 1]? = some (.cells #[.slice oA on oc, .slice pA pn pc, .int .i64 x', .int .i64 y'] 27 (0, 0)) ∧
    Own ((((u.setCell ⟨w.heap.size + 1, 0, none⟩ (.slice oA on oc)).setCell ⟨w.heap.size + 1, 1, none⟩ (.slice pA pn pc)).setCell ⟨w.heap.size + 1, 2, none⟩ (.int .i64 x')).setCell ⟨w.heap.size + 1, 3, none⟩ (.int .i64 y')) w.heap.size ⟨⟨oA, on, oc⟩, ⟨pA, pn, pc⟩, x', y'⟩ G L ∧
    Below w.heap.size w ((((u.setCell ⟨w.heap.size + 1, 0, none⟩ (.slice oA on oc)).setCell ⟨w.heap.size + 1, 1, none⟩ (.slice pA pn pc)).setCell ⟨w.heap.size + 1, 2, none⟩ (.int .i64 x')).setCell ⟨w.heap.size + 1, 3, none⟩ (.int .i64 y')) := by
  have hg := C.rb
  have h1 := heap_setCell_same u (w.heap.size + 1) 0 _ 27 (.slice oA on oc) hg
  have h2 := heap_setCell_same _ (w.heap.size + 1) 1 _ 27 (.slice pA pn pc) h1
  have h3 := heap_setCell_same _ (w.heap.size + 1) 2 _ 27 (.int .i64 x') h2
  have h4 := heap_setCell_same _ (w.heap.size + 1) 3 _ 27 (.int .i64 y') h3
  have O := C.own
  rw [List.take_of_length_le hk] at O
  exact ⟨h4, ⟨own_four O.rows hg (by decide) _ _ _ _, O.len, O.ids, fun i hi => own_four (O.prs i hi) hg (by decide) _ _ _ _, own_four O.edg hg (by decide) _ _ _ _, O.x.trans ex, O.y.trans ey⟩, set4_below C.bel (by omega) _ _ _ _⟩

end Go.Proofs.YtiiadkjiofkonaaGreat
