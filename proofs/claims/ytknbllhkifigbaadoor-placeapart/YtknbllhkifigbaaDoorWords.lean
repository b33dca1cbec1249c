/- Words for layer 3's proofs: a slice of numbers that is read, one that is new, and how both are kept while memory is made and written. No conditions. -/
import Derived.Below
import Derived.OwnWalk
import Derived.Laws.OwnMore
import Derived.Laws.CopyOwn
import Derived.Laws.AppendOwnNone
import Derived.Deep.AppendLies
import Derived.Deep.Draws
namespace Go.Proofs.YtknbllhkifigbaaDoor
open Go.RowKit

theorem hide {p : Prop} (h : p) : Hid p := h

/-- The slice at A, of n numbers, reads as zs and lies below block B (nothing is asked of the address of an empty one). -/
def Nums (w : World) (B : Nat) (A : Option Addr) (n : Nat) (zs : List Int) : Prop :=
  zs.length = n ∧ (0 < n → ∃ b off, A = some ⟨b, off, none⟩ ∧ b < B ∧ ∀ i, i < n → w.cell? ⟨b, off + i, none⟩ = some (.int .i64 (zs.getD i 0)))

/-- The slice at A, of n numbers, reads as zs and begins a row of its own, from block B on, that may be written. -/
def Fresh (w : World) (B : Nat) (A : Option Addr) (n : Nat) (zs : List Int) : Prop :=
  zs.length = n ∧ (0 < n → ∃ g cs, A = some ⟨g, 0, none⟩ ∧ B ≤ g ∧ w.heap[g]? = some (.cells cs 3 (0, 0)) ∧ ∀ i, i < n → cs[i]? = some (.int .i64 (zs.getD i 0)))

section
variable {w w' : World} {B B' n : Nat} {A : Option Addr} {zs : List Int}

theorem Nums.nil : Nums w B A 0 [] := ⟨rfl, fun h => absurd h (by omega)⟩

theorem Nums.below (h : Nums w B A n zs) (hb : Below B' w w') (hB : B ≤ B') : Nums w' B A n zs :=
  ⟨h.1, fun hn => by
    obtain ⟨b, off, e, hlt, hc⟩ := h.2 hn
    exact ⟨b, off, e, hlt, fun i hi => (hb.cell (p := ⟨b, off + i, none⟩) (Nat.lt_of_lt_of_le hlt hB)).trans (hc i hi)⟩⟩

theorem Nums.more (h : Nums w B A n zs) (hB : B ≤ B') : Nums w B' A n zs :=
  ⟨h.1, fun hn => by
    obtain ⟨b, off, e, hlt, hc⟩ := h.2 hn
    exact ⟨b, off, e, Nat.lt_of_lt_of_le hlt hB, hc⟩⟩

theorem Nums.at_ {k : Nat} (h : Nums w B A n zs) (hk : k < n) : ∃ b off, A = some ⟨b, off, none⟩ ∧ b < B ∧ w.cell? ⟨b, off + k, none⟩ = some (.int .i64 (zs.getD k 0)) := by
  obtain ⟨b, off, e, hlt, hc⟩ := h.2 (by omega)
  exact ⟨b, off, e, hlt, hc k hk⟩

theorem Fresh.nums (h : Fresh w B A n zs) : Nums w w.heap.size A n zs :=
  ⟨h.1, fun hn => by
    obtain ⟨g, cs, e, _, hg, hc⟩ := h.2 hn
    refine ⟨g, 0, e, (Array.getElem?_eq_some_iff.1 hg).1, fun i hi => ?_⟩
    rw [Nat.zero_add, cell_of_row w g i cs 3 (0, 0) hg]
    exact hc i hi⟩

theorem Fresh.at_ {k : Nat} (h : Fresh w B A n zs) (hk : k < n) : ∃ g, A = some ⟨g, 0, none⟩ ∧ B ≤ g ∧ g < w.heap.size ∧ w.cell? ⟨g, k, none⟩ = some (.int .i64 (zs.getD k 0)) ∧ w.frozen? ⟨g, k, none⟩ = false := by
  obtain ⟨g, cs, e, hB, hg, hc⟩ := h.2 (by omega)
  exact ⟨g, e, hB, (Array.getElem?_eq_some_iff.1 hg).1, (cell_of_row w g k cs 3 (0, 0) hg).trans (hc k hk), frozen_of_row w g k cs 3 hg⟩

theorem Fresh.below (h : Fresh w B A n zs) (hb : Below w.heap.size w w') : Fresh w' B A n zs :=
  ⟨h.1, fun hn => by
    obtain ⟨g, cs, e, hB, hg, hc⟩ := h.2 hn
    exact ⟨g, cs, e, hB, (hb.block g (Array.getElem?_eq_some_iff.1 hg).1).trans hg, hc⟩⟩

theorem Fresh.less (h : Fresh w B A n zs) (hB : B' ≤ B) : Fresh w B' A n zs :=
  ⟨h.1, fun hn => by
    obtain ⟨g, cs, e, hb, hg, hc⟩ := h.2 hn
    exact ⟨g, cs, e, Nat.le_trans hB hb, hg, hc⟩⟩

theorem getD_set (zs : List Int) (k i : Nat) (x : Int) (hk : k < zs.length) : (zs.set k x).getD i 0 = if k = i then x else zs.getD i 0 := by
  simp only [List.getD_eq_getElem?_getD, List.getElem?_set]
  by_cases h : k = i
  · subst h; simp [hk]
  · simp [h]

theorem Fresh.stored {g k : Nat} (h : Fresh w B (some ⟨g, 0, none⟩) n zs) (hk : k < n) (x : Int) : Fresh (w.setCell ⟨g, k, none⟩ (.int .i64 x)) B (some ⟨g, 0, none⟩) n (zs.set k x) := by
  refine ⟨by simpa using h.1, fun hn => ?_⟩
  obtain ⟨g', cs, e, hB, hg, hc⟩ := h.2 hn
  have e' : g' = g := by simpa using e.symm
  subst e'
  refine ⟨g', cs.setIfInBounds k (.int .i64 x), rfl, hB, heap_setCell_same w g' k cs 3 _ hg, fun i hi => ?_⟩
  have hlen := h.1
  rw [getD_set zs k i x (by omega)]
  have hsz : i < cs.size := (Array.getElem?_eq_some_iff.1 (hc i hi)).1
  by_cases hki : k = i
  · subst hki; simp [hsz]
  · rw [Array.getElem?_setIfInBounds, if_neg hki, if_neg hki]; exact hc i hi

theorem Fresh.of_own {v : Value} (h : w.ownsRow B 3 1 v n (zs.map (Value.int .i64))) : ∃ A c, v = .slice A n c ∧ Fresh w B A n zs := by
  have hl : zs.length = n := by simpa using h.1
  rcases h.2 with ⟨rfl, rfl⟩ | ⟨g, cap, cur, rfl, hb, hg, _, _, _, ht⟩
  · exact ⟨none, 0, rfl, hl, fun h => absurd h (by omega)⟩
  · refine ⟨_, cap, rfl, hl, fun hn => ⟨g, cur, rfl, hb, hg, fun i hi => ?_⟩⟩
    have e : (cur.toList.take (n * 1))[i]? = (zs.map (Value.int .i64))[i]? := by rw [ht]
    rw [List.getElem?_take, if_pos (by omega)] at e
    rw [← Array.getElem?_toList, e]
    simp [List.getD_eq_getElem?_getD, show i < zs.length by omega]

theorem Nums.cells {ad : Addr} (h : Nums w B (some ad) n zs) : ∀ j u, (zs.map (Value.int .i64))[j]? = some u → w.cell? (ad.add j) = some u := by
  intro j u hu
  have hj : j < n := by have := (List.getElem?_eq_some_iff.1 hu).1; have hl := h.1; simpa [hl] using this
  obtain ⟨b, off, e, _, hc⟩ := h.at_ hj
  have e' : ad = ⟨b, off, none⟩ := by simpa using e
  subst e'
  rw [Addr.add_lit, hc, ← hu]
  have hl := h.1
  simp [List.getD_eq_getElem?_getD, show j < zs.length by omega]

theorem own_block {g : Nat} {xs : List Value} (h : w.ownsRow B 3 1 (.slice (some ⟨g, 0, none⟩) n n) n xs) : w.heap[g]? = some (.cells xs.toArray 3 (0, 0)) := by
  rcases h.2 with ⟨h', _⟩ | ⟨g', cap', cur, h', _, hg, _, _, hs, htake⟩
  · simp at h'
  · simp only [Value.slice.injEq, Option.some.injEq, Addr.mk.injEq, and_true, true_and] at h'
    obtain ⟨rfl, rfl⟩ := h'
    rw [hg, ← htake, List.take_of_length_le (by simp [hs])]

theorem splice_whole {α : Type} (L cs : List α) (h : cs.length = L.length) : splice L 0 cs = cs := by
  simp [splice, h]

theorem Nums.copied (h : Nums w B A n zs) : 0 < (zs.map (Value.int .i64)).length → ∃ ad, A = some ad ∧ ∀ j v, (zs.map (Value.int .i64))[j]? = some v → w.cell? (ad.add j) = some v := by
  intro hl
  obtain ⟨b, off, rfl, _, _⟩ := h.2 (by have := h.1; simpa [this] using hl)
  exact ⟨_, rfl, h.cells⟩

theorem Fresh.of_block {g : Nat} (hl : zs.length = n) (hB : B ≤ g) (h : w.heap[g]? = some (.cells (zs.map (Value.int .i64)).toArray 3 (0, 0))) : Fresh w B (some ⟨g, 0, none⟩) n zs :=
  ⟨hl, fun _ => ⟨g, _, rfl, hB, h, fun i hi => by simp [List.getD_eq_getElem?_getD, show i < zs.length by omega]⟩⟩

end

theorem Nums.two (w : World) (x y : Int) : Nums (w.alloc (.cells #[.int .i64 x, .int .i64 y] 3)) (w.heap.size + 1) (some ⟨w.heap.size, 0, none⟩) 2 [x, y] := by
  refine ⟨rfl, fun _ => ⟨w.heap.size, 0, rfl, by omega, fun i hi => ?_⟩⟩
  rw [cell_of_row _ w.heap.size (0 + i) _ 3 (0, 0) (heap_alloc_new w _)]
  match i, hi with
  | 0, _ => rfl
  | 1, _ => rfl

/-- 'append' of a slice of numbers onto a nil one, as a law of the walk: a new slice that reads as they do. -/
theorem wpList_append_nums {P : Program} (w : World) {ops : Array Oper} {rest : List Oper} {o : Oper} {a : Act} {Q : Exit → Act → World → Prop} (hgd : o.guard = none) (s x : Operand) (t : TypeId)
    (ho : o.op = .call { callee := .builtin .append, args := #[s, x], argTypes := #[t, t] })
    (i : TypeInfo) (ht : P.underlying t = some (.slice 3)) (hi : P.info? 3 = some i) (hz : i.zero = some (.int .i64 0)) (hsize : i.size = 1) (hby : i.bytes = 8)
    (hs : a.eval s = .slice none 0 0) (A : Option Addr) (n c B : Nat) (zs : List Int) (hx : a.eval x = .slice A n c) (hc : A = none → c = 0) (hr : Nums w B A n zs) (hn : n ≤ 65536)
    (h : ∀ A' c' w', Fresh w' w.heap.size A' n zs → Below w.heap.size w w' → wpList P ops Q rest (a.put o.dst (.slice A' n c')) w') : wpList P ops Q (o :: rest) a w := by
  rcases A with _ | ad
  · obtain rfl := hc rfl
    have hn0 : n = 0 := by
      rcases Nat.eq_zero_or_pos n with h0 | h0
      · exact h0
      · obtain ⟨_, _, e, _⟩ := hr.2 h0
        cases e
    subst hn0
    refine wpList_append_own_none hgd s x t ho w.heap.size 3 i 1 ht hi (.slice none 0 0) 0 [] hs (World.ownsRow_nil _ _ _ _) hx ?_
    exact h none 0 w ⟨hr.1, fun h => absurd h (by omega)⟩ (Below.refl _ _)
  · refine wpList_append_own w hgd s x t ho w.heap.size 3 i (.int .i64 0) 1 8 ht hi hz hsize hby rfl (by omega) (.slice none 0 0) 0 [] hs (World.ownsRow_nil _ _ _ _) ad n c (zs.map (Value.int .i64)) hx (by simp [hr.1]) hr.cells (ints_oneCell _ _) (by simp only [maxLen]; omega) (by omega) (Nat.le_refl _) ?_
    intro v' w' hown hg _
    rw [Nat.zero_add, List.nil_append] at hown
    obtain ⟨A', c', rfl, hf⟩ := Fresh.of_own hown
    exact h A' c' w' hf ((Below.refl _ _).grown hg (Nat.le_refl _) (by simp [Value.ownBlock]))

/-- What a walk is told of a slice of numbers that came in: it is nil, or it leads to a row of 'cap' cells, of which the first 'len' are its elements. -/
def IsRow (k : IntKind) (w : World) (a : Option Addr) (len cap : Nat) (zs : List Int) : Prop :=
  (a = none ∧ len = 0 ∧ cap = 0 ∧ zs = []) ∨
  ∃ x, a = some x ∧ len ≤ cap ∧ cap ≤ maxLen ∧ zs.length = cap ∧ (∀ i, i < zs.length → w.cell? (x.add i) = some (.int k (zs.getD i 0))) ∧ ∀ n ∈ zs, (Lit.int k n).wf = true

theorem IsRow.cap {w : World} {a : Option Addr} {len cap : Nat} {zs : List Int} (h : IsRow .i64 w a len cap zs) : a = none → cap = 0 := by
  rcases h with ⟨_, _, rfl, _⟩ | ⟨x, rfl, _⟩
  · exact fun _ => rfl
  · intro h; cases h

theorem IsRow.nums {w : World} {a : Option Addr} {len cap : Nat} {zs : List Int} (h : IsRow .i64 w a len cap zs) : Nums w w.heap.size a len (zs.take len) := by
  rcases h with ⟨rfl, rfl, rfl, rfl⟩ | ⟨⟨b, off, spot⟩, rfl, hl, _, hz, hc, _⟩
  · exact Nums.nil
  · refine ⟨by simp; omega, fun hn => ?_⟩
    have h0 := hc 0 (by omega)
    have hs : spot = none := by simpa [Addr.add] using World.cell?_spot h0
    subst hs
    refine ⟨b, off, rfl, World.block_lt_of_cell? w ⟨b, off, none⟩ (by simpa [Addr.add] using h0), fun i hi => ?_⟩
    have hi' := hc i (by omega)
    rw [Addr.add_lit] at hi'
    rw [hi']
    simp [List.getD_eq_getElem?_getD, hi]

/-- What a call tells that tells one new slice. -/
def Told1 (w : World) (n : Nat) (zs : List Int) (e : Ending) (w' : World) : Prop :=
  ∃ A c, e = .returned (.slice A n c) ∧ Fresh w' w.heap.size A n zs ∧ Below w.heap.size w w'
/-- .. a new slice, and OK. -/
def Told2 (w : World) (n : Nat) (zs : List Int) (e : Ending) (w' : World) : Prop :=
  ∃ A c, e = .returned (.tuple #[.slice A n c, .int .i64 0]) ∧ Fresh w' w.heap.size A n zs ∧ Below w.heap.size w w'
/-- .. a new slice, a bool, and OK. -/
def Told3 (w : World) (n : Nat) (zs : List Int) (b : Bool) (e : Ending) (w' : World) : Prop :=
  ∃ A c, e = .returned (.tuple #[.slice A n c, .bool b, .int .i64 0]) ∧ Fresh w' w.heap.size A n zs ∧ Below w.heap.size w w'
/-- .. one value, and nothing is written; an order may be drawn. -/
def Drew (v : Value) (w : World) (e : Ending) (w' : World) : Prop := e = .returned v ∧ Below w.heap.size w w'

theorem Below.drewN {B : Nat} {a w : World} (h : Below B a w) (n : Nat) : Below B a (w.drewN n) := ⟨h.os, h.tape, h.output, h.size, h.block⟩

end Go.Proofs.YtknbllhkifigbaaDoor
