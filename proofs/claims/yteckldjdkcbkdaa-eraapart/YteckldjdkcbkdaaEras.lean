/- Words for layer 6's proofs: an era as a value (a number and a slice of numbers), what it reads as, its box, one that was told. No conditions. -/
import Derived.Test.YteckldjdkcbkdaaRows
import Derived.Test.YteckldjdkcbkdaaWords
import Derived.Laws.Rows
import Derived.Laws.Tables
import Derived.WalkKit
namespace Go.Proofs.Yteckldjdkcbkdaa
open Go.RowKit
set_option linter.unusedVariables false

theorem Try.info3 : (Try.prog.info? 3).map (fun i => (i.zero, i.size, i.bytes)) = some (some (.int .i64 0), 1, 8) := by kernel_rfl
theorem Try.size24 : (Try.prog.info? 24).map (·.size) = some 2 := by kernel_rfl

abbrev V2 (t : Int) (A : Option Addr) (n c : Nat) : Value := .agg #[.int .i64 t, .slice A n c]
abbrev C2 (t : Int) (A : Option Addr) (n c : Nat) : Array Value := #[.int .i64 t, .slice A n c]
abbrev zeros2 : Array Value := #[.int .i64 0, .slice none 0 0]

/-- Block g is the box of an era. -/
def EBox (u : World) (g : Nat) (cs : Array Value) : Prop := u.heap[g]? = some (.cells cs 24 (0, 0))

section
variable {u u' : World} {g : Nat} {cs : Array Value}
theorem EBox.lt (h : EBox u g cs) : g < u.heap.size := (Array.getElem?_eq_some_iff.1 h).1
theorem EBox.cells (h : EBox u g cs) : ∀ i, u.cell? ⟨g, i, none⟩ = cs[i]? := fun i => cell_of_row u g i _ 24 (0, 0) h
theorem EBox.below {B : Nat} (h : EBox u g cs) (hb : Below B u u') (hg : g < B) : EBox u' g cs := (hb.block g hg).trans h
theorem EBox.alloc (h : EBox u g cs) (o : Obj) : EBox (u.alloc o) g cs := (Below.heap_alloc u o g h.lt).trans h
theorem EBox.new (u : World) (cs : Array Value) : EBox (u.alloc (.cells cs 24)) u.heap.size cs := heap_alloc_new u _
theorem EBox.step (h : EBox u g cs) (hb : Below u.heap.size u u') : EBox u' g cs := h.below hb h.lt
theorem EBox.set (h : EBox u g cs) (i : Nat) (v : Value) : EBox (u.setCell ⟨g, i, none⟩ v) g (cs.setIfInBounds i v) := heap_setCell_same u g i cs 24 v h
theorem EBox.other (h : EBox u g cs) {k i : Nat} (hk : k ≠ g) (v : Value) : EBox (u.setCell ⟨k, i, none⟩ v) g cs := (Below.heap_setCell u ⟨k, i, none⟩ v g (by simpa using hk.symm)).trans h
theorem EBox.frozen (h : EBox u g cs) : ∀ i, u.frozen? ⟨g, i, none⟩ = false := fun i => frozen_of_row u g i cs 24 h
end

/-- Behind a call that was made behind one new block. -/
theorem one_call {w u : World} {o : Obj} (h : Below (w.alloc o).heap.size (w.alloc o) u) : Below w.heap.size w u :=
  ((Below.refl _ _).alloc (Nat.le_refl _) _).trans (h.mono (by simp))

/-- Behind a further one. -/
theorem next_call {w u u' : World} {B : Nat} (h : Below B w u) (hB : B ≤ w.heap.size) (h' : Below u.heap.size u u') : Below B w u' :=
  h.trans (h'.mono (Nat.le_trans hB h.size))

/-- The slice at A, of n numbers, with room for c, reads as zs and lies in a row from block B on, that may be written. -/
def Row (u : World) (B : Nat) (A : Option Addr) (n c : Nat) (zs : List Int) : Prop :=
  u.ownsRow B 3 1 (.slice A n c) n (ints zs) ∧ (A = none → c = 0)

section
variable {u u' : World} {B B' n c g : Nat} {A : Option Addr} {zs : List Int}
theorem own_less {v : Value} {xs : List Value} (h : u.ownsRow B 3 1 v n xs) (hB : B' ≤ B) : u.ownsRow B' 3 1 v n xs := by
  refine ⟨h.1, ?_⟩
  rcases h.2 with h0 | ⟨g, cap, cur, h1, hb, r⟩
  · exact .inl h0
  · exact .inr ⟨g, cap, cur, h1, Nat.le_trans hB hb, r⟩
/-- A cell of another block is written. -/
theorem own_far (h : u.ownsRow B 3 1 (.slice A n c) n (ints zs)) {k : Nat} (hk : ∀ a, A = some a → a.block ≠ k) (i : Nat) (v : Value) : (u.setCell ⟨k, i, none⟩ v).ownsRow B 3 1 (.slice A n c) n (ints zs) := by
  refine ⟨h.1, ?_⟩
  rcases h.2 with h0 | ⟨g, cap, cur, h1, hB, hg, r⟩
  · exact .inl h0
  · simp only [Value.slice.injEq] at h1
    have := hk _ h1.1
    exact .inr ⟨g, cap, cur, by simp [h1], hB, (Below.heap_setCell u ⟨k, i, none⟩ v g (by simpa using this)).trans hg, r⟩
theorem own_addr {xs : List Value} (h : u.ownsRow B 3 1 (.slice A n c) n xs) : ∀ a, A = some a → B ≤ a.block ∧ a.block < u.heap.size := by
  intro a ha
  subst ha
  rcases h.2 with ⟨h1, _⟩ | ⟨g, cap, cur, h1, hb, hg, r⟩
  · cases h1
  · simp only [Value.slice.injEq, Option.some.injEq] at h1
    obtain ⟨rfl, _, _⟩ := h1
    exact ⟨hb, (Array.getElem?_eq_some_iff.1 hg).1⟩
theorem own_at (h : u.ownsRow B 3 1 (.slice (some ⟨g, 0, none⟩) n c) n (ints zs)) {k : Nat} (hk : k < n) : u.cell? ⟨g, k, none⟩ = some (.int .i64 (zs.getD k 0)) := by
  have hl : zs.length = n := by simpa using h.1
  rw [h.cellAt k (by omega)]
  simp [List.getD_eq_getElem?_getD, show k < zs.length by omega]
theorem own_ge (h : u.ownsRow B 3 1 (.slice (some ⟨g, 0, none⟩) n c) n (ints zs)) : B ≤ g ∧ g < u.heap.size := h.lt g rfl
theorem own_set (h : u.ownsRow B 3 1 (.slice (some ⟨g, 0, none⟩) n c) n (ints zs)) (k : Nat) (x : Int) : (u.setCell ⟨g, k, none⟩ (.int .i64 x)).ownsRow B 3 1 (.slice (some ⟨g, 0, none⟩) n c) n (ints (zs.set k x)) := by
  have := (h.stored k (.int .i64 x)).1
  rwa [show (ints zs).set k (.int .i64 x) = ints (zs.set k x) by simp [ints, List.map_set]] at this
/-- A row of some elements has a block. -/
theorem own_some (h : u.ownsRow B 3 1 (.slice A n c) n (ints zs)) (hn : 0 < n) : ∃ g, A = some ⟨g, 0, none⟩ := by
  rcases h.2 with ⟨_, h0⟩ | ⟨g, cap, cur, h1, _⟩
  · omega
  · simp at h1; exact ⟨g, h1.1⟩
theorem own_cap (h : u.ownsRow B 3 1 (.slice A n c) n (ints zs)) : n ≤ c ∧ c ≤ maxLen := by
  rcases h.2 with ⟨h1, h0⟩ | ⟨g, cap, cur, h1, hB, hg, hc, hm, hs, ht⟩
  · simp at h1; simp only [maxLen]; omega
  · simp at h1; omega

theorem Row.len (h : Row u B A n c zs) : zs.length = n := by simpa using h.1.1
theorem Row.nil (u : World) (B : Nat) : Row u B none 0 0 [] := ⟨World.ownsRow_nil _ _ _ _, fun _ => rfl⟩
theorem Row.nums (h : Row u B A n c zs) : Nums u u.heap.size 1 A n zs := own_nums h.1
theorem Row.below (h : Row u B A n c zs) (hb : Below u.heap.size u u') : Row u' B A n c zs := ⟨own_below h.1 hb, h.2⟩
theorem Row.less (h : Row u B A n c zs) (hB : B' ≤ B) : Row u B' A n c zs := ⟨own_less h.1 hB, h.2⟩
theorem Row.alloc (h : Row u B A n c zs) (o : Obj) : Row (u.alloc o) B A n c zs := h.below ((Below.refl _ _).alloc (Nat.le_refl _) _)
/-- A cell below the row's base is written. -/
theorem Row.free (h : Row u B A n c zs) {k : Nat} (hk : k < B) (i : Nat) (x : Value) : Row (u.setCell ⟨k, i, none⟩ x) B A n c zs :=
  ⟨own_far h.1 (fun a ha => by have := (own_addr h.1 a ha).1; omega) i x, h.2⟩
/-- .. or one of a box. -/
theorem Row.box (h : Row u B A n c zs) {k : Nat} {cs : Array Value} (hk : EBox u k cs) (i : Nat) (x : Value) : Row (u.setCell ⟨k, i, none⟩ x) B A n c zs := by
  refine ⟨own_far h.1 (fun a ha he => ?_) i x, h.2⟩
  subst ha
  rcases h.1.2 with ⟨h1, _⟩ | ⟨g, cap, cur, h1, hb, hg, r⟩
  · cases h1
  · simp only [Value.slice.injEq, Option.some.injEq] at h1
    obtain ⟨rfl, _, _⟩ := h1
    dsimp only at he
    subst he
    have h2 : some (Obj.cells cs 24 (0, 0)) = some (Obj.cells cur 3 (0, 0)) := hk.symm.trans hg
    simp at h2
end

/-- A slice of numbers that came in, or was told, reads as zs. -/
def Reads (u : World) (B : Nat) (A : Option Addr) (n c : Nat) (zs : List Int) : Prop := Nums u B 1 A n zs ∧ (A = none → c = 0)

section
variable {u u' : World} {B B' n c : Nat} {A : Option Addr} {zs : List Int}
theorem Reads.below (h : Reads u B A n c zs) (hb : Below B' u u') (hB : B ≤ B') : Reads u' B A n c zs := ⟨h.1.below hb hB, h.2⟩
theorem Reads.more (h : Reads u B A n c zs) (hB : B ≤ B') : Reads u B' A n c zs := ⟨h.1.more hB, h.2⟩
theorem Reads.len (h : Reads u B A n c zs) : zs.length = n := by have := h.1.1; omega
theorem Reads.step (h : Reads u u.heap.size A n c zs) (hb : Below u.heap.size u u') : Reads u' u'.heap.size A n c zs := (h.below hb (Nat.le_refl _)).more hb.size
theorem Row.reads (h : Row u B A n c zs) : Reads u u.heap.size A n c zs := ⟨h.nums, h.2⟩
end

/-- What a call tells: a slice; an era; an era and a number; an era and a bool. -/
def Tell (w : World) (zs : List Int) (e : Ending) (w' : World) : Prop := ∃ A n c, e = .returned (.slice A n c) ∧ Row w' w.heap.size A n c zs ∧ Below w.heap.size w w'
def Tell1 (w : World) (t : Int) (zs : List Int) (e : Ending) (w' : World) : Prop := ∃ A n c, e = .returned (V2 t A n c) ∧ Row w' w.heap.size A n c zs ∧ Below w.heap.size w w'
def Tell2 (w : World) (t : Int) (zs : List Int) (x : Value) (e : Ending) (w' : World) : Prop := ∃ A n c, e = .returned (.tuple #[V2 t A n c, x]) ∧ Row w' w.heap.size A n c zs ∧ Below w.heap.size w w'

theorem own_len {u : World} {B e s n m : Nat} {A : Option Addr} {c : Nat} {xs : List Value} (h : u.ownsRow B e s (.slice A n c) m xs) : n = m := by
  rcases h.2 with ⟨h1, h2⟩ | ⟨g, cap, cur, h1, _⟩
  · simp at h1; omega
  · simp at h1; omega

theorem set2_box {u : World} {g : Nat} {x y : Value} (h : EBox u g #[x, y]) (p q : Value) : EBox ((u.setCell ⟨g, 0, none⟩ p).setCell ⟨g, 1, none⟩ q) g #[p, q] := by
  have h1 := heap_setCell_same u g 0 _ 24 p h
  exact heap_setCell_same _ g 1 _ 24 q h1
theorem set2_below {B : Nat} {a u : World} {g : Nat} (h : Below B a u) (hg : B ≤ g) (p q : Value) : Below B a ((u.setCell ⟨g, 0, none⟩ p).setCell ⟨g, 1, none⟩ q) :=
  (h.setCell (p := ⟨g, 0, none⟩) hg p).setCell (p := ⟨g, 1, none⟩) hg q
theorem set2_row {u : World} {B n c k : Nat} {A : Option Addr} {zs : List Int} {cs : Array Value} (h : Row u B A n c zs) (hk : EBox u k cs) (p q : Value) : Row ((u.setCell ⟨k, 0, none⟩ p).setCell ⟨k, 1, none⟩ q) B A n c zs :=
  (h.box hk 0 p).box (hk.set 0 p) 1 q
theorem zero_cells {u : World} {g : Nat} (h : EBox u g zeros2) :
    u.cell? ⟨g, 0, none⟩ = some (.int .i64 0) ∧ u.frozen? ⟨g, 0, none⟩ = false ∧ u.cell? ⟨g, 1, none⟩ = some (.slice none 0 0) ∧ u.frozen? ⟨g, 1, none⟩ = false :=
  ⟨h.cells 0, h.frozen 0, h.cells 1, h.frozen 1⟩

/-- A struct result and one more. -/
theorem results_row_one {P : Program} {fn : Func} {p u : Tmp} {ty : TypeId} (h : fn.results = #[.cell p ty, .tmp u]) (tmps : Array Value) (w : World) (g : Nat) (t : TypeId) (cs : Array Value) (fr : Nat × Nat) (d : TypeDesc)
    (hp : tmps.getD p undef = .pointer (some ⟨g, 0, none⟩)) (hg : w.heap[g]? = some (.cells cs t fr))
    (hu : P.underlying ty = some d) (hd : (match d with | .struct _ | .array _ _ => true | _ => false) = true) (hi : (P.info? ty).map (·.size) = some cs.size) :
    (results fn tmps).run P w = .ok (.tuple #[.agg cs, tmps.getD u undef]) w := by
  have hp' : tmps[p]?.getD undef = .pointer (some ⟨g, 0, none⟩) := by simpa using hp
  simp [results, h, hp', asAddr, run_loadVar_row w g t ty cs fr d hg hu hd hi]

end Go.Proofs.Yteckldjdkcbkdaa
