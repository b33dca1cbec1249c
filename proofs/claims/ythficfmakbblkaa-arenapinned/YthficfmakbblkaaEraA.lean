/- Layer 6's contracts. (Several texts, one behind the other.) -/
import Derived.Below
import Derived.OwnWalk
import Derived.Laws.OwnMore
import Derived.Laws.AppendOwnNone
import Derived.Deep.AppendLies
import Derived.Deep.Draws
import Derived.Test.YthficfmakbblkaaRows
import Derived.Laws.Rows
import Derived.Laws.Tables
import Derived.WalkKit
import Derived.Deep.QuietTactic
import Derived.BigQuiet
import Derived.Lib.SliceRun
import Derived.Deep.RegionHeld3
import Derived.Laws.MakeOwn

/- Words for layer 6's proofs: a slice whose cells are numbers (numbers themselves, operations of five, arrays of five), read flat; one that is the call's own; how both are kept. No conditions. -/
namespace Go.Proofs.Ythficfmakbblkaa.Era
open Go.RowKit

theorem hide {p : Prop} (h : p) : Hid p := h

abbrev ints (zs : List Int) : List Value := zs.map (Value.int .i64)

/-- The slice at A, of n elements of s cells each, reads flat as zs and lies below block B (nothing is asked of the address of an empty one). -/
def Nums (w : World) (B s : Nat) (A : Option Addr) (n : Nat) (zs : List Int) : Prop :=
  zs.length = n * s ∧ (0 < n → ∃ b off, A = some ⟨b, off, none⟩ ∧ b < B ∧ ∀ i, i < n * s → w.cell? ⟨b, off + i, none⟩ = some (.int .i64 (zs.getD i 0)))

section
variable {w w' : World} {B B' s n : Nat} {A : Option Addr} {zs : List Int}

theorem Nums.nil : Nums w B s A 0 [] := ⟨by simp, fun h => absurd h (by omega)⟩

theorem Nums.below (h : Nums w B s A n zs) (hb : Below B' w w') (hB : B ≤ B') : Nums w' B s A n zs :=
  ⟨h.1, fun hn => by
    obtain ⟨b, off, e, hlt, hc⟩ := h.2 hn
    exact ⟨b, off, e, hlt, fun i hi => (hb.cell (p := ⟨b, off + i, none⟩) (Nat.lt_of_lt_of_le hlt hB)).trans (hc i hi)⟩⟩

theorem Nums.more (h : Nums w B s A n zs) (hB : B ≤ B') : Nums w B' s A n zs :=
  ⟨h.1, fun hn => by
    obtain ⟨b, off, e, hlt, hc⟩ := h.2 hn
    exact ⟨b, off, e, Nat.lt_of_lt_of_le hlt hB, hc⟩⟩

/-- One number of a slice of numbers. -/
theorem Nums.at_ {k : Nat} (h : Nums w B 1 A n zs) (hk : k < n) : ∃ b off, A = some ⟨b, off, none⟩ ∧ b < B ∧ w.cell? ⟨b, off + k, none⟩ = some (.int .i64 (zs.getD k 0)) := by
  obtain ⟨b, off, e, hlt, hc⟩ := h.2 (by omega)
  exact ⟨b, off, e, hlt, hc k (by omega)⟩

/-- The five numbers of one element. -/
def Five (w : World) (b o : Nat) (zs : List Int) (k : Nat) : Prop :=
  w.cell? ⟨b, o, none⟩ = some (.int .i64 (zs.getD (k * 5) 0)) ∧ w.cell? ⟨b, o + 1, none⟩ = some (.int .i64 (zs.getD (k * 5 + 1) 0)) ∧
  w.cell? ⟨b, o + 2, none⟩ = some (.int .i64 (zs.getD (k * 5 + 2) 0)) ∧ w.cell? ⟨b, o + 3, none⟩ = some (.int .i64 (zs.getD (k * 5 + 3) 0)) ∧
  w.cell? ⟨b, o + 4, none⟩ = some (.int .i64 (zs.getD (k * 5 + 4) 0))

theorem Nums.five {k : Nat} (h : Nums w B 5 A n zs) (hk : k < n) : ∃ b off, A = some ⟨b, off, none⟩ ∧ b < B ∧ Five w b (off + k * 5) zs k := by
  obtain ⟨b, off, e, hlt, hc⟩ := h.2 (by omega)
  exact ⟨b, off, e, hlt, hc _ (by omega), hc (k * 5 + 1) (by omega), hc (k * 5 + 2) (by omega), hc (k * 5 + 3) (by omega), hc (k * 5 + 4) (by omega)⟩

/-- Five numbers in the midst of a slice of numbers. -/
theorem Nums.five1 {k : Nat} (h : Nums w B 1 A n zs) (hk : k * 5 + 5 ≤ n) : ∃ b off, A = some ⟨b, off, none⟩ ∧ b < B ∧ Five w b (off + k * 5) zs k := by
  obtain ⟨b, off, e, hlt, hc⟩ := h.2 (by omega)
  exact ⟨b, off, e, hlt, hc _ (by omega), hc (k * 5 + 1) (by omega), hc (k * 5 + 2) (by omega), hc (k * 5 + 3) (by omega), hc (k * 5 + 4) (by omega)⟩

theorem Nums.cells {ad : Addr} (h : Nums w B s (some ad) n zs) : ∀ j u, (ints zs)[j]? = some u → w.cell? (ad.add j) = some u := by
  intro j u hu
  have hl := h.1
  have hj : j < n * s := by have := (List.getElem?_eq_some_iff.1 hu).1; simpa [hl] using this
  have hn : 0 < n := by rcases Nat.eq_zero_or_pos n with rfl | h0; · simp at hj
                        · exact h0
  obtain ⟨b, off, e, _, hc⟩ := h.2 hn
  have e' : ad = ⟨b, off, none⟩ := by simpa using e
  subst e'
  rw [Addr.add_lit, hc j hj, ← hu]
  simp [List.getD_eq_getElem?_getD, show j < zs.length by omega]

/-- A row of the call's own reads so. -/
theorem own_nums {base e : Nat} {c : Nat} (h : w.ownsRow base e s (.slice A n c) n (ints zs)) : Nums w w.heap.size s A n zs := by
  have hl : zs.length = n * s := by simpa using h.1
  refine ⟨hl, fun hn => ?_⟩
  rcases h.2 with ⟨_, h0⟩ | ⟨g, cap, cur, hv, hb, hg, hc, hm, hs, ht⟩
  · omega
  · have hA : A = some ⟨g, 0, none⟩ := by simp at hv; exact hv.1
    subst hA
    refine ⟨g, 0, rfl, (Array.getElem?_eq_some_iff.1 hg).1, fun i hi => ?_⟩
    rw [Nat.zero_add, cell_of_row w g i cur e (0, 0) hg]
    have e : (cur.toList.take (n * s))[i]? = (ints zs)[i]? := by rw [ht]
    rw [List.getElem?_take, if_pos hi] at e
    rw [← Array.getElem?_toList, e]
    simp [List.getD_eq_getElem?_getD, show i < zs.length by omega]

theorem own_form {base e : Nat} {v : Value} {xs : List Value} (h : w.ownsRow base e s v n xs) : ∃ A c, v = .slice A n c ∧ (A = none → c = 0) := by
  rcases h.2 with ⟨rfl, rfl⟩ | ⟨g, cap, cur, rfl, _⟩
  · exact ⟨none, 0, rfl, fun _ => rfl⟩
  · exact ⟨_, _, rfl, fun h => by cases h⟩

theorem own_below {base e : Nat} {v : Value} {xs : List Value} (h : w.ownsRow base e s v n xs) (hb : Below w.heap.size w w') : w'.ownsRow base e s v n xs := by
  refine ⟨h.1, ?_⟩
  rcases h.2 with h0 | ⟨g, cap, cur, hv, hB, hg, r⟩
  · exact .inl h0
  · exact .inr ⟨g, cap, cur, hv, hB, (hb.block g (Array.getElem?_eq_some_iff.1 hg).1).trans hg, r⟩

end

/-- 'append' of a slice that reads as zs onto a row of the call's own. -/
theorem wpList_append_nums {P : Program} (w : World) {ops : Array Oper} {rest : List Oper} {o : Oper} {a : Act} {Q : Exit → Act → World → Prop} (hgd : o.guard = none) (x y : Operand) (t : TypeId)
    (ho : o.op = .call { callee := .builtin .append, args := #[x, y], argTypes := #[t, t] })
    (base : Nat) (e : TypeId) (i : TypeInfo) (z : Value) (size bytes : Nat) (ht : P.underlying t = some (.slice e)) (hi : P.info? e = some i) (hz : i.zero = some z) (hsize : i.size = size) (hby : i.bytes = bytes) (hzs : z.cells.size = size) (hsz : 0 < size)
    (v : Value) (n : Nat) (ys : List Int) (hs : a.eval x = v) (hown : w.ownsRow base e size v n (ints ys)) (A : Option Addr) (m c B : Nat) (zs : List Int) (hx : a.eval y = .slice A m c) (hc : A = none → c = 0) (hr : Nums w B size A m zs)
    (h63 : n + m ≤ maxLen) (hbytes : (n + m) * bytes ≤ 140737488355328) (hbase : base ≤ w.heap.size)
    (h : ∀ v' w', w'.ownsRow base e size v' (n + m) (ints (ys ++ zs)) → Below base w w' → wpList P ops Q rest (a.put o.dst v') w') : wpList P ops Q (o :: rest) a w := by
  rcases A with _ | ad
  · obtain rfl := hc rfl
    have hn0 : m = 0 := by
      rcases Nat.eq_zero_or_pos m with h0 | h0
      · exact h0
      · obtain ⟨_, _, e, _⟩ := hr.2 h0
        cases e
    subst hn0
    have hzs0 : zs = [] := by have := hr.1; simpa using this
    subst hzs0
    refine wpList_append_own_none hgd x y t ho base e i size ht hi v n (ints ys) hs hown hx ?_
    exact h v w (by simpa using hown) (Below.refl _ _)
  · refine wpList_append_own w hgd x y t ho base e i z size bytes ht hi hz hsize hby hzs hsz v n (ints ys) hs hown ad m c (ints zs) hx (by simpa using hr.1) hr.cells (ints_oneCell _ _) h63 hbytes hbase ?_
    intro v' w' hown' hg _
    refine h v' w' (by simpa using hown') ((Below.refl _ _).grown hg hbase fun j ej => (hown.lt j ej).1)

/-- What a call tells that tells one value, and writes nothing that lay there. -/
def Drew (v : Value) (w : World) (e : Ending) (w' : World) : Prop := e = .returned v ∧ Below w.heap.size w w'
/-- .. one new slice, of elements of s cells of type t, that reads flat as zs. -/
def Told (w : World) (t s : Nat) (zs : List Int) (e : Ending) (w' : World) : Prop :=
  ∃ A n c, e = .returned (.slice A n c) ∧ (A = none → c = 0) ∧ w'.ownsRow w.heap.size t s (.slice A n c) n (ints zs) ∧ Below w.heap.size w w'

theorem Below.drewN {B : Nat} {a w : World} (h : Below B a w) (n : Nat) : Below B a (w.drewN n) := ⟨h.os, h.tape, h.output, h.size, h.block⟩

end Go.Proofs.Ythficfmakbblkaa.Era

/- Words for layer 6's proofs: an era as a value (a number and a slice of numbers), what it reads as, its box, one that was told. No conditions. -/
namespace Go.Proofs.Ythficfmakbblkaa.Era
open Go.RowKit
set_option linter.unusedVariables false

theorem Try.info3 : (Try.prog.info? 3).map (fun i => (i.zero, i.size, i.bytes)) = some (some (.int .i64 0), 1, 8) := by kernel_rfl
theorem Try.size29 : (Try.prog.info? 29).map (·.size) = some 2 := by kernel_rfl

abbrev V2 (t : Int) (A : Option Addr) (n c : Nat) : Value := .agg #[.int .i64 t, .slice A n c]
abbrev C2 (t : Int) (A : Option Addr) (n c : Nat) : Array Value := #[.int .i64 t, .slice A n c]
abbrev zeros2 : Array Value := #[.int .i64 0, .slice none 0 0]

/-- Block g is the box of an era. -/
def EBox (u : World) (g : Nat) (cs : Array Value) : Prop := u.heap[g]? = some (.cells cs 29 (0, 0))

section
variable {u u' : World} {g : Nat} {cs : Array Value}
theorem EBox.lt (h : EBox u g cs) : g < u.heap.size := (Array.getElem?_eq_some_iff.1 h).1
theorem EBox.cells (h : EBox u g cs) : ∀ i, u.cell? ⟨g, i, none⟩ = cs[i]? := fun i => cell_of_row u g i _ 29 (0, 0) h
theorem EBox.below {B : Nat} (h : EBox u g cs) (hb : Below B u u') (hg : g < B) : EBox u' g cs := (hb.block g hg).trans h
theorem EBox.alloc (h : EBox u g cs) (o : Obj) : EBox (u.alloc o) g cs := (Below.heap_alloc u o g h.lt).trans h
theorem EBox.new (u : World) (cs : Array Value) : EBox (u.alloc (.cells cs 29)) u.heap.size cs := heap_alloc_new u _
theorem EBox.step (h : EBox u g cs) (hb : Below u.heap.size u u') : EBox u' g cs := h.below hb h.lt
theorem EBox.set (h : EBox u g cs) (i : Nat) (v : Value) : EBox (u.setCell ⟨g, i, none⟩ v) g (cs.setIfInBounds i v) := heap_setCell_same u g i cs 29 v h
theorem EBox.other (h : EBox u g cs) {k i : Nat} (hk : k ≠ g) (v : Value) : EBox (u.setCell ⟨k, i, none⟩ v) g cs := (Below.heap_setCell u ⟨k, i, none⟩ v g (by simpa using hk.symm)).trans h
theorem EBox.frozen (h : EBox u g cs) : ∀ i, u.frozen? ⟨g, i, none⟩ = false := fun i => frozen_of_row u g i cs 29 h
end

/-- Behind a call that was made behind one new block. -/
theorem one_call {w u : World} {o : Obj} (h : Below (w.alloc o).heap.size (w.alloc o) u) : Below w.heap.size w u :=
  ((Below.refl _ _).alloc (Nat.le_refl _) _).trans (h.mono (by simp))

/-- Behind a further one. -/
theorem next_call {w u u' : World} {B : Nat} (h : Below B w u) (hB : B ≤ w.heap.size) (h' : Below u.heap.size u u') : Below B w u' :=
  h.trans (h'.mono (Nat.le_trans hB h.size))

/-- The slice at A, of n numbers, with room for c, reads as zs and lies in a row from block B on, that may be written. -/
def Row (u : World) (B : Nat) (A : Option Addr) (n c : Nat) (zs : List Int) : Prop :=
  u.ownsRow B 3 1 (.slice A n c) n (ints zs) ∧ (A = none → c = 0)

section
variable {u u' : World} {B B' n c g : Nat} {A : Option Addr} {zs : List Int}
theorem own_less {v : Value} {xs : List Value} (h : u.ownsRow B 3 1 v n xs) (hB : B' ≤ B) : u.ownsRow B' 3 1 v n xs := by
  refine ⟨h.1, ?_⟩
  rcases h.2 with h0 | ⟨g, cap, cur, h1, hb, r⟩
  · exact .inl h0
  · exact .inr ⟨g, cap, cur, h1, Nat.le_trans hB hb, r⟩
/-- A cell of another block is written. -/
theorem own_far (h : u.ownsRow B 3 1 (.slice A n c) n (ints zs)) {k : Nat} (hk : ∀ a, A = some a → a.block ≠ k) (i : Nat) (v : Value) : (u.setCell ⟨k, i, none⟩ v).ownsRow B 3 1 (.slice A n c) n (ints zs) := by
  refine ⟨h.1, ?_⟩
  rcases h.2 with h0 | ⟨g, cap, cur, h1, hB, hg, r⟩
  · exact .inl h0
  · simp only [Value.slice.injEq] at h1
    have := hk _ h1.1
    exact .inr ⟨g, cap, cur, by simp [h1], hB, (Below.heap_setCell u ⟨k, i, none⟩ v g (by simpa using this)).trans hg, r⟩
theorem own_addr {xs : List Value} (h : u.ownsRow B 3 1 (.slice A n c) n xs) : ∀ a, A = some a → B ≤ a.block ∧ a.block < u.heap.size := by
  intro a ha
  subst ha
  rcases h.2 with ⟨h1, _⟩ | ⟨g, cap, cur, h1, hb, hg, r⟩
  · cases h1
  · simp only [Value.slice.injEq, Option.some.injEq] at h1
    obtain ⟨rfl, _, _⟩ := h1
    exact ⟨hb, (Array.getElem?_eq_some_iff.1 hg).1⟩
theorem own_at (h : u.ownsRow B 3 1 (.slice (some ⟨g, 0, none⟩) n c) n (ints zs)) {k : Nat} (hk : k < n) : u.cell? ⟨g, k, none⟩ = some (.int .i64 (zs.getD k 0)) := by
  have hl : zs.length = n := by simpa using h.1
  rw [h.cellAt k (by omega)]
  simp [List.getD_eq_getElem?_getD, show k < zs.length by omega]
theorem own_ge (h : u.ownsRow B 3 1 (.slice (some ⟨g, 0, none⟩) n c) n (ints zs)) : B ≤ g ∧ g < u.heap.size := h.lt g rfl
theorem own_set (h : u.ownsRow B 3 1 (.slice (some ⟨g, 0, none⟩) n c) n (ints zs)) (k : Nat) (x : Int) : (u.setCell ⟨g, k, none⟩ (.int .i64 x)).ownsRow B 3 1 (.slice (some ⟨g, 0, none⟩) n c) n (ints (zs.set k x)) := by
  have := (h.stored k (.int .i64 x)).1
  rwa [show (ints zs).set k (.int .i64 x) = ints (zs.set k x) by simp [ints, List.map_set]] at this
/-- A row of some elements has a block. -/
theorem own_some (h : u.ownsRow B 3 1 (.slice A n c) n (ints zs)) (hn : 0 < n) : ∃ g, A = some ⟨g, 0, none⟩ := by
  rcases h.2 with ⟨_, h0⟩ | ⟨g, cap, cur, h1, _⟩
  · omega
  · simp at h1; exact ⟨g, h1.1⟩
theorem own_cap (h : u.ownsRow B 3 1 (.slice A n c) n (ints zs)) : n ≤ c ∧ c ≤ maxLen := by
  rcases h.2 with ⟨h1, h0⟩ | ⟨g, cap, cur, h1, hB, hg, hc, hm, hs, ht⟩
  · simp at h1; simp only [maxLen]; omega
  · simp at h1; omega

theorem Row.len (h : Row u B A n c zs) : zs.length = n := by simpa using h.1.1
theorem Row.nil (u : World) (B : Nat) : Row u B none 0 0 [] := ⟨World.ownsRow_nil _ _ _ _, fun _ => rfl⟩
theorem Row.nums (h : Row u B A n c zs) : Nums u u.heap.size 1 A n zs := own_nums h.1
theorem Row.below (h : Row u B A n c zs) (hb : Below u.heap.size u u') : Row u' B A n c zs := ⟨own_below h.1 hb, h.2⟩
theorem Row.less (h : Row u B A n c zs) (hB : B' ≤ B) : Row u B' A n c zs := ⟨own_less h.1 hB, h.2⟩
theorem Row.alloc (h : Row u B A n c zs) (o : Obj) : Row (u.alloc o) B A n c zs := h.below ((Below.refl _ _).alloc (Nat.le_refl _) _)
/-- A cell below the row's base is written. -/
theorem Row.free (h : Row u B A n c zs) {k : Nat} (hk : k < B) (i : Nat) (x : Value) : Row (u.setCell ⟨k, i, none⟩ x) B A n c zs :=
  ⟨own_far h.1 (fun a ha => by have := (own_addr h.1 a ha).1; omega) i x, h.2⟩
/-- .. or one of a box. -/
theorem Row.box (h : Row u B A n c zs) {k : Nat} {cs : Array Value} (hk : EBox u k cs) (i : Nat) (x : Value) : Row (u.setCell ⟨k, i, none⟩ x) B A n c zs := by
  refine ⟨own_far h.1 (fun a ha he => ?_) i x, h.2⟩
  subst ha
  rcases h.1.2 with ⟨h1, _⟩ | ⟨g, cap, cur, h1, hb, hg, r⟩
  · cases h1
  · simp only [Value.slice.injEq, Option.some.injEq] at h1
    obtain ⟨rfl, _, _⟩ := h1
    dsimp only at he
    subst he
    have h2 : some (Obj.cells cs 29 (0, 0)) = some (Obj.cells cur 3 (0, 0)) := hk.symm.trans hg
    simp at h2
end

/-- A slice of numbers that came in, or was told, reads as zs. -/
def Reads (u : World) (B : Nat) (A : Option Addr) (n c : Nat) (zs : List Int) : Prop := Nums u B 1 A n zs ∧ (A = none → c = 0)

section
variable {u u' : World} {B B' n c : Nat} {A : Option Addr} {zs : List Int}
theorem Reads.below (h : Reads u B A n c zs) (hb : Below B' u u') (hB : B ≤ B') : Reads u' B A n c zs := ⟨h.1.below hb hB, h.2⟩
theorem Reads.more (h : Reads u B A n c zs) (hB : B ≤ B') : Reads u B' A n c zs := ⟨h.1.more hB, h.2⟩
theorem Reads.len (h : Reads u B A n c zs) : zs.length = n := by have := h.1.1; omega
theorem Reads.step (h : Reads u u.heap.size A n c zs) (hb : Below u.heap.size u u') : Reads u' u'.heap.size A n c zs := (h.below hb (Nat.le_refl _)).more hb.size
theorem Row.reads (h : Row u B A n c zs) : Reads u u.heap.size A n c zs := ⟨h.nums, h.2⟩
end

/-- What a call tells: a slice; an era; an era and a number; an era and a bool. -/
def Tell (w : World) (zs : List Int) (e : Ending) (w' : World) : Prop := ∃ A n c, e = .returned (.slice A n c) ∧ Row w' w.heap.size A n c zs ∧ Below w.heap.size w w'
def Tell1 (w : World) (t : Int) (zs : List Int) (e : Ending) (w' : World) : Prop := ∃ A n c, e = .returned (V2 t A n c) ∧ Row w' w.heap.size A n c zs ∧ Below w.heap.size w w'
def Tell2 (w : World) (t : Int) (zs : List Int) (x : Value) (e : Ending) (w' : World) : Prop := ∃ A n c, e = .returned (.tuple #[V2 t A n c, x]) ∧ Row w' w.heap.size A n c zs ∧ Below w.heap.size w w'

theorem own_len {u : World} {B e s n m : Nat} {A : Option Addr} {c : Nat} {xs : List Value} (h : u.ownsRow B e s (.slice A n c) m xs) : n = m := by
  rcases h.2 with ⟨h1, h2⟩ | ⟨g, cap, cur, h1, _⟩
  · simp at h1; omega
  · simp at h1; omega

theorem set2_box {u : World} {g : Nat} {x y : Value} (h : EBox u g #[x, y]) (p q : Value) : EBox ((u.setCell ⟨g, 0, none⟩ p).setCell ⟨g, 1, none⟩ q) g #[p, q] := by
  have h1 := heap_setCell_same u g 0 _ 29 p h
  exact heap_setCell_same _ g 1 _ 29 q h1
theorem set2_below {B : Nat} {a u : World} {g : Nat} (h : Below B a u) (hg : B ≤ g) (p q : Value) : Below B a ((u.setCell ⟨g, 0, none⟩ p).setCell ⟨g, 1, none⟩ q) :=
  (h.setCell (p := ⟨g, 0, none⟩) hg p).setCell (p := ⟨g, 1, none⟩) hg q
theorem set2_row {u : World} {B n c k : Nat} {A : Option Addr} {zs : List Int} {cs : Array Value} (h : Row u B A n c zs) (hk : EBox u k cs) (p q : Value) : Row ((u.setCell ⟨k, 0, none⟩ p).setCell ⟨k, 1, none⟩ q) B A n c zs :=
  (h.box hk 0 p).box (hk.set 0 p) 1 q
theorem zero_cells {u : World} {g : Nat} (h : EBox u g zeros2) :
    u.cell? ⟨g, 0, none⟩ = some (.int .i64 0) ∧ u.frozen? ⟨g, 0, none⟩ = false ∧ u.cell? ⟨g, 1, none⟩ = some (.slice none 0 0) ∧ u.frozen? ⟨g, 1, none⟩ = false :=
  ⟨h.cells 0, h.frozen 0, h.cells 1, h.frozen 1⟩

/-- A struct result and one more. -/
theorem results_row_one {P : Program} {fn : Func} {p u : Tmp} {ty : TypeId} (h : fn.results = #[.cell p ty, .tmp u]) (tmps : Array Value) (w : World) (g : Nat) (t : TypeId) (cs : Array Value) (fr : Nat × Nat) (d : TypeDesc)
    (hp : tmps.getD p undef = .pointer (some ⟨g, 0, none⟩)) (hg : w.heap[g]? = some (.cells cs t fr))
    (hu : P.underlying ty = some d) (hd : (match d with | .struct _ | .array _ _ => true | _ => false) = true) (hi : (P.info? ty).map (·.size) = some cs.size) :
    (results fn tmps).run P w = .ok (.tuple #[.agg cs, tmps.getD u undef]) w := by
  have hp' : tmps[p]?.getD undef = .pointer (some ⟨g, 0, none⟩) := by simpa using hp
  simp [results, h, hp', asAddr, run_loadVar_row w g t ty cs fr d hg hu hd hi]

end Go.Proofs.Ythficfmakbblkaa.Era

/- What an era that may be is, and what Pin, Unpin and Turn come to, as functions of numbers and lists; what follows of them. Plain mathematics. -/
namespace Go.Proofs.Ythficfmakbblkaa.Era
set_option linter.unusedVariables false

/-- A thread's number may be. -/
def PinOk (t z : Int) : Prop := z = -1 ∨ z = t ∨ z = t - 1
/-- An era that may be. -/
def Ok (t : Int) (zs : List Int) : Prop := (0 ≤ t ∧ t ≤ 1152921504606846976) ∧ (1 ≤ zs.length ∧ zs.length ≤ 64) ∧ ∀ z ∈ zs, PinOk t z
/-- All that are pinned are pinned in t. -/
def Step (t : Int) (zs : List Int) : Prop := ∀ z ∈ zs, z = -1 ∨ z = t
instance (t z : Int) : Decidable (PinOk t z) := by unfold PinOk; infer_instance
instance (t : Int) (zs : List Int) : Decidable (Ok t zs) := by unfold Ok; infer_instance
instance (t : Int) (zs : List Int) : Decidable (Step t zs) := by unfold Step; infer_instance

/-- The closures. -/
def bad (t z : Int) : Bool := z != -1 && z != t && z != t - 1
def out (t z : Int) : Bool := z != -1 && z != t
theorem bad_iff (t z : Int) : bad t z = false ↔ PinOk t z := by
  unfold bad PinOk
  by_cases h1 : z = -1
  · simp [h1]
  · by_cases h2 : z = t
    · simp [h2]
    · by_cases h3 : z = t - 1
      · simp [h3]
      · simp [h1, h2, h3]
theorem out_iff (t z : Int) : out t z = false ↔ (z = -1 ∨ z = t) := by
  unfold out
  by_cases h1 : z = -1
  · simp [h1]
  · by_cases h2 : z = t
    · simp [h2]
    · simp [h1, h2]
theorem any_bad {t : Int} {zs : List Int} : (!zs.any (bad t)) = true ↔ ∀ z ∈ zs, PinOk t z := by
  simp only [Bool.not_eq_true', List.any_eq_false]
  constructor
  · intro h z hz
    exact (bad_iff t z).1 (by simpa using h z hz)
  · intro h z hz
    simpa using (bad_iff t z).2 (h z hz)
theorem any_out {t : Int} {zs : List Int} : (!zs.any (out t)) = true ↔ Step t zs := by
  simp only [Bool.not_eq_true', List.any_eq_false]
  constructor
  · intro h z hz
    exact (out_iff t z).1 (by simpa using h z hz)
  · intro h z hz
    simpa using (out_iff t z).2 (h z hz)

/-- Where p first holds, from k on. -/
def idxP (p : Int → Bool) : List Int → Nat → Int
  | [], _ => -1
  | x :: xs, k => if p x then (k : Int) else idxP p xs (k + 1)
theorem idxP_next (p : Int → Bool) (zs : List Int) (k : Nat) (hk : k < zs.length) : idxP p (zs.drop k) k = if p (zs.getD k 0) then (k : Int) else idxP p (zs.drop (k + 1)) (k + 1) := by
  rw [List.drop_eq_getElem_cons hk, idxP]
  simp [List.getD_eq_getElem?_getD, hk]
theorem idxP_bool (p : Int → Bool) (zs : List Int) (k : Nat) : decide (0 ≤ idxP p zs k) = zs.any p := by
  induction zs generalizing k with
  | nil => simp [idxP]
  | cons x xs ih =>
    rw [idxP]
    by_cases hx : p x
    · simp [hx]
    · rw [if_neg hx, ih]; simp [hx]

/-- The numbers that Check and Safe tell. -/
def chk (b : Bool) : Int := if b then 0 else 1
def safeV (b : Bool) (t : Int) : Int := if b then t - 2 else -1

/-- What Pin tells. -/
def pinE (b : Bool) (zs : List Int) (k : Int) : Int := if b = false ∨ k < 0 ∨ (zs.length : Int) ≤ k ∨ zs.getD k.toNat 0 ≠ -1 then 1 else 0
def pinT (b : Bool) (t : Int) (zs : List Int) (k : Int) : Int := if pinE b zs k = 0 then t else 0
def pinZ (b : Bool) (t : Int) (zs : List Int) (k : Int) : List Int := if pinE b zs k = 0 then zs.set k.toNat t else []
/-- What Unpin tells. -/
def unpE (b : Bool) (zs : List Int) (k : Int) : Int := if b = false ∨ k < 0 ∨ (zs.length : Int) ≤ k then 1 else if zs.getD k.toNat 0 = -1 then 2 else 0
def unpT (b : Bool) (t : Int) (zs : List Int) (k : Int) : Int := if unpE b zs k = 0 then t else 0
def unpZ (b : Bool) (zs : List Int) (k : Int) : List Int := if unpE b zs k = 0 then zs.set k.toNat (-1) else []
/-- What Turn tells (s: all are in step). -/
def turnB (b s : Bool) (t : Int) : Bool := b && s && t != 1152921504606846976
def turnT (b s : Bool) (t : Int) : Int := if b then (if turnB b s t then t + 1 else t) else 0
def turnZ (b : Bool) (zs : List Int) : List Int := if b then zs else []

section
variable {b : Bool} {t k : Int} {zs : List Int} {X : Nat}
theorem pin_no (h : pinE b zs k = 1) : pinT b t zs k = 0 ∧ pinZ b t zs k = [] := by simp [pinT, pinZ, h]
theorem pin_yes (h : pinE b zs X = 0) : pinT b t zs X = t ∧ pinZ b t zs X = zs.set X t := by simp [pinT, pinZ, h]
theorem unp_no (h : unpE b zs k ≠ 0) : unpT b t zs k = 0 ∧ unpZ b zs k = [] := by simp [unpT, unpZ, h]
theorem unp_yes (h : unpE b zs X = 0) : unpT b t zs X = t ∧ unpZ b zs X = zs.set X (-1) := by simp [unpT, unpZ, h]
theorem pinE_bad (h : b = false ∨ k < 0 ∨ (zs.length : Int) ≤ k) : pinE b zs k = 1 := by
  unfold pinE
  rw [if_pos]
  rcases h with h | h | h
  · exact .inl h
  · exact .inr (.inl h)
  · exact .inr (.inr (.inl h))
theorem pinE_taken (h : zs.getD X 0 ≠ -1) : pinE b zs X = 1 := by unfold pinE; rw [if_pos (by simp only [Int.toNat_natCast]; exact .inr (.inr (.inr h)))]
theorem pinE_ok (hb : b = true) (hX : X < zs.length) (h : zs.getD X 0 = -1) : pinE b zs X = 0 := by
  unfold pinE
  rw [if_neg]
  simp only [Int.toNat_natCast]
  rintro (h1 | h1 | h1 | h1)
  · simp [hb] at h1
  · omega
  · omega
  · exact h1 h
theorem unpE_bad (h : b = false ∨ k < 0 ∨ (zs.length : Int) ≤ k) : unpE b zs k = 1 := by unfold unpE; rw [if_pos h]
theorem unpE_none (hb : b = true) (hX : X < zs.length) (h : zs.getD X 0 = -1) : unpE b zs X = 2 := by
  unfold unpE
  rw [if_neg (by rintro (h1 | h1 | h1); simp [hb] at h1; omega; omega), if_pos (by simpa using h)]
theorem unpE_ok (hb : b = true) (hX : X < zs.length) (h : zs.getD X 0 ≠ -1) : unpE b zs X = 0 := by
  unfold unpE
  rw [if_neg (by rintro (h1 | h1 | h1); simp [hb] at h1; omega; omega), if_neg (by simpa using h)]

theorem get_set (l : List Int) (i : Nat) (x : Int) (j : Nat) (hi : i < l.length) : (l.set i x).getD j 0 = if i = j then x else l.getD j 0 := by
  simp only [List.getD_eq_getElem?_getD, List.getElem?_set]
  split
  · subst_vars; simp
  · rfl
theorem mem_get {z : Int} (h : z ∈ zs) : ∃ i, i < zs.length ∧ zs.getD i 0 = z := by
  obtain ⟨i, hi, e⟩ := List.getElem_of_mem h
  exact ⟨i, hi, by simp [List.getD_eq_getElem?_getD, hi, e]⟩
theorem get_mem {i : Nat} (h : i < zs.length) : zs.getD i 0 ∈ zs := by simp [List.getD_eq_getElem?_getD, h]
/-- An era stays one. -/
theorem ok_set (h : Ok t zs) (X : Nat) {z : Int} (hz : PinOk t z) : Ok t (zs.set X z) := by
  refine ⟨h.1, by simpa using h.2.1, fun y hy => ?_⟩
  rcases List.mem_or_eq_of_mem_set hy with h1 | rfl
  · exact h.2.2 y h1
  · exact hz
theorem ok_next (h : Ok t zs) (hs : Step t zs) (ht : t < 1152921504606846976) : Ok (t + 1) zs :=
  ⟨⟨by have := h.1; omega, by omega⟩, h.2.1, fun z hz => by rcases hs z hz with h1 | h1; exact .inl h1; exact .inr (.inr (by omega))⟩
end

end Go.Proofs.Ythficfmakbblkaa.Era

/- What isPinned, isCount, isThread and the two closures tell; slices.IndexFunc and slices.ContainsFunc with each of them. -/
namespace Go.Proofs.Ythficfmakbblkaa.Era
open Go.RowKit
set_option linter.unusedVariables false

set_option maxHeartbeats 400000 in
theorem isPinned_any (x : Int) (w : World) : Calls Try.prog 78 #[.int .i64 x] w fun e w' => e = .returned (.bool (x != -1)) ∧ w = w' := by
  go_enter Try.func78, Try.ntmps78
  go_wp2
  go_ret
  exact ⟨rfl, rfl⟩

set_option maxHeartbeats 400000 in
theorem isCount_yes (n : Int) (w : World) (h1 : 1 ≤ n) (h2 : n ≤ 64) :
    Calls Try.prog 68 #[.int .i64 n] w fun e w' => e = .returned (.bool true) ∧ w = w' := by
  have d1 : decide (1 ≤ n) = true := by simpa using h1
  have d2 : decide (n ≤ 64) = true := by simpa using h2
  go_enter Try.func68, Try.ntmps68
  go_wp2
  go_ret
  exact ⟨rfl, rfl⟩

set_option maxHeartbeats 400000 in
theorem isCount_no (n : Int) (w : World) (h : n < 1 ∨ 64 < n) :
    Calls Try.prog 68 #[.int .i64 n] w fun e w' => e = .returned (.bool false) ∧ w = w' := by
  by_cases c1 : n < 1
  · clear h
    have d1 : decide (1 ≤ n) = false := by simp; omega
    go_enter Try.func68, Try.ntmps68
    go_wp2
    go_ret
    exact ⟨rfl, rfl⟩
  have c2 : 64 < n := by omega
  clear h
  have d1 : decide (1 ≤ n) = true := by simp; omega
  have d2 : decide (n ≤ 64) = false := by simp; omega
  go_enter Try.func68, Try.ntmps68
  go_wp2
  go_ret
  exact ⟨rfl, rfl⟩

set_option maxHeartbeats 400000 in
theorem isThread_yes (t : Int) (A : Option Addr) (n c : Nat) (k : Int) (w : World) (h1 : 0 ≤ k) (h2 : k < (n : Int)) (hn : n ≤ 64) :
    Calls Try.prog 77 #[V2 t A n c, .int .i64 k] w (Drew (.bool true) w) := by
  have d1 : decide (0 ≤ k) = true := by simpa using h1
  have d2 : decide (k < (n : Int)) = true := by simpa using h2
  go_enter Try.func77, Try.ntmps77
  go_wp2
  go_ret
  exact ⟨rfl, (Below.refl _ _).alloc (Nat.le_refl _) _⟩

set_option maxHeartbeats 400000 in
theorem isThread_no (t : Int) (A : Option Addr) (n c : Nat) (k : Int) (w : World) (h : k < 0 ∨ (n : Int) ≤ k) (hn : n ≤ 64) :
    Calls Try.prog 77 #[V2 t A n c, .int .i64 k] w (Drew (.bool false) w) := by
  by_cases c1 : k < 0
  · clear h
    have d1 : decide (0 ≤ k) = false := by simp; omega
    go_enter Try.func77, Try.ntmps77
    go_wp2
    go_ret
    exact ⟨rfl, (Below.refl _ _).alloc (Nat.le_refl _) _⟩
  have c2 : (n : Int) ≤ k := by omega
  clear h
  have d1 : decide (0 ≤ k) = true := by simp; omega
  have d2 : decide (k < (n : Int)) = false := by simp; omega
  go_enter Try.func77, Try.ntmps77
  go_wp2
  go_ret
  exact ⟨rfl, (Below.refl _ _).alloc (Nat.le_refl _) _⟩

set_option maxHeartbeats 400000 in
theorem bad_any (t x : Int) (h : Nat) (w : World) (hc : w.cell? ⟨h, 0, none⟩ = some (.int .i64 t)) (h1 : 0 ≤ t) (h2 : t ≤ 1152921504606846976) :
    Calls Try.prog 87 #[.int .i64 x, .pointer (some ⟨h, 0, none⟩)] w fun e w' => e = .returned (.bool (bad t x)) ∧ w = w' := by
  go_enter Try.func87, Try.ntmps87
  go_wp2_with fail
  refine (isPinned_any _ _).mono ?_
  rintro e w' ⟨rfl, rfl⟩
  obtain ⟨p1, e1⟩ : ∃ p1, Hid ((x != -1) = p1) := ⟨_, rfl⟩
  obtain ⟨p2, e2⟩ : ∃ p2, Hid ((x != t) = p2) := ⟨_, rfl⟩
  have HB : Hid (bad t x = (p1 && p2 && (x != t - 1))) := by show _ = _; unfold bad; rw [e1.out, e2.out]
  rw [e1.out]
  cases p1 with
  | false =>
    go_wp2
    go_ret
    exact ⟨by rw [HB.out]; rfl, rfl⟩
  | true =>
    have e2' := e2.out
    cases p2 with
    | false =>
      go_wp2
      go_ret
      exact ⟨by rw [HB.out]; rfl, rfl⟩
    | true =>
      go_wp2
      go_ret
      exact ⟨by rw [HB.out]; rfl, rfl⟩

set_option maxHeartbeats 400000 in
theorem out_any (t x : Int) (h : Nat) (w : World) (hc : w.cell? ⟨h, 0, none⟩ = some (.int .i64 t)) :
    Calls Try.prog 89 #[.int .i64 x, .pointer (some ⟨h, 0, none⟩)] w fun e w' => e = .returned (.bool (out t x)) ∧ w = w' := by
  go_enter Try.func89, Try.ntmps89
  go_wp2_with fail
  refine (isPinned_any _ _).mono ?_
  rintro e w' ⟨rfl, rfl⟩
  obtain ⟨p1, e1⟩ : ∃ p1, Hid ((x != -1) = p1) := ⟨_, rfl⟩
  have HB : Hid (out t x = (p1 && (x != t))) := by show _ = _; unfold out; rw [e1.out]
  rw [e1.out]
  cases p1 with
  | false =>
    go_wp2
    go_ret
    exact ⟨by rw [HB.out]; rfl, rfl⟩
  | true =>
    go_wp2
    go_ret
    exact ⟨by rw [HB.out]; rfl, rfl⟩

set_option maxHeartbeats 400000 in
theorem index_bad (A : Option Addr) (n c B h : Nat) (t : Int) (zs : List Int) (w : World) (hr : Nums w B 1 A n zs) (hn : n ≤ 64) (hc : Hid (w.cell? ⟨h, 0, none⟩ = some (.int .i64 t))) (h1 : 0 ≤ t) (h2 : t ≤ 1152921504606846976) :
    Calls Try.prog 91 #[.slice A n c, .func (.func 87) #[] #[.pointer (some ⟨h, 0, none⟩)]] w fun e w' => e = .returned (.int .i64 (idxP (bad t) zs 0)) ∧ w = w' := by
  have HL := hide hr.1
  go_enter Try.func91, Try.ntmps91
  go_wp2
  go_loopw [8] (fun i wr => ∃ k : Nat, k ≤ n ∧ i = .int .i64 k ∧ wr = w ∧ Hid (idxP (bad t) zs 0 = idxP (bad t) (zs.drop k) k)) (fun i _ => n - (intOf i).toNat)
  case atStart => exact ⟨0, by omega, rfl, rfl, rfl⟩
  case round =>
    obtain ⟨k, hk, rfl, rfl, HI⟩ := hrel
    by_cases hlt : k < n
    · obtain ⟨b, off, rfl, _, hx⟩ := hr.at_ hlt
      have HX := hide (idxP_next (bad t) zs k (by have := HL.out; omega))
      generalize zs.getD k 0 = z at hx HX
      have HC : Hid (Calls Try.prog 87 #[.int .i64 z, .pointer (some ⟨h, 0, none⟩)] wr fun e w' => e = .returned (.bool (bad t z)) ∧ wr = w') := bad_any t z h _ hc.out h1 h2
      generalize bad t z = q at HX HC
      cases q with
      | true =>
        go_wp2_with (go_at_call 87; refine HC.out.mono ?_; rintro e w' ⟨rfl, rfl⟩)
        go_ret
        exact ⟨by rw [HI.out, HX.out]; rfl, rfl⟩
      | false =>
        go_wp2_with (go_at_call 87; refine HC.out.mono ?_; rintro e w' ⟨rfl, rfl⟩)
        go_roundw
        case rel => exact ⟨k + 1, by omega, by go_num, trivial, by show _ = _; rw [HI.out, HX.out]; rfl⟩
        case measure => simp [intOf]; omega
    · go_wp2
      go_ret
      refine ⟨?_, rfl⟩
      rw [HI.out, List.drop_of_length_le (by have := HL.out; omega)]; rfl

set_option maxHeartbeats 400000 in
theorem has_bad (A : Option Addr) (n c B h : Nat) (t : Int) (zs : List Int) (w : World) (hr : Nums w B 1 A n zs) (hn : n ≤ 64) (hc : Hid (w.cell? ⟨h, 0, none⟩ = some (.int .i64 t))) (h1 : 0 ≤ t) (h2 : t ≤ 1152921504606846976) :
    Calls Try.prog 86 #[.slice A n c, .func (.func 87) #[] #[.pointer (some ⟨h, 0, none⟩)]] w fun e w' => e = .returned (.bool (zs.any (bad t))) ∧ w = w' := by
  have HB := hide (idxP_bool (bad t) zs 0)
  go_enter Try.func86, Try.ntmps86
  go_wp2_with fail
  refine (index_bad _ _ _ _ _ _ _ _ hr hn hc h1 h2).mono ?_
  rintro e w' ⟨rfl, rfl⟩
  generalize idxP (bad t) zs 0 = z at HB
  go_wp2
  go_ret
  exact ⟨congrArg (fun b => Ending.returned (Value.bool b)) HB.out, rfl⟩

set_option maxHeartbeats 400000 in
theorem index_out (A : Option Addr) (n c B h : Nat) (t : Int) (zs : List Int) (w : World) (hr : Nums w B 1 A n zs) (hn : n ≤ 64) (hc : Hid (w.cell? ⟨h, 0, none⟩ = some (.int .i64 t))) :
    Calls Try.prog 91 #[.slice A n c, .func (.func 89) #[] #[.pointer (some ⟨h, 0, none⟩)]] w fun e w' => e = .returned (.int .i64 (idxP (out t) zs 0)) ∧ w = w' := by
  have HL := hide hr.1
  go_enter Try.func91, Try.ntmps91
  go_wp2
  go_loopw [8] (fun i wr => ∃ k : Nat, k ≤ n ∧ i = .int .i64 k ∧ wr = w ∧ Hid (idxP (out t) zs 0 = idxP (out t) (zs.drop k) k)) (fun i _ => n - (intOf i).toNat)
  case atStart => exact ⟨0, by omega, rfl, rfl, rfl⟩
  case round =>
    obtain ⟨k, hk, rfl, rfl, HI⟩ := hrel
    by_cases hlt : k < n
    · obtain ⟨b, off, rfl, _, hx⟩ := hr.at_ hlt
      have HX := hide (idxP_next (out t) zs k (by have := HL.out; omega))
      generalize zs.getD k 0 = z at hx HX
      have HC : Hid (Calls Try.prog 89 #[.int .i64 z, .pointer (some ⟨h, 0, none⟩)] wr fun e w' => e = .returned (.bool (out t z)) ∧ wr = w') := out_any t z h _ hc.out
      generalize out t z = q at HX HC
      cases q with
      | true =>
        go_wp2_with (go_at_call 89; refine HC.out.mono ?_; rintro e w' ⟨rfl, rfl⟩)
        go_ret
        exact ⟨by rw [HI.out, HX.out]; rfl, rfl⟩
      | false =>
        go_wp2_with (go_at_call 89; refine HC.out.mono ?_; rintro e w' ⟨rfl, rfl⟩)
        go_roundw
        case rel => exact ⟨k + 1, by omega, by go_num, trivial, by show _ = _; rw [HI.out, HX.out]; rfl⟩
        case measure => simp [intOf]; omega
    · go_wp2
      go_ret
      refine ⟨?_, rfl⟩
      rw [HI.out, List.drop_of_length_le (by have := HL.out; omega)]; rfl

set_option maxHeartbeats 400000 in
theorem has_out (A : Option Addr) (n c B h : Nat) (t : Int) (zs : List Int) (w : World) (hr : Nums w B 1 A n zs) (hn : n ≤ 64) (hc : Hid (w.cell? ⟨h, 0, none⟩ = some (.int .i64 t))) :
    Calls Try.prog 86 #[.slice A n c, .func (.func 89) #[] #[.pointer (some ⟨h, 0, none⟩)]] w fun e w' => e = .returned (.bool (zs.any (out t))) ∧ w = w' := by
  have HB := hide (idxP_bool (out t) zs 0)
  go_enter Try.func86, Try.ntmps86
  go_wp2_with fail
  refine (index_out _ _ _ _ _ _ _ _ hr hn hc).mono ?_
  rintro e w' ⟨rfl, rfl⟩
  generalize idxP (out t) zs 0 = z at HB
  go_wp2
  go_ret
  exact ⟨congrArg (fun b => Ending.returned (Value.bool b)) HB.out, rfl⟩

end Go.Proofs.Ythficfmakbblkaa.Era

/- What slices.Clone and the document's Copy and Same tell of numbers; mayBe and allInStep, Check and Safe, the code's and the document's, of any era. -/
namespace Go.Proofs.Ythficfmakbblkaa.Era
open Go.RowKit
set_option linter.unusedVariables false

set_option maxHeartbeats 400000 in
theorem rcopy_any (A : Option Addr) (n c B : Nat) (zs : List Int) (w : World) (h : Reads w B A n c zs) (hn : n ≤ 200) :
    Calls Try.prog 80 #[.slice A n c] w (Tell w zs) := by
  obtain ⟨i0, hi0, hz0, hz1, hz2⟩ := info_parts Try.info3
  have H1 := hide hi0
  have H2 := hide hz0
  have H3 := hide hz1
  have H4 := hide hz2
  clear hi0 hz0 hz1 hz2
  have HN := hide h
  clear h
  go_enter Try.func80, Try.ntmps80
  go_wp2_with (at_builtin; refine wpList_append_nums _ rfl _ _ 24 rfl w.heap.size 3 i0 (.int .i64 0) 1 8 Try.underlying24 H1.out H2.out H3.out H4.out rfl (by decide) (.slice none 0 0) 0 [] rfl (World.ownsRow_nil _ _ _ _) A n c B zs rfl HN.out.2 HN.out.1 (by simp only [maxLen]; omega) (by omega) (Nat.le_refl _) ?_; intro v1 w1 hown hb; obtain ⟨A1, c1, rfl, hA1⟩ := own_form hown; have HO := hide hown; clear hown; have HZ := hide hA1; clear hA1)
  go_ret
  have ho := HO.out
  rw [Nat.zero_add, List.nil_append] at ho
  exact ⟨A1, n, c1, by simp, ⟨ho, HZ.out⟩, hb⟩

set_option maxHeartbeats 400000 in
theorem clone_any (A : Option Addr) (n c B : Nat) (zs : List Int) (w : World) (h : Reads w B A n c zs) (hB : B ≤ w.heap.size) (hn : n ≤ 200) :
    Calls Try.prog 88 #[.slice A n c] w (Tell w zs) := by
  have q22 : ∀ (w : World) (a : Option Addr) (n c n' c' : Nat), (binOp .eql 24 (.slice a n c) (.slice none n' c')).run Try.prog w = .ok (.bool a.isNone) w := fun w a n c n' c' => Lib.run_eql_slice_nil w _ _ a n c n' c' Try.underlying24
  obtain ⟨i0, hi0, hz0, hz1, hz2⟩ := info_parts Try.info3
  have H1 := hide hi0
  have H2 := hide hz0
  have H3 := hide hz1
  have H4 := hide hz2
  clear hi0 hz0 hz1 hz2
  have HN := hide h
  clear h
  cases A with
  | none =>
    have hn0 : n = 0 := by
      rcases Nat.eq_zero_or_pos n with h0 | h0
      · exact h0
      · obtain ⟨_, _, e, _⟩ := HN.out.1.2 h0
        cases e
    subst hn0
    have hc0 : c = 0 := HN.out.2 rfl
    subst hc0
    go_enter Try.func88, Try.ntmps88
    go_wp2
    go_ret
    have hz : zs = [] := by have := HN.out.1.1; simpa using this
    subst hz
    exact ⟨none, 0, 0, rfl, Row.nil _ _, Below.refl _ _⟩
  | some a =>
    have HM := hide (HN.out.below ((Below.refl w.heap.size w).alloc (Nat.le_refl _) (.cells #[] 3)) hB)
    have HW : Hid ((w.alloc (.cells #[] 3)).ownsRow w.heap.size 3 1 (.slice (some ⟨w.heap.size, 0, none⟩) 0 0) 0 (ints [])) := World.ownsRow_lit w #[] 0 (Nat.le_refl _) (by simp [maxLen]) (by simp)
    go_enter Try.func88, Try.ntmps88
    go_wp2_with (at_builtin; refine wpList_append_nums _ rfl _ _ 24 rfl w.heap.size 3 i0 (.int .i64 0) 1 8 Try.underlying24 H1.out H2.out H3.out H4.out rfl (by decide) _ 0 [] rfl HW.out (some a) n c B zs rfl (fun h => by cases h) HM.out.1 (by simp only [maxLen]; omega) (by omega) (by simp) ?_; intro v1 w1 hown hb; obtain ⟨A1, c1, rfl, hA1⟩ := own_form hown; have HO := hide hown; clear hown; have HZ := hide hA1; clear hA1)
    go_ret
    have ho := HO.out
    rw [Nat.zero_add, List.nil_append] at ho
    exact ⟨A1, n, c1, by simp, ⟨ho, HZ.out⟩, ((Below.refl _ _).alloc (Nat.le_refl _) _).trans hb⟩

set_option maxHeartbeats 400000 in
theorem same_yes (A A' : Option Addr) (n c c' B B' : Nat) (zs : List Int) (w : World) (h : Nums w B 1 A n zs) (h' : Nums w B' 1 A' n zs) (hn : n ≤ 200) :
    Calls Try.prog 42 #[.slice A n c, .slice A' n c'] w (Drew (.bool true) w) := by
  have h0 : (((n : Nat) : Int) != (n : Int)) = false := by simp
  go_enter Try.func42, Try.ntmps42
  go_wp2
  go_loopw [13] (fun i wr => ∃ k q : Nat, k ≤ n ∧ i = .int .i64 k ∧ wr = w.drewN q) (fun i _ => n - (intOf i).toNat)
  case atStart => exact ⟨0, 0, by omega, rfl, rfl⟩
  case round =>
    obtain ⟨k, q, hk, rfl, rfl⟩ := hrel
    by_cases hlt : k < n
    · obtain ⟨b, off, rfl, _, hc⟩ := h.at_ hlt
      obtain ⟨b', off', rfl, _, hc'⟩ := h'.at_ hlt
      generalize zs.getD k 0 = z at hc hc'
      go_wp2
      go_quiet (fail)
      go_wp2
      go_roundw
      case rel => exact ⟨k + 1, _, by omega, by go_num, rfl⟩
      case measure => simp [intOf]; omega
    · go_wp2
      go_ret
      exact ⟨rfl, Below.drewN (Below.refl _ _) _⟩

set_option maxHeartbeats 400000 in
theorem samee_yes (t : Int) (A A' : Option Addr) (n n' c c' B B' : Nat) (zs : List Int) (w : World) (h : Reads w B A n c zs) (h' : Reads w B' A' n' c' zs) (hB : B ≤ w.heap.size) (hB' : B' ≤ w.heap.size) (hn : n ≤ 200) :
    Calls Try.prog 31 #[V2 t A n c, V2 t A' n' c'] w (Drew (.bool true) w) := by
  obtain rfl : n = n' := by have h1 := h.len; have h2 := h'.len; omega
  have B0 := hide (((Below.refl w.heap.size w).alloc (Nat.le_refl _) (.cells (C2 t A n c) 29)).alloc (by simp) (.cells (C2 t A' n c') 29))
  have HN := hide (h.1.below B0.out hB)
  have HN' := hide (h'.1.below B0.out hB')
  clear h h'
  go_enter Try.func31, Try.ntmps31
  go_wp2_with fail
  refine (same_yes _ _ _ _ _ _ _ zs _ HN.out HN'.out hn).mono ?_
  rintro e u1 ⟨rfl, b1⟩
  have B1 := hide (next_call B0.out (Nat.le_refl _) b1)
  clear b1
  go_wp2
  go_ret
  exact ⟨rfl, B1.out⟩

theorem not_ok {t : Int} {zs : List Int} {b : Bool} (hb : Hid (b = true ↔ Ok t zs)) (h : ¬ Ok t zs) : b = false := by
  cases b with
  | false => rfl
  | true => exact absurd (hb.out.1 rfl) h
theorem is_ok {t : Int} {zs : List Int} {b : Bool} (hb : Hid (b = true ↔ Ok t zs)) (h : Ok t zs) : b = true := hb.out.2 h

set_option maxHeartbeats 1000000 in
theorem mayBe_any (t : Int) (A : Option Addr) (n c B : Nat) (zs : List Int) (b : Bool) (w : World) (hr : Reads w B A n c zs) (hB : B ≤ w.heap.size) (hb : Hid (b = true ↔ Ok t zs)) :
    Calls Try.prog 70 #[V2 t A n c] w (Drew (.bool b) w) := by
  have hmf : ∀ (fn : Fn) (first cap : Array Value) (w : World), (Instr.makeFunc fn first cap).run Try.prog w = .ok (.func fn first cap) w := fun _ _ _ _ => rfl
  have B0 := hide ((Below.refl w.heap.size w).alloc (Nat.le_refl _) (.cells (C2 t A n c) 29))
  have X0 := hide (EBox.new w (C2 t A n c))
  have HL := hide hr.len
  have HR := hide (hr.below B0.out hB)
  clear hr
  by_cases h1 : t < 0
  · obtain rfl := not_ok hb (by intro h; have := h.1; omega)
    have d1 : decide (t < 0) = true := by simpa using h1
    clear hb
    go_enter Try.func70, Try.ntmps70
    go_wp2
    go_ret
    exact ⟨rfl, B0.out⟩
  have d1 : decide (t < 0) = false := by simpa using h1
  by_cases h2 : 1152921504606846976 < t
  · obtain rfl := not_ok hb (by intro h; have := h.1; omega)
    have d2 : decide ((1152921504606846976 : Int) < t) = true := by simpa using h2
    clear hb
    go_enter Try.func70, Try.ntmps70
    go_wp2
    go_ret
    exact ⟨rfl, B0.out⟩
  have d2 : decide ((1152921504606846976 : Int) < t) = false := by simpa using h2
  by_cases h3 : 1 ≤ n ∧ n ≤ 64
  case neg =>
    obtain rfl := not_ok hb (by intro h; have := h.2.1; have := HL.out; omega)
    clear hb
    go_enter Try.func70, Try.ntmps70
    go_wp2_with fail
    refine (isCount_no _ _ (by omega)).mono ?_
    rintro e w' ⟨rfl, rfl⟩
    go_wp2
    go_ret
    exact ⟨rfl, B0.out⟩
  obtain ⟨h4, h5⟩ := h3
  have HE : Hid ((!zs.any (bad t)) = b) := by
    show _ = _
    have := hb.out
    rw [Bool.eq_iff_iff, any_bad, this]
    exact ⟨fun h => ⟨by omega, by have := HL.out; omega, h⟩, fun h => h.2.2⟩
  have hc0 := X0.out.cells 0
  have HC := hide (show (w.alloc (.cells (C2 t A n c) 29)).cell? ⟨w.heap.size, 0, none⟩ = some (.int .i64 t) from hc0)
  clear hc0 hb
  go_enter Try.func70, Try.ntmps70
  go_wp2_with fail
  refine (isCount_yes _ _ (by omega) (by omega)).mono ?_
  rintro e w' ⟨rfl, rfl⟩
  go_wp2_with fail
  refine (has_bad _ _ _ _ _ _ zs _ HR.out.1 h5 HC (by omega) (by omega)).mono ?_
  rintro e w' ⟨rfl, rfl⟩
  generalize zs.any (bad t) = q at HE
  go_wp2
  go_ret
  exact ⟨congrArg (fun b => Ending.returned (Value.bool b)) HE.out, B0.out⟩

set_option maxHeartbeats 1000000 in
theorem step_any (t : Int) (A : Option Addr) (n c B : Nat) (zs : List Int) (b : Bool) (w : World) (hr : Reads w B A n c zs) (hB : B ≤ w.heap.size) (hn : n ≤ 64) (hb : Hid (b = true ↔ Step t zs)) :
    Calls Try.prog 82 #[V2 t A n c] w (Drew (.bool b) w) := by
  have hmf : ∀ (fn : Fn) (first cap : Array Value) (w : World), (Instr.makeFunc fn first cap).run Try.prog w = .ok (.func fn first cap) w := fun _ _ _ _ => rfl
  have B0 := hide ((Below.refl w.heap.size w).alloc (Nat.le_refl _) (.cells (C2 t A n c) 29))
  have X0 := hide (EBox.new w (C2 t A n c))
  have HR := hide (hr.below B0.out hB)
  have HE : Hid ((!zs.any (out t)) = b) := by
    show _ = _
    have := hb.out
    rw [Bool.eq_iff_iff, any_out, this]
  have hc0 := X0.out.cells 0
  have HC := hide (show (w.alloc (.cells (C2 t A n c) 29)).cell? ⟨w.heap.size, 0, none⟩ = some (.int .i64 t) from hc0)
  clear hc0 hb hr
  go_enter Try.func82, Try.ntmps82
  go_wp2_with fail
  refine (has_out _ _ _ _ _ _ zs _ HR.out.1 hn HC).mono ?_
  rintro e w' ⟨rfl, rfl⟩
  generalize zs.any (out t) = q at HE
  go_wp2
  go_ret
  exact ⟨congrArg (fun b => Ending.returned (Value.bool b)) HE.out, B0.out⟩

set_option maxHeartbeats 1000000 in
theorem check_any (t : Int) (A : Option Addr) (n c B : Nat) (zs : List Int) (b : Bool) (w : World) (hr : Reads w B A n c zs) (hB : B ≤ w.heap.size) (hb : Hid (b = true ↔ Ok t zs)) :
    Calls Try.prog 44 #[V2 t A n c] w (Drew (.int .i64 (chk b)) w) := by
  have B0 := hide ((Below.refl w.heap.size w).alloc (Nat.le_refl _) (.cells (C2 t A n c) 29))
  have HR := hide (hr.below B0.out hB)
  go_enter Try.func44, Try.ntmps44
  go_wp2_with fail
  refine (mayBe_any t A n c B zs b _ HR.out (by simp; omega) hb).mono ?_
  rintro e u1 ⟨rfl, b1⟩
  have B1 := hide (next_call B0.out (Nat.le_refl _) b1)
  clear b1 hb hr
  cases b with
  | true =>
    go_wp2
    go_ret
    exact ⟨rfl, B1.out⟩
  | false =>
    go_wp2
    go_ret
    exact ⟨rfl, B1.out⟩

set_option maxHeartbeats 1000000 in
theorem safe_any (t : Int) (A : Option Addr) (n c B : Nat) (zs : List Int) (b : Bool) (w : World) (hr : Reads w B A n c zs) (hB : B ≤ w.heap.size) (hb : Hid (b = true ↔ Ok t zs)) :
    Calls Try.prog 61 #[V2 t A n c] w (Drew (.int .i64 (safeV b t)) w) := by
  have B0 := hide ((Below.refl w.heap.size w).alloc (Nat.le_refl _) (.cells (C2 t A n c) 29))
  have X0 := hide (EBox.new w (C2 t A n c))
  have HR := hide (hr.below B0.out hB)
  go_enter Try.func61, Try.ntmps61
  go_wp2_with fail
  refine (mayBe_any t A n c B zs b _ HR.out (by simp; omega) hb).mono ?_
  rintro e u1 ⟨rfl, b1⟩
  have B1 := hide (next_call B0.out (Nat.le_refl _) b1)
  have X1 := hide (X0.out.step b1)
  clear b1 hr
  cases b with
  | true =>
    have ho := (hb.out.1 rfl).1
    clear hb
    have hc := X1.out.cells
    have hl := X1.out.lt
    go_wp2
    go_ret
    exact ⟨by go_num, B1.out⟩
  | false =>
    clear hb
    go_wp2
    go_ret
    exact ⟨rfl, B1.out⟩

set_option maxHeartbeats 2000000 in
theorem rcheck_any (t : Int) (A : Option Addr) (n c B : Nat) (zs : List Int) (b : Bool) (w : World) (hr : Reads w B A n c zs) (hB : B ≤ w.heap.size) (hb : Hid (b = true ↔ Ok t zs)) :
    Calls Try.prog 46 #[V2 t A n c] w (Drew (.int .i64 (chk b)) w) := by
  have B0 := hide ((Below.refl w.heap.size w).alloc (Nat.le_refl _) (.cells (C2 t A n c) 29))
  have HL := hide hr.len
  have HR := hide (hr.below B0.out hB)
  clear hr
  by_cases h1 : t < 0
  · obtain rfl := not_ok hb (by intro h; have := h.1; omega)
    have d1 : decide (t < 0) = true := by simpa using h1
    clear hb
    go_enter Try.func46, Try.ntmps46
    go_wp2
    go_ret
    exact ⟨rfl, B0.out⟩
  have d1 : decide (t < 0) = false := by simpa using h1
  by_cases h2 : 1152921504606846976 < t
  · obtain rfl := not_ok hb (by intro h; have := h.1; omega)
    have d2 : decide ((1152921504606846976 : Int) < t) = true := by simpa using h2
    clear hb
    go_enter Try.func46, Try.ntmps46
    go_wp2
    go_ret
    exact ⟨rfl, B0.out⟩
  have d2 : decide ((1152921504606846976 : Int) < t) = false := by simpa using h2
  by_cases h3 : n < 1
  · obtain rfl := not_ok hb (by intro h; have := h.2.1; have := HL.out; omega)
    have d3 : decide ((n : Int) < 1) = true := by simp; omega
    clear hb
    go_enter Try.func46, Try.ntmps46
    go_wp2
    go_ret
    exact ⟨rfl, B0.out⟩
  have d3 : decide ((n : Int) < 1) = false := by simp; omega
  by_cases h4 : 64 < n
  · obtain rfl := not_ok hb (by intro h; have := h.2.1; have := HL.out; omega)
    have d4 : decide ((64 : Int) < (n : Int)) = true := by simp; omega
    clear hb
    go_enter Try.func46, Try.ntmps46
    go_wp2
    go_ret
    exact ⟨rfl, B0.out⟩
  have d4 : decide ((64 : Int) < (n : Int)) = false := by simp; omega
  go_enter Try.func46, Try.ntmps46
  go_wp2
  go_loopw [28] (fun i wr => ∃ k : Nat, k ≤ n ∧ i = .int .i64 k ∧ wr = w.alloc (.cells (C2 t A n c) 29) ∧ Hid (∀ j, j < k → PinOk t (zs.getD j 0))) (fun i _ => n - (intOf i).toNat)
  case atStart => exact ⟨0, by omega, rfl, rfl, by intro j hj; omega⟩
  case round =>
    obtain ⟨k, hk, rfl, rfl, HA⟩ := hrel
    by_cases hlt : k < n
    · obtain ⟨b0, off, rfl, _, hx⟩ := HR.out.1.at_ hlt
      have HZ : Hid (zs.getD k 0 = zs.getD k 0) := rfl
      obtain ⟨z, EZ⟩ : ∃ z, Hid (zs.getD k 0 = z) := ⟨_, rfl⟩
      rw [EZ.out] at hx
      by_cases hz : PinOk t z
      · have HN : Hid (∀ j, j < k + 1 → PinOk t (zs.getD j 0)) := by
          intro j hj
          by_cases hjk : j = k
          · subst hjk; rw [EZ.out]; exact hz
          · exact HA.out j (by omega)
        by_cases e1 : z = -1
        · subst e1
          clear hz
          go_wp2
          go_roundw
          case rel => exact ⟨k + 1, by omega, by go_num, trivial, HN⟩
          case measure => simp [intOf]; omega
        have f1 : (z != -1) = true := by simpa using e1
        by_cases e2 : z = t
        · subst e2
          have f2 : (z != z) = false := by simp
          clear hz
          go_wp2
          go_roundw
          case rel => exact ⟨k + 1, by omega, by go_num, trivial, HN⟩
          case measure => simp [intOf]; omega
        have f2 : (z != t) = true := by simpa using e2
        have e3 : z = t - 1 := by unfold PinOk at hz; omega
        have f3 : (z != t - 1) = false := by simpa using e3
        have f4 : decide (z < 0) = false := by simp; omega
        clear hz e3
        go_wp2
        go_roundw
        case rel => exact ⟨k + 1, by omega, by go_num, trivial, HN⟩
        case measure => simp [intOf]; omega
      · obtain rfl := not_ok hb (by intro h; exact hz (by rw [← EZ.out]; exact h.2.2 _ (get_mem (by have := HL.out; omega))))
        have HNZ := hide hz
        have e1 : (z != -1) = true := by have := HNZ.out; unfold PinOk at this; simp; omega
        have e2 : (z != t) = true := by have := HNZ.out; unfold PinOk at this; simp; omega
        have e3 : (z != t - 1) = true := by have := HNZ.out; unfold PinOk at this; simp; omega
        clear hz hb
        go_wp2
        go_ret
        exact ⟨rfl, B0.out⟩
    · obtain rfl := is_ok hb ⟨by omega, by have := HL.out; omega, fun z hz => by
        obtain ⟨i, hi, rfl⟩ := mem_get hz
        exact HA.out i (by have := HL.out; omega)⟩
      clear hb
      go_wp2
      go_ret
      exact ⟨rfl, B0.out⟩

set_option maxHeartbeats 1000000 in
theorem rsafe_any (t : Int) (A : Option Addr) (n c B : Nat) (zs : List Int) (b : Bool) (w : World) (hr : Reads w B A n c zs) (hB : B ≤ w.heap.size) (hb : Hid (b = true ↔ Ok t zs)) :
    Calls Try.prog 64 #[V2 t A n c] w (Drew (.int .i64 (safeV b t)) w) := by
  have B0 := hide ((Below.refl w.heap.size w).alloc (Nat.le_refl _) (.cells (C2 t A n c) 29))
  have X0 := hide (EBox.new w (C2 t A n c))
  have HR := hide (hr.below B0.out hB)
  go_enter Try.func64, Try.ntmps64
  go_wp2_with fail
  refine (rcheck_any t A n c B zs b _ HR.out (by simp; omega) hb).mono ?_
  rintro e u1 ⟨rfl, b1⟩
  have B1 := hide (next_call B0.out (Nat.le_refl _) b1)
  have X1 := hide (X0.out.step b1)
  clear b1 hr
  cases b with
  | true =>
    have ho := (hb.out.1 rfl).1
    clear hb
    have hc := X1.out.cells
    have hl := X1.out.lt
    rw [show chk true = 0 from rfl]
    go_wp2
    go_ret
    exact ⟨by go_num, B1.out⟩
  | false =>
    clear hb
    rw [show chk false = 1 from rfl]
    go_wp2
    go_ret
    exact ⟨rfl, B1.out⟩

end Go.Proofs.Ythficfmakbblkaa.Era

/- Words: the boxes while an era is told anew; what fresh and withPin tell. -/
namespace Go.Proofs.Ythficfmakbblkaa.Era
open Go.RowKit
set_option linter.unusedVariables false

/-- What is kept: all that was there, the era's box and the result's, still empty. -/
structure Two (w u : World) (cs : Array Value) : Prop where
  bel : Below w.heap.size w u
  box : EBox u w.heap.size cs
  res : EBox u (w.heap.size + 1) zeros2
theorem Two.first (w : World) (cs : Array Value) : Two w ((w.alloc (.cells cs 29)).alloc (.cells zeros2 29)) cs :=
  ⟨((Below.refl _ _).alloc (Nat.le_refl _) _).alloc (by simp) _, (EBox.new w cs).alloc _, heap_alloc2_new w _ _⟩
theorem Two.step {w u u' : World} {cs : Array Value} (h : Two w u cs) (hb : Below u.heap.size u u') : Two w u' cs := ⟨next_call h.bel (Nat.le_refl _) hb, h.box.step hb, h.res.step hb⟩
theorem Two.alloc {w u : World} {cs : Array Value} (h : Two w u cs) (o : Obj) : Two w (u.alloc o) cs := ⟨h.bel.alloc h.bel.size _, h.box.alloc _, h.res.alloc _⟩
theorem Two.far {w u : World} {cs : Array Value} (h : Two w u cs) {g : Nat} (hg : w.heap.size + 2 ≤ g) (i : Nat) (x : Value) : Two w (u.setCell ⟨g, i, none⟩ x) cs := ⟨h.bel.setCell (by simp; omega) _, h.box.other (by omega) _, h.res.other (by omega) _⟩
theorem Two.size {w u : World} {cs : Array Value} (h : Two w u cs) : w.heap.size + 2 ≤ u.heap.size := by have := h.res.lt; omega
/-- The result is stored. -/
theorem Two.tell {w u : World} {cs : Array Value} {A : Option Addr} {n c : Nat} {zs : List Int} (h : Two w u cs) (r : Row u (w.heap.size + 2) A n c zs) (t : Int) :
    EBox ((u.setCell ⟨w.heap.size + 1, 0, none⟩ (.int .i64 t)).setCell ⟨w.heap.size + 1, 1, none⟩ (.slice A n c)) (w.heap.size + 1) (C2 t A n c) ∧
    Row ((u.setCell ⟨w.heap.size + 1, 0, none⟩ (.int .i64 t)).setCell ⟨w.heap.size + 1, 1, none⟩ (.slice A n c)) w.heap.size A n c zs ∧
    Below w.heap.size w ((u.setCell ⟨w.heap.size + 1, 0, none⟩ (.int .i64 t)).setCell ⟨w.heap.size + 1, 1, none⟩ (.slice A n c)) :=
  ⟨set2_box h.res _ _, (set2_row r h.res _ _).less (by omega), set2_below h.bel (by omega) _ _⟩
/-- .. as nothing. -/
theorem Two.none {w u : World} {cs : Array Value} (h : Two w u cs) :
    EBox ((u.setCell ⟨w.heap.size + 1, 0, none⟩ (.int .i64 0)).setCell ⟨w.heap.size + 1, 1, none⟩ (.slice none 0 0)) (w.heap.size + 1) (C2 0 none 0 0) ∧
    Row ((u.setCell ⟨w.heap.size + 1, 0, none⟩ (.int .i64 0)).setCell ⟨w.heap.size + 1, 1, none⟩ (.slice none 0 0)) w.heap.size none 0 0 [] ∧
    Below w.heap.size w ((u.setCell ⟨w.heap.size + 1, 0, none⟩ (.int .i64 0)).setCell ⟨w.heap.size + 1, 1, none⟩ (.slice none 0 0)) := h.tell (Row.nil _ _) 0

/-- .. and a third box, of the era that is going to be told. -/
structure St (w u : World) (cs : Array Value) (hb : Nat) (t : Int) (A : Option Addr) (n c : Nat) (zs : List Int) : Prop where
  two : Two w u cs
  box : EBox u hb (C2 t A n c)
  ge : w.heap.size + 2 ≤ hb
  row : Row u (w.heap.size + 2) A n c zs
section
variable {w u u1 : World} {cs : Array Value} {hb n c : Nat} {t : Int} {A : Option Addr} {zs : List Int}
theorem St.behind (h : Two w u cs) (r : Row u1 u.heap.size A n c zs) (b : Below u.heap.size u u1) (t : Int) : St w (u1.alloc (.cells (C2 t A n c) 29)) cs u1.heap.size t A n c zs :=
  ⟨(h.step b).alloc _, EBox.new _ _, (h.step b).size, (r.less h.size).alloc _⟩
theorem box_before {o : Array Value} (b : Below (u.alloc (.cells o 29)).heap.size (u.alloc (.cells o 29)) u1) : EBox u1 u.heap.size o := (EBox.new u o).step b
theorem St.before (h : Two w u cs) (b : Below (u.alloc (.cells zeros2 29)).heap.size (u.alloc (.cells zeros2 29)) u1) (r : Row u1 (u.alloc (.cells zeros2 29)).heap.size A n c zs) (t : Int) :
    St w ((u1.setCell ⟨u.heap.size, 0, none⟩ (.int .i64 t)).setCell ⟨u.heap.size, 1, none⟩ (.slice A n c)) cs u.heap.size t A n c zs := by
  have x := box_before b
  have h1 := (h.alloc (.cells zeros2 29)).step b
  have s := h.size
  exact ⟨(h1.far s _ _).far s _ _, set2_box x _ _, s, (set2_row r x _ _).less (by simp; omega)⟩
theorem St.set {g : Nat} (s : St w u cs hb t (some ⟨g, 0, none⟩) n c zs) (X : Nat) (x : Int) : St w (u.setCell ⟨g, X, none⟩ (.int .i64 x)) cs hb t (some ⟨g, 0, none⟩) n c (zs.set X x) := by
  have hg := own_ge s.row.1
  refine ⟨s.two.far hg.1 _ _, s.box.other (fun e => ?_) _, s.ge, own_set s.row.1 X x, fun h => by cases h⟩
  subst e
  rcases s.row.1.2 with ⟨h1, _⟩ | ⟨g', cap, cur, h1, hb, hg, r⟩
  · cases h1
  · simp only [Value.slice.injEq, Option.some.injEq, Addr.mk.injEq] at h1
    obtain ⟨⟨rfl, _⟩, _⟩ := h1
    have h2 : some (Obj.cells (C2 t (some ⟨g, 0, none⟩) n c) 29 (0, 0)) = some (Obj.cells cur 3 (0, 0)) := s.box.symm.trans hg
    simp at h2
theorem St.ne {g : Nat} (s : St w u cs hb t (some ⟨g, 0, none⟩) n c zs) : g ≠ hb := by
  intro e
  subst e
  rcases s.row.1.2 with ⟨h1, _⟩ | ⟨g', cap, cur, h1, hb, hg, r⟩
  · cases h1
  · simp only [Value.slice.injEq, Option.some.injEq, Addr.mk.injEq] at h1
    obtain ⟨⟨rfl, _⟩, _⟩ := h1
    have h2 : some (Obj.cells (C2 t (some ⟨g, 0, none⟩) n c) 29 (0, 0)) = some (Obj.cells cur 3 (0, 0)) := s.box.symm.trans hg
    simp at h2
theorem St.now (s : St w u cs hb t A n c zs) (t' : Int) : St w (u.setCell ⟨hb, 0, none⟩ (.int .i64 t')) cs hb t' A n c zs :=
  ⟨s.two.far s.ge _ _, s.box.set 0 _, s.ge, s.row.box s.box _ _⟩
end

/-- What is kept while an own copy is made: all that was there, and the box. -/
def Kept (w u : World) (cs : Array Value) : Prop := Below w.heap.size w u ∧ EBox u w.heap.size cs
theorem Kept.step {w u u' : World} {cs : Array Value} (h : Kept w u cs) (hb : Below u.heap.size u u') : Kept w u' cs := ⟨next_call h.1 (Nat.le_refl _) hb, h.2.step hb⟩
theorem kept_set {w u : World} {cs : Array Value} (h : Kept w u cs) (p q : Value) : Kept w ((u.setCell ⟨w.heap.size + 1, 0, none⟩ p).setCell ⟨w.heap.size + 1, 1, none⟩ q) cs :=
  ⟨set2_below h.1 (by omega) p q, (h.2.other (by omega) p).other (by omega) q⟩

set_option maxHeartbeats 1000000 in
theorem fresh_any (t : Int) (A : Option Addr) (n c B : Nat) (zs : List Int) (w : World) (hr : Reads w B A n c zs) (hB : B ≤ w.heap.size) (hn : n ≤ 200) :
    Calls Try.prog 81 #[V2 t A n c] w (Tell1 w t zs) := by
  have HC : Hid (∀ u, Hid (Kept w u (C2 t A n c)) → Calls Try.prog 88 #[.slice A n c] u (Tell u zs)) := fun u hu => clone_any _ _ _ B _ _ (hr.below hu.out.1 hB) (Nat.le_trans hB hu.out.1.size) hn
  have T0 := hide (Two.step (Two.first w (C2 t A n c)) (Below.refl _ _).drew)
  have D0 : Hid (Kept w ((w.alloc (.cells (C2 t A n c) 29)).alloc (.cells zeros2 29)).drew (C2 t A n c)) := ⟨T0.out.bel, T0.out.box⟩
  have hN : Hid (∀ u, Hid (Kept w u (C2 t A n c)) → (u.cell? ⟨w.heap.size, 0, none⟩ = some (.int .i64 t) ∧ u.cell? ⟨w.heap.size, 1, none⟩ = some (.slice A n c) ∧ Hid (Kept w u (C2 t A n c)))) :=
    fun u hu => ⟨hu.out.2.cells 0, hu.out.2.cells 1, hu⟩
  clear hr
  go_enter Try.func81, Try.ntmps81
  go_wp2
  go_region_held3 (fun u => u.cell? ⟨w.heap.size, 0, none⟩ = some (.int .i64 t) ∧ u.cell? ⟨w.heap.size, 1, none⟩ = some (.slice A n c) ∧ Hid (Kept w u (C2 t A n c)))
    (first | exact hN.out _ D0 | exact hN.out _ (by assumption) | exact hN.out _ (hide (kept_set (Hid.out (by assumption)) _ _)))
    (first | (go_at_call 88; refine (HC.out _ ?_).mono ?_; (exact (by assumption)); rintro e u1 ⟨A1, n1, c1, rfl, r1, b1⟩; have K1 := hide (Kept.step (Hid.out (by assumption)) b1); have T1 := hide (T0.out.step b1); obtain ⟨y0, f0, y1, f1⟩ := zero_cells T1.out.res))
  clear y0 f0 y1 f1
  go_wp2
  have HE := T1.out.tell (r1.less T0.out.size) t
  exact bodyPost_ret (results_cell_row rfl _ _ (w.heap.size + 1) 29 _ (0, 0) _ rfl HE.1 Try.underlying29 rfl Try.size29) rfl ⟨A1, n1, c1, rfl, HE.2⟩

set_option maxHeartbeats 1000000 in
theorem withPin_any (t : Int) (A : Option Addr) (n c B X : Nat) (x : Int) (zs : List Int) (w : World) (hr : Reads w B A n c zs) (hB : B ≤ w.heap.size) (hX : X < n) (hn : n ≤ 200) :
    Calls Try.prog 79 #[V2 t A n c, .int .i64 (X : Int), .int .i64 x] w (Tell1 w t (zs.set X x)) := by
  have T0 := hide (Two.first w (C2 t A n c))
  have HL := hide hr.len
  have R0 := hide (hr.below T0.out.bel hB)
  clear hr
  go_enter Try.func79, Try.ntmps79
  go_wp2_with fail
  refine (fresh_any t A n c B zs _ R0.out (Nat.le_trans hB T0.out.bel.size) hn).mono ?_
  rintro e u1 ⟨A1, n1, c1, rfl, r1, b1⟩
  obtain rfl : n1 = n := by have := r1.len; have := HL.out; omega
  obtain ⟨g, rfl⟩ := own_some r1.1 (by omega)
  have S1 := hide (St.behind T0.out r1 b1 t)
  have v1 := own_at r1.1 hX
  have v2 := r1.1.frozenAt X
  have v3 := (own_ge r1.1).2
  have T1 := hide (T0.out.step b1)
  obtain ⟨y0, f0, y1, f1⟩ := zero_cells T1.out.res
  have v4 := T1.out.res.lt
  have v5 : w.heap.size + 1 ≠ u1.heap.size := by omega
  have ne1 := S1.out.ne
  have ne2 : g ≠ w.heap.size + 1 := by have := (own_ge S1.out.row.1).1; omega
  have ne3 : w.heap.size + 1 ≠ g := ne2.symm
  have gg := (own_ge r1.1).1
  have s0 := T0.out.size
  have R2 : Hid (Two w (u1.setCell ⟨g, X, none⟩ (.int .i64 x)) (C2 t A n1 c) ∧ Row (u1.setCell ⟨g, X, none⟩ (.int .i64 x)) (w.heap.size + 2) (some ⟨g, 0, none⟩) n1 c1 (zs.set X x)) :=
    ⟨T1.out.far (by omega) _ _, own_set (own_less r1.1 s0) X x, fun h => by cases h⟩
  clear gg s0
  clear r1 b1
  go_wp2
  have HE := R2.out.1.tell R2.out.2 t
  exact bodyPost_ret (results_cell_row rfl _ _ (w.heap.size + 1) 29 _ (0, 0) _ rfl (HE.1.alloc _) Try.underlying29 rfl Try.size29) rfl ⟨some ⟨g, 0, none⟩, n1, c1, rfl, HE.2.1.alloc _, HE.2.2.alloc HE.2.2.size _⟩
end Go.Proofs.Ythficfmakbblkaa.Era

/- What Pin, Unpin and Turn tell of any era. -/
namespace Go.Proofs.Ythficfmakbblkaa.Era
open Go.RowKit
set_option linter.unusedVariables false

set_option maxHeartbeats 2000000 in
theorem pin_any (t : Int) (A : Option Addr) (n c B : Nat) (zs : List Int) (b : Bool) (k : Int) (w : World) (hr : Reads w B A n c zs) (hB : B ≤ w.heap.size) (hb : Hid (b = true ↔ Ok t zs)) :
    Calls Try.prog 56 #[V2 t A n c, .int .i64 k] w (Tell2 w (pinT b t zs k) (pinZ b t zs k) (.int .i64 (pinE b zs k))) := by
  have T0 := hide (Two.first w (C2 t A n c))
  have HL := hide hr.len
  have R0 := hide (hr.below T0.out.bel hB)
  clear hr
  go_enter Try.func56, Try.ntmps56
  go_wp2_with fail
  refine (mayBe_any t A n c B zs b _ R0.out (Nat.le_trans hB T0.out.bel.size) hb).mono ?_
  rintro e u1 ⟨rfl, b1⟩
  have T1 := hide (T0.out.step b1)
  have R1 := hide (R0.out.below b1 (Nat.le_trans hB T0.out.bel.size))
  clear b1 T0 R0
  cases b with
  | false =>
    have E1 := hide (pinE_bad (b := false) (zs := zs) (k := k) (.inl rfl))
    have E2 := hide (pin_no (b := false) (t := t) (zs := zs) (k := k) E1.out)
    clear hb
    have HE := hide (Two.none T1.out)
    obtain ⟨y0, f0, y1, f1⟩ := zero_cells T1.out.res
    go_wp2
    exact bodyPost_ret (results_row_one rfl _ _ (w.heap.size + 1) 29 _ (0, 0) _ rfl HE.out.1 Try.underlying29 rfl Try.size29) rfl ⟨none, 0, 0, by rw [E1.out, E2.out.1]; rfl, by rw [E2.out.2]; exact HE.out.2.1, HE.out.2.2⟩

  | true =>
    have HO := hide (hb.out.1 rfl)
    have hn : n ≤ 64 := by have := HO.out.2.1; have := HL.out; omega
    clear hb
    have hc := T1.out.box.cells
    have hl := T1.out.box.lt
    have s1 := T1.out.bel.size
    by_cases hk : 0 ≤ k ∧ k < (n : Int)
    case neg =>
      have E1 := hide (pinE_bad (b := true) (zs := zs) (k := k) (by have := HL.out; omega))
      have E2 := hide (pin_no (b := true) (t := t) (zs := zs) (k := k) E1.out)
      go_wp2_with fail
      refine (isThread_no t A n c k _ (by omega) hn).mono ?_
      rintro e u2 ⟨rfl, b2⟩
      have T2 := hide (T1.out.step b2)
      clear b2 hk hc hl T1
      have HE := hide (Two.none T2.out)
      obtain ⟨y0, f0, y1, f1⟩ := zero_cells T2.out.res
      go_wp2
      exact bodyPost_ret (results_row_one rfl _ _ (w.heap.size + 1) 29 _ (0, 0) _ rfl HE.out.1 Try.underlying29 rfl Try.size29) rfl ⟨none, 0, 0, by rw [E1.out, E2.out.1]; rfl, by rw [E2.out.2]; exact HE.out.2.1, HE.out.2.2⟩

    obtain ⟨X, rfl⟩ : ∃ X : Nat, k = (X : Int) := ⟨k.toNat, by omega⟩
    have hX : X < n := by omega
    go_wp2_with fail
    refine (isThread_yes t A n c _ _ (by omega) (by omega) hn).mono ?_
    rintro e u2 ⟨rfl, b2⟩
    have T2 := hide (T1.out.step b2)
    have R2 := hide (R1.out.below b2 (Nat.le_trans hB s1))
    clear b2 hk hc hl T1 R1 s1
    have hc := T2.out.box.cells
    have hl := T2.out.box.lt
    have s1 := T2.out.bel.size
    obtain ⟨bA, oA, rfl, hbA, hx⟩ := R2.out.1.at_ hX
    obtain ⟨z, EZ⟩ : ∃ z, Hid (zs.getD X 0 = z) := ⟨_, rfl⟩
    rw [EZ.out] at hx
    go_wp2_with fail
    refine (isPinned_any _ _).mono ?_
    rintro e w' ⟨rfl, rfl⟩
    by_cases hz : z = -1
    · subst hz
      have E1 := hide (pinE_ok (b := true) (zs := zs) (X := X) rfl (by have := HL.out; omega) EZ.out)
      have E2 := hide (pin_yes (b := true) (t := t) (zs := zs) (X := X) E1.out)
      rw [show ((-1 : Int) != -1) = false from rfl]
      go_wp2_with fail
      refine (withPin_any t (some ⟨bA, oA, none⟩) n c B X t zs _ R2.out (Nat.le_trans hB s1) hX (by omega)).mono ?_
      rintro e u3 ⟨A3, n3, c3, rfl, r3, b3⟩
      have T3 := hide (T2.out.step b3)
      have HE := hide (T3.out.tell (r3.less T2.out.size) t)
      obtain ⟨y0, f0, y1, f1⟩ := zero_cells T3.out.res
      have hl3 := T3.out.res.lt
      clear r3 b3 hc hl
      go_wp2
      exact bodyPost_ret (results_row_one rfl _ _ (w.heap.size + 1) 29 _ (0, 0) _ rfl HE.out.1 Try.underlying29 rfl Try.size29) rfl ⟨A3, n3, c3, by rw [E1.out, E2.out.1]; rfl, by rw [E2.out.2]; exact HE.out.2.1, HE.out.2.2⟩

    · have E1 := hide (pinE_taken (b := true) (zs := zs) (X := X) (by rw [EZ.out]; exact hz))
      have E2 := hide (pin_no (b := true) (t := t) (zs := zs) (k := (X : Int)) E1.out)
      rw [show (z != -1) = true by simpa using hz]
      clear hz hc hl
      have HE := hide (Two.none T2.out)
      obtain ⟨y0, f0, y1, f1⟩ := zero_cells T2.out.res
      go_wp2
      exact bodyPost_ret (results_row_one rfl _ _ (w.heap.size + 1) 29 _ (0, 0) _ rfl HE.out.1 Try.underlying29 rfl Try.size29) rfl ⟨none, 0, 0, by rw [E1.out, E2.out.1]; rfl, by rw [E2.out.2]; exact HE.out.2.1, HE.out.2.2⟩

set_option maxHeartbeats 2000000 in
theorem unpin_any (t : Int) (A : Option Addr) (n c B : Nat) (zs : List Int) (b : Bool) (k : Int) (w : World) (hr : Reads w B A n c zs) (hB : B ≤ w.heap.size) (hb : Hid (b = true ↔ Ok t zs)) :
    Calls Try.prog 65 #[V2 t A n c, .int .i64 k] w (Tell2 w (unpT b t zs k) (unpZ b zs k) (.int .i64 (unpE b zs k))) := by
  have T0 := hide (Two.first w (C2 t A n c))
  have HL := hide hr.len
  have R0 := hide (hr.below T0.out.bel hB)
  clear hr
  go_enter Try.func65, Try.ntmps65
  go_wp2_with fail
  refine (mayBe_any t A n c B zs b _ R0.out (Nat.le_trans hB T0.out.bel.size) hb).mono ?_
  rintro e u1 ⟨rfl, b1⟩
  have T1 := hide (T0.out.step b1)
  have R1 := hide (R0.out.below b1 (Nat.le_trans hB T0.out.bel.size))
  clear b1 T0 R0
  cases b with
  | false =>
    have E1 := hide (unpE_bad (b := false) (zs := zs) (k := k) (.inl rfl))
    have E2 := hide (unp_no (b := false) (t := t) (zs := zs) (k := k) (by rw [E1.out]; decide))
    clear hb
    have HE := hide (Two.none T1.out)
    obtain ⟨y0, f0, y1, f1⟩ := zero_cells T1.out.res
    go_wp2
    exact bodyPost_ret (results_row_one rfl _ _ (w.heap.size + 1) 29 _ (0, 0) _ rfl HE.out.1 Try.underlying29 rfl Try.size29) rfl ⟨none, 0, 0, by rw [E1.out, E2.out.1]; rfl, by rw [E2.out.2]; exact HE.out.2.1, HE.out.2.2⟩

  | true =>
    have HO := hide (hb.out.1 rfl)
    have hn : n ≤ 64 := by have := HO.out.2.1; have := HL.out; omega
    clear hb
    have hc := T1.out.box.cells
    have hl := T1.out.box.lt
    have s1 := T1.out.bel.size
    by_cases hk : 0 ≤ k ∧ k < (n : Int)
    case neg =>
      have E1 := hide (unpE_bad (b := true) (zs := zs) (k := k) (by have := HL.out; omega))
      have E2 := hide (unp_no (b := true) (t := t) (zs := zs) (k := k) (by rw [E1.out]; decide))
      go_wp2_with fail
      refine (isThread_no t A n c k _ (by omega) hn).mono ?_
      rintro e u2 ⟨rfl, b2⟩
      have T2 := hide (T1.out.step b2)
      clear b2 hk hc hl T1
      have HE := hide (Two.none T2.out)
      obtain ⟨y0, f0, y1, f1⟩ := zero_cells T2.out.res
      go_wp2
      exact bodyPost_ret (results_row_one rfl _ _ (w.heap.size + 1) 29 _ (0, 0) _ rfl HE.out.1 Try.underlying29 rfl Try.size29) rfl ⟨none, 0, 0, by rw [E1.out, E2.out.1]; rfl, by rw [E2.out.2]; exact HE.out.2.1, HE.out.2.2⟩

    obtain ⟨X, rfl⟩ : ∃ X : Nat, k = (X : Int) := ⟨k.toNat, by omega⟩
    have hX : X < n := by omega
    go_wp2_with fail
    refine (isThread_yes t A n c _ _ (by omega) (by omega) hn).mono ?_
    rintro e u2 ⟨rfl, b2⟩
    have T2 := hide (T1.out.step b2)
    have R2 := hide (R1.out.below b2 (Nat.le_trans hB s1))
    clear b2 hk hc hl T1 R1 s1
    have hc := T2.out.box.cells
    have hl := T2.out.box.lt
    have s1 := T2.out.bel.size
    obtain ⟨bA, oA, rfl, hbA, hx⟩ := R2.out.1.at_ hX
    obtain ⟨z, EZ⟩ : ∃ z, Hid (zs.getD X 0 = z) := ⟨_, rfl⟩
    rw [EZ.out] at hx
    go_wp2_with fail
    refine (isPinned_any _ _).mono ?_
    rintro e w' ⟨rfl, rfl⟩
    by_cases hz : z = -1
    · subst hz
      have E1 := hide (unpE_none (b := true) (zs := zs) (X := X) rfl (by have := HL.out; omega) EZ.out)
      have E2 := hide (unp_no (b := true) (t := t) (zs := zs) (k := (X : Int)) (by rw [E1.out]; decide))
      rw [show ((-1 : Int) != -1) = false from rfl]
      clear hc hl
      have HE := hide (Two.none T2.out)
      obtain ⟨y0, f0, y1, f1⟩ := zero_cells T2.out.res
      go_wp2
      exact bodyPost_ret (results_row_one rfl _ _ (w.heap.size + 1) 29 _ (0, 0) _ rfl HE.out.1 Try.underlying29 rfl Try.size29) rfl ⟨none, 0, 0, by rw [E1.out, E2.out.1]; rfl, by rw [E2.out.2]; exact HE.out.2.1, HE.out.2.2⟩

    · have E1 := hide (unpE_ok (b := true) (zs := zs) (X := X) rfl (by have := HL.out; omega) (by rw [EZ.out]; exact hz))
      have E2 := hide (unp_yes (b := true) (t := t) (zs := zs) (X := X) E1.out)
      rw [show (z != -1) = true by simpa using hz]
      clear hz
      go_wp2_with fail
      refine (withPin_any t (some ⟨bA, oA, none⟩) n c B X (-1) zs _ R2.out (Nat.le_trans hB s1) hX (by omega)).mono ?_
      rintro e u3 ⟨A3, n3, c3, rfl, r3, b3⟩
      have T3 := hide (T2.out.step b3)
      have HE := hide (T3.out.tell (r3.less T2.out.size) t)
      obtain ⟨y0, f0, y1, f1⟩ := zero_cells T3.out.res
      have hl3 := T3.out.res.lt
      clear r3 b3 hc hl
      go_wp2
      exact bodyPost_ret (results_row_one rfl _ _ (w.heap.size + 1) 29 _ (0, 0) _ rfl HE.out.1 Try.underlying29 rfl Try.size29) rfl ⟨A3, n3, c3, by rw [E1.out, E2.out.1]; rfl, by rw [E2.out.2]; exact HE.out.2.1, HE.out.2.2⟩


end Go.Proofs.Ythficfmakbblkaa.Era

/- What the document's Pin and Unpin tell of any era: the same. -/
namespace Go.Proofs.Ythficfmakbblkaa.Era
open Go.RowKit
set_option linter.unusedVariables false

theorem below_al {a u : World} {o : Obj} (h : Below a.heap.size a u) : Below a.heap.size a (u.alloc o) := h.alloc h.size _
theorem box_drew {u u1 : World} (b : Below (u.drew.alloc (.cells zeros2 29)).heap.size (u.drew.alloc (.cells zeros2 29)) u1) : EBox u1 u.heap.size zeros2 := box_before (u := u.drew) b

set_option maxHeartbeats 2000000 in
theorem rpin_any (t : Int) (A : Option Addr) (n c B : Nat) (zs : List Int) (b : Bool) (k : Int) (w : World) (hr : Reads w B A n c zs) (hB : B ≤ w.heap.size) (hb : Hid (b = true ↔ Ok t zs)) :
    Calls Try.prog 58 #[V2 t A n c, .int .i64 k] w (Tell2 w (pinT b t zs k) (pinZ b t zs k) (.int .i64 (pinE b zs k))) := by
  have T0 := hide (Two.first w (C2 t A n c))
  have HL := hide hr.len
  have R0 := hide (hr.below T0.out.bel hB)
  clear hr
  go_enter Try.func58, Try.ntmps58
  go_wp2_with fail
  refine (rcheck_any t A n c B zs b _ R0.out (Nat.le_trans hB T0.out.bel.size) hb).mono ?_
  rintro e u1 ⟨rfl, b1⟩
  have T1 := hide (T0.out.step b1)
  have R1 := hide (R0.out.below b1 (Nat.le_trans hB T0.out.bel.size))
  clear b1 T0 R0
  cases b with
  | false =>
    have E1 := hide (pinE_bad (b := false) (zs := zs) (k := k) (.inl rfl))
    have E2 := hide (pin_no (b := false) (t := t) (zs := zs) (k := k) E1.out)
    clear hb
    rw [show chk false = 1 from rfl]
    have HE := hide (Two.none T1.out)
    obtain ⟨y0, f0, y1, f1⟩ := zero_cells T1.out.res
    go_wp2
    exact bodyPost_ret (results_row_one rfl _ _ (w.heap.size + 1) 29 _ (0, 0) _ rfl HE.out.1 Try.underlying29 rfl Try.size29) rfl ⟨none, 0, 0, by rw [E1.out, E2.out.1]; rfl, by rw [E2.out.2]; exact HE.out.2.1, HE.out.2.2⟩

  | true =>
    have HO := hide (hb.out.1 rfl)
    have hn : n ≤ 64 := by have := HO.out.2.1; have := HL.out; omega
    clear hb
    rw [show chk true = 0 from rfl]
    have hc := T1.out.box.cells
    have hl := T1.out.box.lt
    have s1 := T1.out.bel.size
    by_cases hk1 : k < 0
    · have E1 := hide (pinE_bad (b := true) (zs := zs) (k := k) (.inr (.inl hk1)))
      have E2 := hide (pin_no (b := true) (t := t) (zs := zs) (k := k) E1.out)
      have d1 : decide (k < 0) = true := by simpa using hk1
      clear hk1 hc hl
      have HE := hide (Two.none T1.out)
      obtain ⟨y0, f0, y1, f1⟩ := zero_cells T1.out.res
      go_wp2
      exact bodyPost_ret (results_row_one rfl _ _ (w.heap.size + 1) 29 _ (0, 0) _ rfl HE.out.1 Try.underlying29 rfl Try.size29) rfl ⟨none, 0, 0, by rw [E1.out, E2.out.1]; rfl, by rw [E2.out.2]; exact HE.out.2.1, HE.out.2.2⟩

    have d1 : decide (k < 0) = false := by simpa using hk1
    by_cases hk2 : (n : Int) ≤ k
    · have E1 := hide (pinE_bad (b := true) (zs := zs) (k := k) (.inr (.inr (by have := HL.out; omega))))
      have E2 := hide (pin_no (b := true) (t := t) (zs := zs) (k := k) E1.out)
      have d2 : decide ((n : Int) ≤ k) = true := by simpa using hk2
      clear hk1 hk2
      have HE := hide (Two.none T1.out)
      obtain ⟨y0, f0, y1, f1⟩ := zero_cells T1.out.res
      go_wp2
      exact bodyPost_ret (results_row_one rfl _ _ (w.heap.size + 1) 29 _ (0, 0) _ rfl HE.out.1 Try.underlying29 rfl Try.size29) rfl ⟨none, 0, 0, by rw [E1.out, E2.out.1]; rfl, by rw [E2.out.2]; exact HE.out.2.1, HE.out.2.2⟩

    have d2 : decide ((n : Int) ≤ k) = false := by simpa using hk2
    obtain ⟨X, rfl⟩ : ∃ X : Nat, k = (X : Int) := ⟨k.toNat, by omega⟩
    have hX : X < n := by omega
    obtain ⟨bA, oA, rfl, hbA, hx⟩ := R1.out.1.at_ hX
    obtain ⟨z, EZ⟩ : ∃ z, Hid (zs.getD X 0 = z) := ⟨_, rfl⟩
    rw [EZ.out] at hx
    by_cases hz : z = -1
    · subst hz
      have E1 := hide (pinE_ok (b := true) (zs := zs) (X := X) rfl (by have := HL.out; omega) EZ.out)
      have E2 := hide (pin_yes (b := true) (t := t) (zs := zs) (X := X) E1.out)
      have HCp : Hid (∀ u, Hid (Below u1.heap.size u1 u) → Calls Try.prog 80 #[.slice (some ⟨bA, oA, none⟩) n c] u (Tell u zs)) := fun u hu => rcopy_any _ _ _ B _ _ (R1.out.below hu.out (Nat.le_trans hB T1.out.bel.size)) (by omega)
      have hN : Hid (∀ u, Hid (Below u1.heap.size u1 u) → (u.cell? ⟨w.heap.size, 0, none⟩ = some (.int .i64 t) ∧ u.cell? ⟨w.heap.size, 1, none⟩ = some (.slice (some ⟨bA, oA, none⟩) n c) ∧ Hid (Below u1.heap.size u1 u))) :=
        fun u hu => ⟨(T1.out.step hu.out).box.cells 0, (T1.out.step hu.out).box.cells 1, hu⟩
      have D0 := hide ((Below.refl u1.heap.size u1).drew)
      have D1 := hide (below_al (o := .cells zeros2 29) D0.out)
      have TD := hide (T1.out.step D0.out)
      go_wp2
      clear hc hl
      go_region_held3 (fun u => u.cell? ⟨w.heap.size, 0, none⟩ = some (.int .i64 t) ∧ u.cell? ⟨w.heap.size, 1, none⟩ = some (.slice (some ⟨bA, oA, none⟩) n c) ∧ Hid (Below u1.heap.size u1 u))
        (first | exact hN.out _ D0 | exact hN.out _ (by assumption) | exact hN.out _ (hide (below_al (Hid.out (by assumption)))) | exact hN.out _ (hide (set2_below (Hid.out (by assumption)) (Nat.le_refl _) _ _)) | exact hN.out _ (hide (set2_below (Hid.out (by assumption)) (Below.size (Hid.out (by assumption))) _ _)))
        (first | (go_at_call 80; refine (HCp.out u1.drew D0).mono ?_; rintro e u5 ⟨A5, n5, c5, rfl, r5, b5⟩; have BU := hide (next_call D0.out (Nat.le_refl _) b5)) | (go_at_call 80; refine (HCp.out (u1.drew.alloc (.cells zeros2 29)) D1).mono ?_; rintro e u5 ⟨A5, n5, c5, rfl, r5, b5⟩; have BU := hide (next_call D1.out (Nat.le_refl _) b5); have HZ := hide (box_drew b5); obtain ⟨y0, fz0, y1, fz1⟩ := zero_cells HZ.out; have hlz := HZ.out.lt))
      · have AF0 := hide (St.behind TD.out r5 b5 t)
        obtain rfl : n5 = n := by have := r5.len; have := HL.out; omega
        obtain ⟨U, hU⟩ : ∃ U, Hid (u5.alloc (.cells #[.int .i64 t, .slice A5 n5 c5] 29) = U) := ⟨_, rfl⟩
        obtain ⟨hb, hhb⟩ : ∃ hb, Hid (u5.heap.size = hb) := ⟨_, rfl⟩
        have AF : Hid (St w U (C2 t (some ⟨bA, oA, none⟩) n5 c) hb t A5 n5 c5 zs) := by show St _ _ _ _ _ _ _ _ _; rw [← hU.out, ← hhb.out]; exact AF0.out
        have BW : Hid (Below u1.heap.size u1 U) := by show Below _ _ _; rw [← hU.out]; exact below_al BU.out
        rw [hU.out, hhb.out]
        clear AF0 r5 b5 BU hN HCp D0 D1 TD 
        obtain ⟨g, rfl⟩ := own_some AF.out.row.1 (by omega)
        have hc := AF.out.two.box.cells
        have hl := AF.out.two.box.lt
        have hcb := AF.out.box.cells
        have hlb := AF.out.box.lt
        have v1 := own_at AF.out.row.1 hX
        have v2 := AF.out.row.1.frozenAt X
        have v3 := (own_ge AF.out.row.1).2
        have v4 := (own_ge AF.out.row.1).1
        have gb := AF.out.ge
        have ne1 := AF.out.ne
        have ne2 : hb ≠ g := ne1.symm
        have ne3 : g ≠ w.heap.size + 1 := by omega
        have ne4 : w.heap.size + 1 ≠ g := by omega
        have ne5 : w.heap.size ≠ g := by omega
        have ne6 : hb ≠ w.heap.size + 1 := by omega
        obtain ⟨y0, f0, y1, f1⟩ := zero_cells AF.out.two.res
        have hlr := AF.out.two.res.lt
        have S2 := hide (AF.out.set X t)
        have HE := hide (S2.out.two.tell S2.out.row t)
        go_wp2
        exact bodyPost_ret (results_row_one rfl _ _ (w.heap.size + 1) 29 _ (0, 0) _ rfl HE.out.1 Try.underlying29 rfl Try.size29) rfl ⟨some ⟨g, 0, none⟩, n5, c5, by rw [E1.out, E2.out.1]; rfl, by rw [E2.out.2]; exact HE.out.2.1, HE.out.2.2⟩
      · have AF0 := hide (St.before TD.out b5 r5 t)
        obtain rfl : n5 = n := by have := r5.len; have := HL.out; omega
        obtain ⟨U, hU⟩ : ∃ U, Hid ((u5.setCell ⟨u1.heap.size, 0, none⟩ (.int .i64 t)).setCell ⟨u1.heap.size, 1, none⟩ (.slice A5 n5 c5) = U) := ⟨_, rfl⟩
        obtain ⟨hb, hhb⟩ : ∃ hb, Hid (u1.heap.size = hb) := ⟨_, rfl⟩
        have AF : Hid (St w U (C2 t (some ⟨bA, oA, none⟩) n5 c) hb t A5 n5 c5 zs) := by show St _ _ _ _ _ _ _ _ _; rw [← hU.out, ← hhb.out]; exact AF0.out
        have BW : Hid (Below u1.heap.size u1 U) := by show Below _ _ _; rw [← hU.out]; exact set2_below BU.out (Nat.le_refl _) _ _
        rw [hU.out, hhb.out]
        clear AF0 r5 b5 BU hN HCp D0 D1 TD HZ y0 fz0 y1 fz1 hlz
        obtain ⟨g, rfl⟩ := own_some AF.out.row.1 (by omega)
        have hc := AF.out.two.box.cells
        have hl := AF.out.two.box.lt
        have hcb := AF.out.box.cells
        have hlb := AF.out.box.lt
        have v1 := own_at AF.out.row.1 hX
        have v2 := AF.out.row.1.frozenAt X
        have v3 := (own_ge AF.out.row.1).2
        have v4 := (own_ge AF.out.row.1).1
        have gb := AF.out.ge
        have ne1 := AF.out.ne
        have ne2 : hb ≠ g := ne1.symm
        have ne3 : g ≠ w.heap.size + 1 := by omega
        have ne4 : w.heap.size + 1 ≠ g := by omega
        have ne5 : w.heap.size ≠ g := by omega
        have ne6 : hb ≠ w.heap.size + 1 := by omega
        obtain ⟨y0, f0, y1, f1⟩ := zero_cells AF.out.two.res
        have hlr := AF.out.two.res.lt
        have S2 := hide (AF.out.set X t)
        have HE := hide (S2.out.two.tell S2.out.row t)
        go_wp2
        exact bodyPost_ret (results_row_one rfl _ _ (w.heap.size + 1) 29 _ (0, 0) _ rfl HE.out.1 Try.underlying29 rfl Try.size29) rfl ⟨some ⟨g, 0, none⟩, n5, c5, by rw [E1.out, E2.out.1]; rfl, by rw [E2.out.2]; exact HE.out.2.1, HE.out.2.2⟩

    · have E1 := hide (pinE_taken (b := true) (zs := zs) (X := X) (by rw [EZ.out]; exact hz))
      have E2 := hide (pin_no (b := true) (t := t) (zs := zs) (k := (X : Int)) E1.out)
      have d3 : (z != -1) = true := by simpa using hz
      clear hz
      have HE := hide (Two.none T1.out)
      obtain ⟨y0, f0, y1, f1⟩ := zero_cells T1.out.res
      go_wp2
      exact bodyPost_ret (results_row_one rfl _ _ (w.heap.size + 1) 29 _ (0, 0) _ rfl HE.out.1 Try.underlying29 rfl Try.size29) rfl ⟨none, 0, 0, by rw [E1.out, E2.out.1]; rfl, by rw [E2.out.2]; exact HE.out.2.1, HE.out.2.2⟩

set_option maxHeartbeats 2000000 in
theorem runpin_any (t : Int) (A : Option Addr) (n c B : Nat) (zs : List Int) (b : Bool) (k : Int) (w : World) (hr : Reads w B A n c zs) (hB : B ≤ w.heap.size) (hb : Hid (b = true ↔ Ok t zs)) :
    Calls Try.prog 66 #[V2 t A n c, .int .i64 k] w (Tell2 w (unpT b t zs k) (unpZ b zs k) (.int .i64 (unpE b zs k))) := by
  have T0 := hide (Two.first w (C2 t A n c))
  have HL := hide hr.len
  have R0 := hide (hr.below T0.out.bel hB)
  clear hr
  go_enter Try.func66, Try.ntmps66
  go_wp2_with fail
  refine (rcheck_any t A n c B zs b _ R0.out (Nat.le_trans hB T0.out.bel.size) hb).mono ?_
  rintro e u1 ⟨rfl, b1⟩
  have T1 := hide (T0.out.step b1)
  have R1 := hide (R0.out.below b1 (Nat.le_trans hB T0.out.bel.size))
  clear b1 T0 R0
  cases b with
  | false =>
    have E1 := hide (unpE_bad (b := false) (zs := zs) (k := k) (.inl rfl))
    have E2 := hide (unp_no (b := false) (t := t) (zs := zs) (k := k) (by rw [E1.out]; decide))
    clear hb
    rw [show chk false = 1 from rfl]
    have HE := hide (Two.none T1.out)
    obtain ⟨y0, f0, y1, f1⟩ := zero_cells T1.out.res
    go_wp2
    exact bodyPost_ret (results_row_one rfl _ _ (w.heap.size + 1) 29 _ (0, 0) _ rfl HE.out.1 Try.underlying29 rfl Try.size29) rfl ⟨none, 0, 0, by rw [E1.out, E2.out.1]; rfl, by rw [E2.out.2]; exact HE.out.2.1, HE.out.2.2⟩

  | true =>
    have HO := hide (hb.out.1 rfl)
    have hn : n ≤ 64 := by have := HO.out.2.1; have := HL.out; omega
    clear hb
    rw [show chk true = 0 from rfl]
    have hc := T1.out.box.cells
    have hl := T1.out.box.lt
    have s1 := T1.out.bel.size
    by_cases hk1 : k < 0
    · have E1 := hide (unpE_bad (b := true) (zs := zs) (k := k) (.inr (.inl hk1)))
      have E2 := hide (unp_no (b := true) (t := t) (zs := zs) (k := k) (by rw [E1.out]; decide))
      have d1 : decide (k < 0) = true := by simpa using hk1
      clear hk1 hc hl
      have HE := hide (Two.none T1.out)
      obtain ⟨y0, f0, y1, f1⟩ := zero_cells T1.out.res
      go_wp2
      exact bodyPost_ret (results_row_one rfl _ _ (w.heap.size + 1) 29 _ (0, 0) _ rfl HE.out.1 Try.underlying29 rfl Try.size29) rfl ⟨none, 0, 0, by rw [E1.out, E2.out.1]; rfl, by rw [E2.out.2]; exact HE.out.2.1, HE.out.2.2⟩

    have d1 : decide (k < 0) = false := by simpa using hk1
    by_cases hk2 : (n : Int) ≤ k
    · have E1 := hide (unpE_bad (b := true) (zs := zs) (k := k) (.inr (.inr (by have := HL.out; omega))))
      have E2 := hide (unp_no (b := true) (t := t) (zs := zs) (k := k) (by rw [E1.out]; decide))
      have d2 : decide ((n : Int) ≤ k) = true := by simpa using hk2
      clear hk1 hk2
      have HE := hide (Two.none T1.out)
      obtain ⟨y0, f0, y1, f1⟩ := zero_cells T1.out.res
      go_wp2
      exact bodyPost_ret (results_row_one rfl _ _ (w.heap.size + 1) 29 _ (0, 0) _ rfl HE.out.1 Try.underlying29 rfl Try.size29) rfl ⟨none, 0, 0, by rw [E1.out, E2.out.1]; rfl, by rw [E2.out.2]; exact HE.out.2.1, HE.out.2.2⟩

    have d2 : decide ((n : Int) ≤ k) = false := by simpa using hk2
    obtain ⟨X, rfl⟩ : ∃ X : Nat, k = (X : Int) := ⟨k.toNat, by omega⟩
    have hX : X < n := by omega
    obtain ⟨bA, oA, rfl, hbA, hx⟩ := R1.out.1.at_ hX
    obtain ⟨z, EZ⟩ : ∃ z, Hid (zs.getD X 0 = z) := ⟨_, rfl⟩
    rw [EZ.out] at hx
    by_cases hz : z = -1
    · subst hz
      have E1 := hide (unpE_none (b := true) (zs := zs) (X := X) rfl (by have := HL.out; omega) EZ.out)
      have E2 := hide (unp_no (b := true) (t := t) (zs := zs) (k := (X : Int)) (by rw [E1.out]; decide))
      have HE := hide (Two.none T1.out)
      obtain ⟨y0, f0, y1, f1⟩ := zero_cells T1.out.res
      go_wp2
      exact bodyPost_ret (results_row_one rfl _ _ (w.heap.size + 1) 29 _ (0, 0) _ rfl HE.out.1 Try.underlying29 rfl Try.size29) rfl ⟨none, 0, 0, by rw [E1.out, E2.out.1]; rfl, by rw [E2.out.2]; exact HE.out.2.1, HE.out.2.2⟩

    · have E1 := hide (unpE_ok (b := true) (zs := zs) (X := X) rfl (by have := HL.out; omega) (by rw [EZ.out]; exact hz))
      have E2 := hide (unp_yes (b := true) (t := t) (zs := zs) (X := X) E1.out)
      have d3 : (z == -1) = false := by simpa using hz
      clear hz
      have HCp : Hid (∀ u, Hid (Below u1.heap.size u1 u) → Calls Try.prog 80 #[.slice (some ⟨bA, oA, none⟩) n c] u (Tell u zs)) := fun u hu => rcopy_any _ _ _ B _ _ (R1.out.below hu.out (Nat.le_trans hB T1.out.bel.size)) (by omega)
      have hN : Hid (∀ u, Hid (Below u1.heap.size u1 u) → (u.cell? ⟨w.heap.size, 0, none⟩ = some (.int .i64 t) ∧ u.cell? ⟨w.heap.size, 1, none⟩ = some (.slice (some ⟨bA, oA, none⟩) n c) ∧ Hid (Below u1.heap.size u1 u))) :=
        fun u hu => ⟨(T1.out.step hu.out).box.cells 0, (T1.out.step hu.out).box.cells 1, hu⟩
      have D0 := hide ((Below.refl u1.heap.size u1).drew)
      have D1 := hide (below_al (o := .cells zeros2 29) D0.out)
      have TD := hide (T1.out.step D0.out)
      go_wp2
      clear hc hl
      go_region_held3 (fun u => u.cell? ⟨w.heap.size, 0, none⟩ = some (.int .i64 t) ∧ u.cell? ⟨w.heap.size, 1, none⟩ = some (.slice (some ⟨bA, oA, none⟩) n c) ∧ Hid (Below u1.heap.size u1 u))
        (first | exact hN.out _ D0 | exact hN.out _ (by assumption) | exact hN.out _ (hide (below_al (Hid.out (by assumption)))) | exact hN.out _ (hide (set2_below (Hid.out (by assumption)) (Nat.le_refl _) _ _)) | exact hN.out _ (hide (set2_below (Hid.out (by assumption)) (Below.size (Hid.out (by assumption))) _ _)))
        (first | (go_at_call 80; refine (HCp.out u1.drew D0).mono ?_; rintro e u5 ⟨A5, n5, c5, rfl, r5, b5⟩; have BU := hide (next_call D0.out (Nat.le_refl _) b5)) | (go_at_call 80; refine (HCp.out (u1.drew.alloc (.cells zeros2 29)) D1).mono ?_; rintro e u5 ⟨A5, n5, c5, rfl, r5, b5⟩; have BU := hide (next_call D1.out (Nat.le_refl _) b5); have HZ := hide (box_drew b5); obtain ⟨y0, fz0, y1, fz1⟩ := zero_cells HZ.out; have hlz := HZ.out.lt))
      · have AF0 := hide (St.behind TD.out r5 b5 t)
        obtain rfl : n5 = n := by have := r5.len; have := HL.out; omega
        obtain ⟨U, hU⟩ : ∃ U, Hid (u5.alloc (.cells #[.int .i64 t, .slice A5 n5 c5] 29) = U) := ⟨_, rfl⟩
        obtain ⟨hb, hhb⟩ : ∃ hb, Hid (u5.heap.size = hb) := ⟨_, rfl⟩
        have AF : Hid (St w U (C2 t (some ⟨bA, oA, none⟩) n5 c) hb t A5 n5 c5 zs) := by show St _ _ _ _ _ _ _ _ _; rw [← hU.out, ← hhb.out]; exact AF0.out
        have BW : Hid (Below u1.heap.size u1 U) := by show Below _ _ _; rw [← hU.out]; exact below_al BU.out
        rw [hU.out, hhb.out]
        clear AF0 r5 b5 BU hN HCp D0 D1 TD 
        obtain ⟨g, rfl⟩ := own_some AF.out.row.1 (by omega)
        have hc := AF.out.two.box.cells
        have hl := AF.out.two.box.lt
        have hcb := AF.out.box.cells
        have hlb := AF.out.box.lt
        have v1 := own_at AF.out.row.1 hX
        have v2 := AF.out.row.1.frozenAt X
        have v3 := (own_ge AF.out.row.1).2
        have v4 := (own_ge AF.out.row.1).1
        have gb := AF.out.ge
        have ne1 := AF.out.ne
        have ne2 : hb ≠ g := ne1.symm
        have ne3 : g ≠ w.heap.size + 1 := by omega
        have ne4 : w.heap.size + 1 ≠ g := by omega
        have ne5 : w.heap.size ≠ g := by omega
        have ne6 : hb ≠ w.heap.size + 1 := by omega
        obtain ⟨y0, f0, y1, f1⟩ := zero_cells AF.out.two.res
        have hlr := AF.out.two.res.lt
        have S2 := hide (AF.out.set X (-1))
        have HE := hide (S2.out.two.tell S2.out.row t)
        go_wp2
        exact bodyPost_ret (results_row_one rfl _ _ (w.heap.size + 1) 29 _ (0, 0) _ rfl HE.out.1 Try.underlying29 rfl Try.size29) rfl ⟨some ⟨g, 0, none⟩, n5, c5, by rw [E1.out, E2.out.1]; rfl, by rw [E2.out.2]; exact HE.out.2.1, HE.out.2.2⟩
      · have AF0 := hide (St.before TD.out b5 r5 t)
        obtain rfl : n5 = n := by have := r5.len; have := HL.out; omega
        obtain ⟨U, hU⟩ : ∃ U, Hid ((u5.setCell ⟨u1.heap.size, 0, none⟩ (.int .i64 t)).setCell ⟨u1.heap.size, 1, none⟩ (.slice A5 n5 c5) = U) := ⟨_, rfl⟩
        obtain ⟨hb, hhb⟩ : ∃ hb, Hid (u1.heap.size = hb) := ⟨_, rfl⟩
        have AF : Hid (St w U (C2 t (some ⟨bA, oA, none⟩) n5 c) hb t A5 n5 c5 zs) := by show St _ _ _ _ _ _ _ _ _; rw [← hU.out, ← hhb.out]; exact AF0.out
        have BW : Hid (Below u1.heap.size u1 U) := by show Below _ _ _; rw [← hU.out]; exact set2_below BU.out (Nat.le_refl _) _ _
        rw [hU.out, hhb.out]
        clear AF0 r5 b5 BU hN HCp D0 D1 TD HZ y0 fz0 y1 fz1 hlz
        obtain ⟨g, rfl⟩ := own_some AF.out.row.1 (by omega)
        have hc := AF.out.two.box.cells
        have hl := AF.out.two.box.lt
        have hcb := AF.out.box.cells
        have hlb := AF.out.box.lt
        have v1 := own_at AF.out.row.1 hX
        have v2 := AF.out.row.1.frozenAt X
        have v3 := (own_ge AF.out.row.1).2
        have v4 := (own_ge AF.out.row.1).1
        have gb := AF.out.ge
        have ne1 := AF.out.ne
        have ne2 : hb ≠ g := ne1.symm
        have ne3 : g ≠ w.heap.size + 1 := by omega
        have ne4 : w.heap.size + 1 ≠ g := by omega
        have ne5 : w.heap.size ≠ g := by omega
        have ne6 : hb ≠ w.heap.size + 1 := by omega
        obtain ⟨y0, f0, y1, f1⟩ := zero_cells AF.out.two.res
        have hlr := AF.out.two.res.lt
        have S2 := hide (AF.out.set X (-1))
        have HE := hide (S2.out.two.tell S2.out.row t)
        go_wp2
        exact bodyPost_ret (results_row_one rfl _ _ (w.heap.size + 1) 29 _ (0, 0) _ rfl HE.out.1 Try.underlying29 rfl Try.size29) rfl ⟨some ⟨g, 0, none⟩, n5, c5, by rw [E1.out, E2.out.1]; rfl, by rw [E2.out.2]; exact HE.out.2.1, HE.out.2.2⟩

end Go.Proofs.Ythficfmakbblkaa.Era

/- What Turn tells of any era, the code's and the document's. -/
namespace Go.Proofs.Ythficfmakbblkaa.Era
open Go.RowKit
set_option linter.unusedVariables false

theorem St.step {w u u' : World} {cs : Array Value} {hb n c : Nat} {t : Int} {A : Option Addr} {zs : List Int} (s : St w u cs hb t A n c zs) (b : Below u.heap.size u u') : St w u' cs hb t A n c zs :=
  ⟨s.two.step b, s.box.step b, s.ge, s.row.below b⟩

set_option maxHeartbeats 2000000 in
theorem turn_any (t : Int) (A : Option Addr) (n c B : Nat) (zs : List Int) (b s : Bool) (w : World) (hr : Reads w B A n c zs) (hB : B ≤ w.heap.size) (hb : Hid (b = true ↔ Ok t zs)) (hs : Hid (s = true ↔ Step t zs)) :
    Calls Try.prog 59 #[V2 t A n c] w (Tell2 w (turnT b s t) (turnZ b zs) (.bool (turnB b s t))) := by
  have T0 := hide (Two.first w (C2 t A n c))
  have HL := hide hr.len
  have R0 := hide (hr.below T0.out.bel hB)
  clear hr
  go_enter Try.func59, Try.ntmps59
  go_wp2_with fail
  refine (mayBe_any t A n c B zs b _ R0.out (Nat.le_trans hB T0.out.bel.size) hb).mono ?_
  rintro e u1 ⟨rfl, b1⟩
  have T1 := hide (T0.out.step b1)
  have R1 := hide (R0.out.below b1 (Nat.le_trans hB T0.out.bel.size))
  clear b1 T0 R0
  cases b with
  | false =>
    have E1 : Hid (turnB false s t = false) := rfl
    have E2 : Hid (turnT false s t = 0) := rfl
    have E3 : Hid (turnZ false zs = []) := rfl
    clear hb hs
    have HE := hide (Two.none T1.out)
    obtain ⟨y0, f0, y1, f1⟩ := zero_cells T1.out.res
    go_wp2
    exact bodyPost_ret (results_row_one rfl _ _ (w.heap.size + 1) 29 _ (0, 0) _ rfl HE.out.1 Try.underlying29 rfl Try.size29) rfl ⟨none, 0, 0, by rw [E1.out, E2.out]; rfl, by rw [E3.out]; exact HE.out.2.1, HE.out.2.2⟩

  | true =>
    have HO := hide (hb.out.1 rfl)
    have hn : n ≤ 64 := by have := HO.out.2.1; have := HL.out; omega
    clear hb
    have hc := T1.out.box.cells
    have hl := T1.out.box.lt
    have s1 := T1.out.bel.size
    have E3 : Hid (turnZ true zs = zs) := rfl
    have B1 := HO.out.1.1
    have B2 := HO.out.1.2
    go_wp2_with fail
    refine (fresh_any t A n c B zs _ R1.out (Nat.le_trans hB s1) (by omega)).mono ?_
    rintro e u2 ⟨A2, n2, c2, rfl, r2, b2⟩
    have S2 := hide (St.behind T1.out r2 b2 t)
    have T2 := hide (T1.out.step b2)
    have R2 := hide (r2.less T1.out.size)
    have RA := hide (R1.out.below (below_al (o := .cells (C2 t A2 n2 c2) 29) b2) (Nat.le_trans hB s1))
    clear r2 b2 hc hl
    have hc := T2.out.box.cells
    have hl := T2.out.box.lt
    by_cases ht : t = 1152921504606846976
    · subst ht
      have E1 : Hid (turnB true s 1152921504606846976 = false) := by show _ = _; cases s <;> decide
      have E2 : Hid (turnT true s 1152921504606846976 = 1152921504606846976) := by show _ = _; cases s <;> decide
      have HE := hide (T2.out.tell R2.out 1152921504606846976)
      obtain ⟨y0, f0, y1, f1⟩ := zero_cells T2.out.res
      have hlr := T2.out.res.lt
      have ne1 : w.heap.size + 1 ≠ u2.heap.size := by omega
      clear hs
      go_wp2
      exact bodyPost_ret (results_row_one rfl _ _ (w.heap.size + 1) 29 _ (0, 0) _ rfl (HE.out.1.alloc _) Try.underlying29 rfl Try.size29) rfl ⟨A2, n2, c2, by rw [E1.out, E2.out]; rfl, by rw [E3.out]; exact HE.out.2.1.alloc _, HE.out.2.2.alloc HE.out.2.2.size _⟩
    have f3 : (t == 1152921504606846976) = false := by simpa using ht
    obtain ⟨U, hU⟩ : ∃ U, Hid (u2.alloc (.cells #[.int .i64 t, .slice A2 n2 c2] 29) = U) := ⟨_, rfl⟩
    obtain ⟨hb, hhb⟩ : ∃ hb, Hid (u2.heap.size = hb) := ⟨_, rfl⟩
    have AF : Hid (St w U (C2 t A n c) hb t A2 n2 c2 zs) := by show St _ _ _ _ _ _ _ _ _; rw [← hU.out, ← hhb.out]; exact S2.out
    have RU : Hid (Reads U B A n c zs) := by show Reads _ _ _ _ _ _; rw [← hU.out]; exact RA.out
    go_wp2_with fail
    rw [hU.out, hhb.out]
    have sU := AF.out.two.bel.size
    refine (step_any t A n c B zs s _ RU.out (Nat.le_trans hB sU) hn hs).mono ?_
    rintro e u3 ⟨rfl, b3⟩
    have S3 := hide (AF.out.step b3)
    clear hs b3 hc hl S2 T2 R2 RA AF RU sU
    have hcb := S3.out.box.cells
    have hfb := S3.out.box.frozen
    have hlb := S3.out.box.lt
    have gb := S3.out.ge
    have ne6 : hb ≠ w.heap.size + 1 := by omega
    have ne7 : w.heap.size + 1 ≠ hb := by omega
    obtain ⟨y0, f0, y1, f1⟩ := zero_cells S3.out.two.res
    have hlr := S3.out.two.res.lt
    cases s with
    | false =>
      have E1 : Hid (turnB true false t = false) := rfl
      have E2 : Hid (turnT true false t = t) := rfl
      have HE := hide (S3.out.two.tell S3.out.row t)
      clear ht
      go_wp2
      exact bodyPost_ret (results_row_one rfl _ _ (w.heap.size + 1) 29 _ (0, 0) _ rfl HE.out.1 Try.underlying29 rfl Try.size29) rfl ⟨A2, n2, c2, by rw [E1.out, E2.out]; rfl, by rw [E3.out]; exact HE.out.2.1, HE.out.2.2⟩
    | true =>
      have E1 : Hid (turnB true true t = true) := by show _ = _; unfold turnB; simpa using ht
      have E2 : Hid (turnT true true t = t + 1) := by show _ = _; unfold turnT; rw [E1.out]; rfl
      have S4 := hide (S3.out.now (t + 1))
      have HE := hide (S4.out.two.tell S4.out.row (t + 1))
      clear ht
      go_wp2
      exact bodyPost_ret (results_row_one rfl _ _ (w.heap.size + 1) 29 _ (0, 0) _ rfl HE.out.1 Try.underlying29 rfl Try.size29) rfl ⟨A2, n2, c2, by rw [E1.out, E2.out]; rfl, by rw [E3.out]; exact HE.out.2.1, HE.out.2.2⟩

set_option maxHeartbeats 4000000 in
theorem rturn_any (t : Int) (A : Option Addr) (n c B : Nat) (zs : List Int) (b s : Bool) (w : World) (hr : Reads w B A n c zs) (hB : B ≤ w.heap.size) (hb : Hid (b = true ↔ Ok t zs)) (hs : Hid (s = true ↔ Step t zs)) :
    Calls Try.prog 62 #[V2 t A n c] w (Tell2 w (turnT b s t) (turnZ b zs) (.bool (turnB b s t))) := by
  have T0 := hide (Two.first w (C2 t A n c))
  have HL := hide hr.len
  have R0 := hide (hr.below T0.out.bel hB)
  clear hr
  go_enter Try.func62, Try.ntmps62
  go_wp2_with fail
  refine (rcheck_any t A n c B zs b _ R0.out (Nat.le_trans hB T0.out.bel.size) hb).mono ?_
  rintro e u1 ⟨rfl, b1⟩
  have T1 := hide (T0.out.step b1)
  have R1 := hide (R0.out.below b1 (Nat.le_trans hB T0.out.bel.size))
  clear b1 T0 R0
  cases b with
  | false =>
    have E1 : Hid (turnB false s t = false) := rfl
    have E2 : Hid (turnT false s t = 0) := rfl
    have E3 : Hid (turnZ false zs = []) := rfl
    clear hb hs
    rw [show chk false = 1 from rfl]
    have HE := hide (Two.none T1.out)
    obtain ⟨y0, f0, y1, f1⟩ := zero_cells T1.out.res
    go_wp2
    exact bodyPost_ret (results_row_one rfl _ _ (w.heap.size + 1) 29 _ (0, 0) _ rfl HE.out.1 Try.underlying29 rfl Try.size29) rfl ⟨none, 0, 0, by rw [E1.out, E2.out]; rfl, by rw [E3.out]; exact HE.out.2.1, HE.out.2.2⟩

  | true =>
    have HO := hide (hb.out.1 rfl)
    have hn : n ≤ 64 := by have := HO.out.2.1; have := HL.out; omega
    clear hb
    rw [show chk true = 0 from rfl]
    have hc := T1.out.box.cells
    have hl := T1.out.box.lt
    have s1 := T1.out.bel.size
    have HCp : Hid (∀ u, Hid (Below u1.heap.size u1 u) → Calls Try.prog 80 #[.slice A n c] u (Tell u zs)) := fun u hu => rcopy_any _ _ _ B _ _ (R1.out.below hu.out (Nat.le_trans hB T1.out.bel.size)) (by omega)
    have hN : Hid (∀ u, Hid (Below u1.heap.size u1 u) → (u.cell? ⟨w.heap.size, 0, none⟩ = some (.int .i64 t) ∧ u.cell? ⟨w.heap.size, 1, none⟩ = some (.slice A n c) ∧ Hid (Below u1.heap.size u1 u))) :=
      fun u hu => ⟨(T1.out.step hu.out).box.cells 0, (T1.out.step hu.out).box.cells 1, hu⟩
    have D0 := hide ((Below.refl u1.heap.size u1).drew)
    have D1 := hide (below_al (o := .cells zeros2 29) D0.out)
    have TD := hide (T1.out.step D0.out)
    go_wp2
    clear hc hl
    go_region_held3 (fun u => u.cell? ⟨w.heap.size, 0, none⟩ = some (.int .i64 t) ∧ u.cell? ⟨w.heap.size, 1, none⟩ = some (.slice A n c) ∧ Hid (Below u1.heap.size u1 u))
      (first | exact hN.out _ D0 | exact hN.out _ (by assumption) | exact hN.out _ (hide (below_al (Hid.out (by assumption)))) | exact hN.out _ (hide (set2_below (Hid.out (by assumption)) (Nat.le_refl _) _ _)) | exact hN.out _ (hide (set2_below (Hid.out (by assumption)) (Below.size (Hid.out (by assumption))) _ _)))
      (first | (go_at_call 80; refine (HCp.out u1.drew D0).mono ?_; rintro e u5 ⟨A5, n5, c5, rfl, r5, b5⟩; have BU := hide (next_call D0.out (Nat.le_refl _) b5)) | (go_at_call 80; refine (HCp.out (u1.drew.alloc (.cells zeros2 29)) D1).mono ?_; rintro e u5 ⟨A5, n5, c5, rfl, r5, b5⟩; have BU := hide (next_call D1.out (Nat.le_refl _) b5); have HZ := hide (box_drew b5); obtain ⟨y0, fz0, y1, fz1⟩ := zero_cells HZ.out; have hlz := HZ.out.lt))
    · have AF0 := hide (St.behind TD.out r5 b5 t)
      obtain rfl : n5 = n := by have := r5.len; have := HL.out; omega
      obtain ⟨U, hU⟩ : ∃ U, Hid (u5.alloc (.cells #[.int .i64 t, .slice A5 n5 c5] 29) = U) := ⟨_, rfl⟩
      obtain ⟨hb, hhb⟩ : ∃ hb, Hid (u5.heap.size = hb) := ⟨_, rfl⟩
      have AF : Hid (St w U (C2 t A n5 c) hb t A5 n5 c5 zs) := by show St _ _ _ _ _ _ _ _ _; rw [← hU.out, ← hhb.out]; exact AF0.out
      have BW : Hid (Below u1.heap.size u1 U) := by show Below _ _ _; rw [← hU.out]; exact below_al BU.out
      rw [hU.out, hhb.out]
      clear AF0 r5 b5 BU hN HCp D0 D1 TD 
      have hc := AF.out.two.box.cells
      have hl := AF.out.two.box.lt
      have hcb := AF.out.box.cells
      have hfb := AF.out.box.frozen
      have hlb := AF.out.box.lt
      have gb := AF.out.ge
      have ne6 : hb ≠ w.heap.size + 1 := by omega
      obtain ⟨y0, f0, y1, f1⟩ := zero_cells AF.out.two.res
      have hlr := AF.out.two.res.lt
      have HRU := hide (R1.out.below BW.out (Nat.le_trans hB T1.out.bel.size))
      go_wp2
      go_loopw [20] (fun i wr => ∃ k : Nat, k ≤ n5 ∧ i = .int .i64 k ∧ wr = U ∧ Hid (∀ j, j < k → (zs.getD j 0 = -1 ∨ zs.getD j 0 = t))) (fun i _ => n5 - (intOf i).toNat)
      case atStart => exact ⟨0, by omega, rfl, rfl, by intro j hj; omega⟩
      case round =>
        obtain ⟨k, hk, rfl, rfl, HA⟩ := hrel
        by_cases hlt : k < n5
        · obtain ⟨bA, oA, rfl, hbA, hx⟩ := HRU.out.1.at_ hlt
          obtain ⟨z, EZ⟩ : ∃ z, Hid (zs.getD k 0 = z) := ⟨_, rfl⟩
          rw [EZ.out] at hx
          by_cases e1 : z = -1
          · subst e1
            have HN : Hid (∀ j, j < k + 1 → (zs.getD j 0 = -1 ∨ zs.getD j 0 = t)) := by
              intro j hj
              by_cases hjk : j = k
              · subst hjk; exact .inl EZ.out
              · exact HA.out j (by omega)
            go_wp2
            go_roundw
            case rel => exact ⟨k + 1, by omega, by go_num, trivial, HN⟩
            case measure => simp [intOf]; omega
          have f1 : (z != -1) = true := by simpa using e1
          by_cases e2 : z = t
          · subst e2
            have f2 : (z != z) = false := by simp
            have HN : Hid (∀ j, j < k + 1 → (zs.getD j 0 = -1 ∨ zs.getD j 0 = z)) := by
              intro j hj
              by_cases hjk : j = k
              · subst hjk; exact .inr EZ.out
              · exact HA.out j (by omega)
            go_wp2
            go_roundw
            case rel => exact ⟨k + 1, by omega, by go_num, trivial, HN⟩
            case measure => simp [intOf]; omega
          have f2 : (z != t) = true := by simpa using e2
          obtain rfl : s = false := by
            cases s with
            | false => rfl
            | true =>
              rcases hs.out.1 rfl z (by rw [← EZ.out]; exact get_mem (by have := HL.out; omega)) with h | h
              · exact absurd h e1
              · exact absurd h e2
          have E1 : Hid (turnB true false t = false) := rfl
          have E2 : Hid (turnT true false t = t) := rfl
          have E3 : Hid (turnZ true zs = zs) := rfl
          have HE := hide (AF.out.two.tell AF.out.row t)
          clear e1 e2 hs
          go_wp2
          exact bodyPost_ret (results_row_one rfl _ _ (w.heap.size + 1) 29 _ (0, 0) _ rfl HE.out.1 Try.underlying29 rfl Try.size29) rfl ⟨A5, n5, c5, by rw [E1.out, E2.out]; rfl, by rw [E3.out]; exact HE.out.2.1, HE.out.2.2⟩
        · obtain rfl : s = true := hs.out.2 (fun z hz => by
            obtain ⟨i, hi, rfl⟩ := mem_get hz
            exact HA.out i (by have := HL.out; omega))
          clear hs
          by_cases ht : t = 1152921504606846976
          · subst ht
            have E1 : Hid (turnB true true 1152921504606846976 = false) := by show _ = _; decide
            have E2 : Hid (turnT true true 1152921504606846976 = 1152921504606846976) := by show _ = _; decide
            have E3 : Hid (turnZ true zs = zs) := rfl
            have HE := hide (AF.out.two.tell AF.out.row 1152921504606846976)
            go_wp2
            exact bodyPost_ret (results_row_one rfl _ _ (w.heap.size + 1) 29 _ (0, 0) _ rfl HE.out.1 Try.underlying29 rfl Try.size29) rfl ⟨A5, n5, c5, by rw [E1.out, E2.out]; rfl, by rw [E3.out]; exact HE.out.2.1, HE.out.2.2⟩
          · have f3 : (t == 1152921504606846976) = false := by simpa using ht
            have E1 : Hid (turnB true true t = true) := by show _ = _; unfold turnB; simpa using ht
            have E2 : Hid (turnT true true t = t + 1) := by show _ = _; unfold turnT; rw [E1.out]; rfl
            have E3 : Hid (turnZ true zs = zs) := rfl
            have S2 := hide (AF.out.now (t + 1))
            have HE := hide (S2.out.two.tell S2.out.row (t + 1))
            have ne7 : w.heap.size + 1 ≠ hb := by omega
            have b1 := HO.out.1.1
            have b2 := HO.out.1.2
            clear ht
            go_wp2
            exact bodyPost_ret (results_row_one rfl _ _ (w.heap.size + 1) 29 _ (0, 0) _ rfl HE.out.1 Try.underlying29 rfl Try.size29) rfl ⟨A5, n5, c5, by rw [E1.out, E2.out]; rfl, by rw [E3.out]; exact HE.out.2.1, HE.out.2.2⟩
    · have AF0 := hide (St.before TD.out b5 r5 t)
      obtain rfl : n5 = n := by have := r5.len; have := HL.out; omega
      obtain ⟨U, hU⟩ : ∃ U, Hid ((u5.setCell ⟨u1.heap.size, 0, none⟩ (.int .i64 t)).setCell ⟨u1.heap.size, 1, none⟩ (.slice A5 n5 c5) = U) := ⟨_, rfl⟩
      obtain ⟨hb, hhb⟩ : ∃ hb, Hid (u1.heap.size = hb) := ⟨_, rfl⟩
      have AF : Hid (St w U (C2 t A n5 c) hb t A5 n5 c5 zs) := by show St _ _ _ _ _ _ _ _ _; rw [← hU.out, ← hhb.out]; exact AF0.out
      have BW : Hid (Below u1.heap.size u1 U) := by show Below _ _ _; rw [← hU.out]; exact set2_below BU.out (Nat.le_refl _) _ _
      rw [hU.out, hhb.out]
      clear AF0 r5 b5 BU hN HCp D0 D1 TD HZ y0 fz0 y1 fz1 hlz
      have hc := AF.out.two.box.cells
      have hl := AF.out.two.box.lt
      have hcb := AF.out.box.cells
      have hfb := AF.out.box.frozen
      have hlb := AF.out.box.lt
      have gb := AF.out.ge
      have ne6 : hb ≠ w.heap.size + 1 := by omega
      obtain ⟨y0, f0, y1, f1⟩ := zero_cells AF.out.two.res
      have hlr := AF.out.two.res.lt
      have HRU := hide (R1.out.below BW.out (Nat.le_trans hB T1.out.bel.size))
      go_wp2
      go_loopw [20] (fun i wr => ∃ k : Nat, k ≤ n5 ∧ i = .int .i64 k ∧ wr = U ∧ Hid (∀ j, j < k → (zs.getD j 0 = -1 ∨ zs.getD j 0 = t))) (fun i _ => n5 - (intOf i).toNat)
      case atStart => exact ⟨0, by omega, rfl, rfl, by intro j hj; omega⟩
      case round =>
        obtain ⟨k, hk, rfl, rfl, HA⟩ := hrel
        by_cases hlt : k < n5
        · obtain ⟨bA, oA, rfl, hbA, hx⟩ := HRU.out.1.at_ hlt
          obtain ⟨z, EZ⟩ : ∃ z, Hid (zs.getD k 0 = z) := ⟨_, rfl⟩
          rw [EZ.out] at hx
          by_cases e1 : z = -1
          · subst e1
            have HN : Hid (∀ j, j < k + 1 → (zs.getD j 0 = -1 ∨ zs.getD j 0 = t)) := by
              intro j hj
              by_cases hjk : j = k
              · subst hjk; exact .inl EZ.out
              · exact HA.out j (by omega)
            go_wp2
            go_roundw
            case rel => exact ⟨k + 1, by omega, by go_num, trivial, HN⟩
            case measure => simp [intOf]; omega
          have f1 : (z != -1) = true := by simpa using e1
          by_cases e2 : z = t
          · subst e2
            have f2 : (z != z) = false := by simp
            have HN : Hid (∀ j, j < k + 1 → (zs.getD j 0 = -1 ∨ zs.getD j 0 = z)) := by
              intro j hj
              by_cases hjk : j = k
              · subst hjk; exact .inr EZ.out
              · exact HA.out j (by omega)
            go_wp2
            go_roundw
            case rel => exact ⟨k + 1, by omega, by go_num, trivial, HN⟩
            case measure => simp [intOf]; omega
          have f2 : (z != t) = true := by simpa using e2
          obtain rfl : s = false := by
            cases s with
            | false => rfl
            | true =>
              rcases hs.out.1 rfl z (by rw [← EZ.out]; exact get_mem (by have := HL.out; omega)) with h | h
              · exact absurd h e1
              · exact absurd h e2
          have E1 : Hid (turnB true false t = false) := rfl
          have E2 : Hid (turnT true false t = t) := rfl
          have E3 : Hid (turnZ true zs = zs) := rfl
          have HE := hide (AF.out.two.tell AF.out.row t)
          clear e1 e2 hs
          go_wp2
          exact bodyPost_ret (results_row_one rfl _ _ (w.heap.size + 1) 29 _ (0, 0) _ rfl HE.out.1 Try.underlying29 rfl Try.size29) rfl ⟨A5, n5, c5, by rw [E1.out, E2.out]; rfl, by rw [E3.out]; exact HE.out.2.1, HE.out.2.2⟩
        · obtain rfl : s = true := hs.out.2 (fun z hz => by
            obtain ⟨i, hi, rfl⟩ := mem_get hz
            exact HA.out i (by have := HL.out; omega))
          clear hs
          by_cases ht : t = 1152921504606846976
          · subst ht
            have E1 : Hid (turnB true true 1152921504606846976 = false) := by show _ = _; decide
            have E2 : Hid (turnT true true 1152921504606846976 = 1152921504606846976) := by show _ = _; decide
            have E3 : Hid (turnZ true zs = zs) := rfl
            have HE := hide (AF.out.two.tell AF.out.row 1152921504606846976)
            go_wp2
            exact bodyPost_ret (results_row_one rfl _ _ (w.heap.size + 1) 29 _ (0, 0) _ rfl HE.out.1 Try.underlying29 rfl Try.size29) rfl ⟨A5, n5, c5, by rw [E1.out, E2.out]; rfl, by rw [E3.out]; exact HE.out.2.1, HE.out.2.2⟩
          · have f3 : (t == 1152921504606846976) = false := by simpa using ht
            have E1 : Hid (turnB true true t = true) := by show _ = _; unfold turnB; simpa using ht
            have E2 : Hid (turnT true true t = t + 1) := by show _ = _; unfold turnT; rw [E1.out]; rfl
            have E3 : Hid (turnZ true zs = zs) := rfl
            have S2 := hide (AF.out.now (t + 1))
            have HE := hide (S2.out.two.tell S2.out.row (t + 1))
            have ne7 : w.heap.size + 1 ≠ hb := by omega
            have b1 := HO.out.1.1
            have b2 := HO.out.1.2
            clear ht
            go_wp2
            exact bodyPost_ret (results_row_one rfl _ _ (w.heap.size + 1) 29 _ (0, 0) _ rfl HE.out.1 Try.underlying29 rfl Try.size29) rfl ⟨A5, n5, c5, by rw [E1.out, E2.out]; rfl, by rw [E3.out]; exact HE.out.2.1, HE.out.2.2⟩

end Go.Proofs.Ythficfmakbblkaa.Era

/- What New tells, the code's and the document's; an era in a box whose list grows. -/
namespace Go.Proofs.Ythficfmakbblkaa.Era
open Go.RowKit
set_option linter.unusedVariables false

theorem make_rows {P : Program} (t e : TypeId) (i : TypeInfo) (z : Value) (ht : P.underlying t = some (.slice e)) (hi : P.info? e = some i) (hz : i.zero = some z) (n : Nat) (hbytes : i.bytes * n ≤ 281474976710656) (h63 : n ≤ 9223372036854775807) (w : World) :
    (Instr.makeSlice t (.int .i64 (n : Int)) (.int .i64 (n : Int))).run P w = .ok (.slice (some ⟨w.heap.size, 0, none⟩) n n) (w.alloc (.cells (madeCells z.cells (n * i.size)) e)) := by
  have hb : (i.bytes : Int) * (n : Int) ≤ 281474976710656 := by
    have h : ((i.bytes * n : Nat) : Int) ≤ 281474976710656 := by omega
    rwa [Int.natCast_mul] at h
  have hr := run_make (P := P) w t e i z ht hi hz .i64 .i64 n n (by omega) (by omega) hb (by omega)
  simpa only [Int.toNat_natCast] using hr

theorem make_ints (n : Nat) (hn : n ≤ 200) : ∃ Z : Array Value, Hid (Z = (List.replicate n (Value.int .i64 0)).toArray) ∧ ∀ w : World, (Instr.makeSlice 24 (.int .i64 (n : Int)) (.int .i64 (n : Int))).run Try.prog w = .ok (.slice (some ⟨w.heap.size, 0, none⟩) n n) (w.alloc (.cells Z 3)) := by
  obtain ⟨i0, hi0, hz0, hz1, hz2⟩ := info_parts Try.info3
  refine ⟨_, rfl, fun w => ?_⟩
  rw [make_rows 24 3 i0 (.int .i64 0) Try.underlying24 hi0 hz0 n (by rw [hz2]; omega) (by omega) w, hz1, Nat.mul_one]
  rw [show (Value.int IntKind.i64 0).cells = #[Value.int .i64 0] from rfl, ← toList_madeCells_one]

/-- A block of numbers is a row of the call's own. -/
theorem own_of {u : World} {g B n : Nat} {zs : List Int} (h : u.heap[g]? = some (.cells (ints zs).toArray 3 (0, 0))) (hl : zs.length = n) (hn : n ≤ 200) (hB : B ≤ g) : u.ownsRow B 3 1 (.slice (some ⟨g, 0, none⟩) n n) n (ints zs) := by
  subst hl
  exact ⟨by simp, .inr ⟨g, zs.length, (ints zs).toArray, rfl, hB, h, Nat.le_refl _, by simp only [maxLen]; omega, by simp, by rw [Nat.mul_one]; exact List.take_of_length_le (by simp)⟩⟩

/-- k times -1, then 0. -/
def negs (n k : Nat) : List Int := List.replicate k (-1) ++ List.replicate (n - k) 0
theorem negs_zero (n : Nat) : negs n 0 = List.replicate n 0 := by simp [negs]
theorem negs_all (n : Nat) : negs n n = List.replicate n (-1) := by simp [negs]
theorem negs_len {n k : Nat} (h : k ≤ n) : (negs n k).length = n := by simp [negs]; omega
theorem negs_next {n k : Nat} (h : k < n) : (negs n k).set k (-1) = negs n (k + 1) := by
  unfold negs
  rw [List.set_append_right _ _ (by simp), List.length_replicate, Nat.sub_self, show n - k = (n - (k + 1)) + 1 by omega, List.replicate_succ, List.set_cons_zero, List.replicate_succ' (n := k), List.append_assoc]
  rfl

set_option maxHeartbeats 1000000 in
theorem new_ok (n : Nat) (w : World) (h1 : 1 ≤ n) (h2 : n ≤ 64) :
    Calls Try.prog 35 #[.int .i64 (n : Int)] w (Tell2 w 0 (List.replicate n (-1)) (.int .i64 0)) := by
  obtain ⟨Z, HZ, hmk⟩ := make_ints n (by omega)
  have X0 := hide ((EBox.new w zeros2).alloc (.cells Z 3))
  have B0 := hide (((Below.refl w.heap.size w).alloc (Nat.le_refl _) (.cells zeros2 29)).alloc (by simp) (.cells Z 3))
  have R0 : Hid (Row ((w.alloc (.cells zeros2 29)).alloc (.cells Z 3)) (w.heap.size + 1) (some ⟨w.heap.size + 1, 0, none⟩) n n (negs n 0)) :=
    ⟨own_of (by rw [heap_alloc2_new w _ _, HZ.out, negs_zero]; simp [ints]) (negs_len (by omega)) (by omega) (Nat.le_refl _), fun h => by cases h⟩
  go_enter Try.func35, Try.ntmps35
  go_wp2_with fail
  refine (isCount_yes _ _ (by omega) (by omega)).mono ?_
  rintro e w' ⟨rfl, rfl⟩
  go_wp2
  clear hmk HZ
  go_loopw [14] (fun i wr => ∃ k : Nat, k ≤ n ∧ i = .int .i64 k ∧ Hid (EBox wr w.heap.size zeros2) ∧ Hid (Below w.heap.size w wr) ∧ Hid (Row wr (w.heap.size + 1) (some ⟨w.heap.size + 1, 0, none⟩) n n (negs n k))) (fun i _ => n - (intOf i).toNat)
  case atStart => exact ⟨0, by omega, rfl, X0, B0, R0⟩
  case round =>
    obtain ⟨k, hk, rfl, X1, B1, R1⟩ := hrel
    clear X0 B0 R0
    by_cases hlt : k < n
    · have v1 := own_at R1.out.1 hlt
      have v2 := R1.out.1.frozenAt k
      have v3 := (own_ge R1.out.1).2
      generalize (negs n k).getD k 0 = z at v1
      go_wp2
      go_roundw
      case rel =>
        refine ⟨k + 1, by omega, by go_num, X1.out.other (by omega) _, B1.out.setCell (by simp) _, ?_⟩
        show Row _ _ _ _ _ _
        rw [← negs_next hlt]
        exact ⟨own_set R1.out.1 _ _, fun h => by cases h⟩
      case measure => simp [intOf]; omega
    · obtain rfl : k = n := by omega
      obtain ⟨y0, f0, y1, f1⟩ := zero_cells X1.out
      have hl := X1.out.lt
      have HR := hide (set2_row R1.out X1.out (.int .i64 0) (.slice (some ⟨w.heap.size + 1, 0, none⟩) k k))
      go_wp2
      exact bodyPost_ret (results_row_one rfl _ _ w.heap.size 29 _ (0, 0) _ rfl (set2_box X1.out _ _) Try.underlying29 rfl Try.size29) rfl ⟨some ⟨w.heap.size + 1, 0, none⟩, k, k, rfl, by rw [← negs_all]; exact HR.out.less (by omega), set2_below B1.out (Nat.le_refl _) _ _⟩

/-- What comes of a result that is left zero. -/
theorem none_told (w : World) : Row (w.alloc (.cells zeros2 29)) w.heap.size none 0 0 [] ∧ Below w.heap.size w (w.alloc (.cells zeros2 29)) := ⟨Row.nil _ _, (Below.refl _ _).alloc (Nat.le_refl _) _⟩

set_option maxHeartbeats 400000 in
theorem new_no (n : Int) (w : World) (h : n < 1 ∨ 64 < n) : Calls Try.prog 35 #[.int .i64 n] w (Tell2 w 0 [] (.int .i64 1)) := by
  go_enter Try.func35, Try.ntmps35
  go_wp2_with fail
  refine (isCount_no _ _ h).mono ?_
  rintro e w' ⟨rfl, rfl⟩
  clear h
  go_wp2
  exact bodyPost_ret (results_row_one rfl _ _ w.heap.size 29 _ (0, 0) _ rfl (EBox.new w zeros2) Try.underlying29 rfl Try.size29) rfl ⟨none, 0, 0, rfl, none_told w⟩

set_option maxHeartbeats 400000 in
theorem rnew_no (n : Int) (w : World) (h : Hid (n < 1 ∨ 64 < n)) : Calls Try.prog 38 #[.int .i64 n] w (Tell2 w 0 [] (.int .i64 1)) := by
  by_cases c1 : n < 1
  · have d1 : decide (n < 1) = true := by simpa using c1
    go_enter Try.func38, Try.ntmps38
    go_wp2
    exact bodyPost_ret (results_row_one rfl _ _ w.heap.size 29 _ (0, 0) _ rfl (EBox.new w zeros2) Try.underlying29 rfl Try.size29) rfl ⟨none, 0, 0, rfl, none_told w⟩
  · have d1 : decide (n < 1) = false := by simpa using c1
    have d2 : decide (64 < n) = true := by have := h.out; simp; omega
    go_enter Try.func38, Try.ntmps38
    go_wp2
    exact bodyPost_ret (results_row_one rfl _ _ w.heap.size 29 _ (0, 0) _ rfl (EBox.new w zeros2) Try.underlying29 rfl Try.size29) rfl ⟨none, 0, 0, rfl, none_told w⟩

/-- Block t is the box of an era whose list lies from block B on, behind the box. -/
structure Lay (w u : World) (B t : Nat) (x : Int) (A : Option Addr) (k c : Nat) (zs : List Int) : Prop where
  bel : Below w.heap.size w u
  ge : w.heap.size ≤ t
  box : EBox u t (C2 x A k c)
  row : Row u B A k c zs
  lt : t < B
  le : B ≤ u.heap.size
section
variable {w u u1 : World} {B t k c : Nat} {x : Int} {A : Option Addr} {zs : List Int}
theorem Lay.alloc (h : Lay w u B t x A k c zs) (o : Obj) : Lay w (u.alloc o) B t x A k c zs := ⟨h.bel.alloc h.bel.size _, h.ge, h.box.alloc _, h.row.alloc _, h.lt, by have := h.le; simp; omega⟩
theorem lit_nums (u : World) (z : Int) : Nums (u.alloc (.cells #[.int .i64 z] 3)) (u.heap.size + 1) 1 (some ⟨u.heap.size, 0, none⟩) 1 [z] := by
  refine ⟨rfl, fun _ => ⟨_, _, rfl, by omega, fun i hi => ?_⟩⟩
  obtain rfl : i = 0 := by omega
  exact cell_of_row _ u.heap.size 0 _ 3 (0, 0) (heap_alloc_new u _)
theorem Lay.grown (h : Lay w u B t x A k c zs) {A' : Option Addr} {c' : Nat} {z : Int} (hown : u1.ownsRow B 3 1 (.slice A' (k + 1) c') (k + 1) (ints (zs ++ [z]))) (hz : A' = none → c' = 0) (hb : Below B u u1) :
    EBox u1 t (C2 x A k c) ∧ Lay w (u1.setCell ⟨t, 1, none⟩ (.slice A' (k + 1) c')) B t x A' (k + 1) c' (zs ++ [z]) := by
  have hx : EBox u1 t (C2 x A k c) := h.box.below hb h.lt
  have hr : Row u1 B A' (k + 1) c' (zs ++ [z]) := ⟨hown, hz⟩
  have h1 := h.ge
  have h2 := h.lt
  exact ⟨hx, ⟨(h.bel.trans (hb.mono (by omega))).setCell h.ge _, h.ge, hx.set 1 _, hr.box hx _ _, h.lt, by have := h.le; have := hb.size; simp; omega⟩⟩
end

/-- One number more. -/
theorem more_negs (k : Nat) : List.replicate k (-1 : Int) ++ [-1] = List.replicate (k + 1) (-1) := by rw [List.replicate_succ']

set_option maxHeartbeats 1000000 in
theorem rnew_ok (n : Nat) (w : World) (h1 : 1 ≤ n) (h2 : n ≤ 64) :
    Calls Try.prog 38 #[.int .i64 (n : Int)] w (Tell2 w 0 (List.replicate n (-1)) (.int .i64 0)) := by
  obtain ⟨i0, hi0, hz0, hz1, hz2⟩ := info_parts Try.info3
  have H1 := hide hi0
  have H2 := hide hz0
  have H3 := hide hz1
  have H4 := hide hz2
  clear hi0 hz0 hz1 hz2
  have t1 : decide ((n : Int) < 1) = false := by simp; omega
  have t2 : decide ((64 : Int) < (n : Int)) = false := by simp; omega
  obtain ⟨v, hv⟩ : ∃ v, Hid (w.alloc (.cells zeros2 29) = v) := ⟨_, rfl⟩
  have hvs : v.heap.size = w.heap.size + 1 := by rw [← hv.out]; simp
  have XV : Hid (EBox v w.heap.size zeros2) := by show EBox _ _ _; rw [← hv.out]; exact EBox.new w _
  have BV : Hid (Below w.heap.size w v) := by show Below _ _ _; rw [← hv.out]; exact (Below.refl _ _).alloc (Nat.le_refl _) _
  have L0 : Hid (Lay v ((w.alloc (.cells zeros2 29)).alloc (.cells zeros2 29)) (w.heap.size + 2) (w.heap.size + 1) 0 none 0 0 (List.replicate 0 (-1))) := by
    show Lay _ _ _ _ _ _ _ _ _
    have e := hv.out
    rw [e]
    exact ⟨(Below.refl _ _).alloc (Nat.le_refl _) _, by omega, by rw [← hvs]; exact EBox.new v _, Row.nil _ _, by omega, by simp; omega⟩
  go_enter Try.func38, Try.ntmps38
  go_wp2
  go_loopw [14] (fun i wr => ∃ (k : Nat) (A : Option Addr) (c : Nat), k ≤ n ∧ i = .int .i64 k ∧ Hid (Lay v wr (w.heap.size + 2) (w.heap.size + 1) 0 A k c (List.replicate k (-1)))) (fun i _ => n - (intOf i).toNat)
  case atStart => exact ⟨0, none, 0, by omega, rfl, L0⟩
  case round =>
    obtain ⟨k, A, c, hk, rfl, L1⟩ := hrel
    clear L0
    have hc := L1.out.box.cells
    have hl := L1.out.box.lt
    by_cases hlt : k < n
    · have LA := hide (L1.out.alloc (.cells #[.int .i64 (-1)] 3))
      have NA := hide (lit_nums wr (-1))
      go_wp2_with (at_builtin; refine wpList_append_nums _ rfl _ _ 24 rfl (w.heap.size + 2) 3 i0 (.int .i64 0) 1 8 Try.underlying24 H1.out H2.out H3.out H4.out rfl (by decide) _ k (List.replicate k (-1)) rfl LA.out.row.1 (some ⟨wr.heap.size, 0, none⟩) 1 1 _ [-1] rfl (fun h => by cases h) NA.out (by simp only [maxLen]; omega) (by omega) LA.out.le ?_; intro v1 w2 hown hb; obtain ⟨A1, c1, rfl, hA1⟩ := own_form hown; have HG := hide (LA.out.grown hown hA1 hb); have hcb := HG.out.1.cells; have hlb := HG.out.1.lt; have hfb := HG.out.1.frozen; clear hown hb hA1)
      go_roundw
      case rel => exact ⟨k + 1, A1, c1, by omega, by go_num, by show Lay _ _ _ _ _ _ _ _ _; rw [← more_negs]; exact HG.out.2⟩
      case measure => simp [intOf]; omega
    · obtain rfl : k = n := by omega
      have X1 := hide (XV.out.below L1.out.bel (by omega))
      have B1 := hide (BV.out.trans (L1.out.bel.mono (by omega)))
      obtain ⟨y0, f0, y1, f1⟩ := zero_cells X1.out
      have hl2 := X1.out.lt
      have HR := hide (set2_row L1.out.row X1.out (.int .i64 0) (.slice A k c))
      go_wp2
      exact bodyPost_ret (results_row_one rfl _ _ w.heap.size 29 _ (0, 0) _ rfl (set2_box X1.out _ _) Try.underlying29 rfl Try.size29) rfl ⟨A, k, c, rfl, HR.out.less (by omega), set2_below B1.out (Nat.le_refl _) _ _⟩

/-- Both News tell the same. -/
theorem new_any (n : Int) : ∃ (zs : List Int) (e : Int), (∀ w, Calls Try.prog 35 #[.int .i64 n] w (Tell2 w 0 zs (.int .i64 e))) ∧ (∀ w, Calls Try.prog 38 #[.int .i64 n] w (Tell2 w 0 zs (.int .i64 e))) ∧ zs.length ≤ 64 := by
  by_cases h : 1 ≤ n ∧ n ≤ 64
  · obtain ⟨k, rfl⟩ : ∃ k : Nat, n = (k : Int) := ⟨n.toNat, by omega⟩
    exact ⟨List.replicate k (-1), 0, fun w => new_ok k w (by omega) (by omega), fun w => rnew_ok k w (by omega) (by omega), by simp; omega⟩
  · have h' : n < 1 ∨ 64 < n := by omega
    exact ⟨[], 1, fun w => new_no n w h', fun w => rnew_no n w h', by simp⟩

end Go.Proofs.Ythficfmakbblkaa.Era

/- An era that stands in a box; the chapter's example is live. -/
namespace Go.Proofs.Ythficfmakbblkaa.Era
open Go.RowKit
set_option linter.unusedVariables false

/-- In world u block h is the box of an era, which reads as zs; what lay below w's end is as it was. -/
structure Stand (w u : World) (h : Nat) (t : Int) (A : Option Addr) (n c : Nat) (zs : List Int) : Prop where
  bel : Below w.heap.size w u
  ge : w.heap.size ≤ h
  box : EBox u h (C2 t A n c)
  reads : Reads u u.heap.size A n c zs
section
variable {w u u' : World} {h n c n' c' B : Nat} {t t' : Int} {A A' : Option Addr} {zs zs' : List Int}
theorem Stand.first (b : Below w.heap.size w u) (r : Row u B A n c zs) (t : Int) : Stand w (u.alloc (.cells (C2 t A n c) 29)) u.heap.size t A n c zs :=
  ⟨b.alloc b.size _, b.size, EBox.new u _, (r.alloc _).reads⟩
theorem Stand.next (s : Stand w u h t A n c zs) (r : Row u' u.heap.size A' n' c' zs') (b : Below u.heap.size u u') (t' : Int) :
    Stand w ((u'.setCell ⟨h, 0, none⟩ (.int .i64 t')).setCell ⟨h, 1, none⟩ (.slice A' n' c')) h t' A' n' c' zs' :=
  ⟨set2_below (next_call s.bel (Nat.le_refl _) b) s.ge _ _, s.ge, set2_box (s.box.step b) _ _, (set2_row r (s.box.step b) _ _).reads⟩
theorem Stand.step (s : Stand w u h t A n c zs) (b : Below u.heap.size u u') : Stand w u' h t A n c zs := ⟨next_call s.bel (Nat.le_refl _) b, s.ge, s.box.step b, s.reads.step b⟩
theorem Stand.alloc (s : Stand w u h t A n c zs) (o : Obj) : Stand w (u.alloc o) h t A n c zs := s.step ((Below.refl _ _).alloc (Nat.le_refl _) _)
/-- One that came in, behind its box. -/
theorem stand_in (t : Int) (r : Reads w w.heap.size A n c zs) : Stand w (w.alloc (.cells (C2 t A n c) 29)) w.heap.size t A n c zs :=
  ⟨(Below.refl _ _).alloc (Nat.le_refl _) _, Nat.le_refl _, EBox.new w _, r.step ((Below.refl _ _).alloc (Nat.le_refl _) _)⟩
theorem yes_of {p : Prop} (h : p) : Hid (true = true ↔ p) := ⟨fun _ => h, fun _ => rfl⟩
theorem no_of {p : Prop} (h : ¬ p) : Hid (false = true ↔ p) := ⟨(fun h => by cases h), fun hp => absurd hp h⟩
theorem bool_of (p : Prop) [Decidable p] : ∃ b : Bool, Hid (b = true ↔ p) := ⟨decide p, by show _ ↔ _; simp⟩
end

theorem ok0 : Ok 0 [-1, -1] := by decide
theorem ok1 : Ok 0 [-1, 0] := by decide
theorem ok2 : Ok 1 [-1, 0] := by decide
theorem in1 : Step 0 [-1, 0] := by decide
theorem out2 : ¬ Step 1 [-1, 0] := by decide

section
variable (A : Option Addr) (n c B : Nat) (w : World)
theorem live_new : Calls Try.prog 35 #[.int .i64 2] w (Tell2 w 0 [-1, -1] (.int .i64 0)) := new_ok 2 w (by omega) (by omega)
theorem live_pin (hr : Reads w B A n c [-1, -1]) (hB : B ≤ w.heap.size) : Calls Try.prog 56 #[V2 0 A n c, .int .i64 1] w (Tell2 w 0 [-1, 0] (.int .i64 0)) := by
  have h := pin_any 0 A n c B [-1, -1] true 1 w hr hB (yes_of ok0)
  have e : pinE true [-1, -1] 1 = 0 := by decide
  rw [show pinT true 0 [-1, -1] 1 = 0 by decide, show pinZ true 0 [-1, -1] 1 = [-1, 0] by decide, e] at h
  exact h
theorem live_turn (hr : Reads w B A n c [-1, 0]) (hB : B ≤ w.heap.size) : Calls Try.prog 59 #[V2 0 A n c] w (Tell2 w 1 [-1, 0] (.bool true)) := by
  have h := turn_any 0 A n c B [-1, 0] true true w hr hB (yes_of ok1) (yes_of in1)
  rw [show turnT true true 0 = 1 by decide, show turnZ true [-1, 0] = [-1, 0] by decide, show turnB true true 0 = true by decide] at h
  exact h
theorem live_stuck (hr : Reads w B A n c [-1, 0]) (hB : B ≤ w.heap.size) : Calls Try.prog 59 #[V2 1 A n c] w (Tell2 w 1 [-1, 0] (.bool false)) := by
  have h := turn_any 1 A n c B [-1, 0] true false w hr hB (yes_of ok2) (no_of out2)
  rw [show turnT true false 1 = 1 by decide, show turnZ true [-1, 0] = [-1, 0] by decide, show turnB true false 1 = false by decide] at h
  exact h
end

end Go.Proofs.Ythficfmakbblkaa.Era
