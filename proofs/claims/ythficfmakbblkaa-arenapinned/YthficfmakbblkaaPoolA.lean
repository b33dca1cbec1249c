/- Layer 5's contracts, first part. (Several texts, one behind the other.) -/
import Derived.Below
import Derived.OwnWalk
import Derived.Laws.OwnMore
import Derived.Laws.AppendOwnNone
import Derived.Deep.AppendLies
import Derived.Deep.Draws
import Derived.Test.YthficfmakbblkaaRows
import Derived.WalkKit
import Derived.Laws.Rows
import Derived.Deep.QuietTactic
import Derived.BigQuiet
import Derived.Lib.SliceRun
import Derived.Laws.Tables
import Derived.Deep.RegionHeld3
import Derived.RegionTactic
import Derived.Deep.DeepCutAuto
import Derived.Laws.MakeOwn

/- Words for layer 5's proofs: a slice whose cells are numbers (numbers themselves, operations of five, arrays of five), read flat; one that is the call's own; how both are kept. No conditions. -/
namespace Go.Proofs.Ythficfmakbblkaa.Pool
open Go.RowKit

theorem hide {p : Prop} (h : p) : Hid p := h

abbrev ints (zs : List Int) : List Value := zs.map (Value.int .i64)

/-- The slice at A, of n elements of s cells each, reads flat as zs and lies below block B (nothing is asked of the address of an empty one). -/
def Nums (w : World) (B s : Nat) (A : Option Addr) (n : Nat) (zs : List Int) : Prop :=
  zs.length = n * s ∧ (0 < n → ∃ b off, A = some ⟨b, off, none⟩ ∧ b < B ∧ ∀ i, i < n * s → w.cell? ⟨b, off + i, none⟩ = some (.int .i64 (zs.getD i 0)))

section
variable {w w' : World} {B B' s n : Nat} {A : Option Addr} {zs : List Int}

theorem Nums.nil : Nums w B s A 0 [] := ⟨by simp, fun h => absurd h (by omega)⟩

theorem Nums.below (h : Nums w B s A n zs) (hb : Below B' w w') (hB : B ≤ B') : Nums w' B s A n zs :=
  ⟨h.1, fun hn => by
    obtain ⟨b, off, e, hlt, hc⟩ := h.2 hn
    exact ⟨b, off, e, hlt, fun i hi => (hb.cell (p := ⟨b, off + i, none⟩) (Nat.lt_of_lt_of_le hlt hB)).trans (hc i hi)⟩⟩

theorem Nums.more (h : Nums w B s A n zs) (hB : B ≤ B') : Nums w B' s A n zs :=
  ⟨h.1, fun hn => by
    obtain ⟨b, off, e, hlt, hc⟩ := h.2 hn
    exact ⟨b, off, e, Nat.lt_of_lt_of_le hlt hB, hc⟩⟩

/-- One number of a slice of numbers. -/
theorem Nums.at_ {k : Nat} (h : Nums w B 1 A n zs) (hk : k < n) : ∃ b off, A = some ⟨b, off, none⟩ ∧ b < B ∧ w.cell? ⟨b, off + k, none⟩ = some (.int .i64 (zs.getD k 0)) := by
  obtain ⟨b, off, e, hlt, hc⟩ := h.2 (by omega)
  exact ⟨b, off, e, hlt, hc k (by omega)⟩

/-- The five numbers of one element. -/
def Five (w : World) (b o : Nat) (zs : List Int) (k : Nat) : Prop :=
  w.cell? ⟨b, o, none⟩ = some (.int .i64 (zs.getD (k * 5) 0)) ∧ w.cell? ⟨b, o + 1, none⟩ = some (.int .i64 (zs.getD (k * 5 + 1) 0)) ∧
  w.cell? ⟨b, o + 2, none⟩ = some (.int .i64 (zs.getD (k * 5 + 2) 0)) ∧ w.cell? ⟨b, o + 3, none⟩ = some (.int .i64 (zs.getD (k * 5 + 3) 0)) ∧
  w.cell? ⟨b, o + 4, none⟩ = some (.int .i64 (zs.getD (k * 5 + 4) 0))

theorem Nums.five {k : Nat} (h : Nums w B 5 A n zs) (hk : k < n) : ∃ b off, A = some ⟨b, off, none⟩ ∧ b < B ∧ Five w b (off + k * 5) zs k := by
  obtain ⟨b, off, e, hlt, hc⟩ := h.2 (by omega)
  exact ⟨b, off, e, hlt, hc _ (by omega), hc (k * 5 + 1) (by omega), hc (k * 5 + 2) (by omega), hc (k * 5 + 3) (by omega), hc (k * 5 + 4) (by omega)⟩

/-- Five numbers in the midst of a slice of numbers. -/
theorem Nums.five1 {k : Nat} (h : Nums w B 1 A n zs) (hk : k * 5 + 5 ≤ n) : ∃ b off, A = some ⟨b, off, none⟩ ∧ b < B ∧ Five w b (off + k * 5) zs k := by
  obtain ⟨b, off, e, hlt, hc⟩ := h.2 (by omega)
  exact ⟨b, off, e, hlt, hc _ (by omega), hc (k * 5 + 1) (by omega), hc (k * 5 + 2) (by omega), hc (k * 5 + 3) (by omega), hc (k * 5 + 4) (by omega)⟩

theorem Nums.cells {ad : Addr} (h : Nums w B s (some ad) n zs) : ∀ j u, (ints zs)[j]? = some u → w.cell? (ad.add j) = some u := by
  intro j u hu
  have hl := h.1
  have hj : j < n * s := by have := (List.getElem?_eq_some_iff.1 hu).1; simpa [hl] using this
  have hn : 0 < n := by rcases Nat.eq_zero_or_pos n with rfl | h0; · simp at hj
                        · exact h0
  obtain ⟨b, off, e, _, hc⟩ := h.2 hn
  have e' : ad = ⟨b, off, none⟩ := by simpa using e
  subst e'
  rw [Addr.add_lit, hc j hj, ← hu]
  simp [List.getD_eq_getElem?_getD, show j < zs.length by omega]

/-- A row of the call's own reads so. -/
theorem own_nums {base e : Nat} {c : Nat} (h : w.ownsRow base e s (.slice A n c) n (ints zs)) : Nums w w.heap.size s A n zs := by
  have hl : zs.length = n * s := by simpa using h.1
  refine ⟨hl, fun hn => ?_⟩
  rcases h.2 with ⟨_, h0⟩ | ⟨g, cap, cur, hv, hb, hg, hc, hm, hs, ht⟩
  · omega
  · have hA : A = some ⟨g, 0, none⟩ := by simp at hv; exact hv.1
    subst hA
    refine ⟨g, 0, rfl, (Array.getElem?_eq_some_iff.1 hg).1, fun i hi => ?_⟩
    rw [Nat.zero_add, cell_of_row w g i cur e (0, 0) hg]
    have e : (cur.toList.take (n * s))[i]? = (ints zs)[i]? := by rw [ht]
    rw [List.getElem?_take, if_pos hi] at e
    rw [← Array.getElem?_toList, e]
    simp [List.getD_eq_getElem?_getD, show i < zs.length by omega]

theorem own_form {base e : Nat} {v : Value} {xs : List Value} (h : w.ownsRow base e s v n xs) : ∃ A c, v = .slice A n c ∧ (A = none → c = 0) := by
  rcases h.2 with ⟨rfl, rfl⟩ | ⟨g, cap, cur, rfl, _⟩
  · exact ⟨none, 0, rfl, fun _ => rfl⟩
  · exact ⟨_, _, rfl, fun h => by cases h⟩

theorem own_below {base e : Nat} {v : Value} {xs : List Value} (h : w.ownsRow base e s v n xs) (hb : Below w.heap.size w w') : w'.ownsRow base e s v n xs := by
  refine ⟨h.1, ?_⟩
  rcases h.2 with h0 | ⟨g, cap, cur, hv, hB, hg, r⟩
  · exact .inl h0
  · exact .inr ⟨g, cap, cur, hv, hB, (hb.block g (Array.getElem?_eq_some_iff.1 hg).1).trans hg, r⟩

end

/-- 'append' of a slice that reads as zs onto a row of the call's own. -/
theorem wpList_append_nums {P : Program} (w : World) {ops : Array Oper} {rest : List Oper} {o : Oper} {a : Act} {Q : Exit → Act → World → Prop} (hgd : o.guard = none) (x y : Operand) (t : TypeId)
    (ho : o.op = .call { callee := .builtin .append, args := #[x, y], argTypes := #[t, t] })
    (base : Nat) (e : TypeId) (i : TypeInfo) (z : Value) (size bytes : Nat) (ht : P.underlying t = some (.slice e)) (hi : P.info? e = some i) (hz : i.zero = some z) (hsize : i.size = size) (hby : i.bytes = bytes) (hzs : z.cells.size = size) (hsz : 0 < size)
    (v : Value) (n : Nat) (ys : List Int) (hs : a.eval x = v) (hown : w.ownsRow base e size v n (ints ys)) (A : Option Addr) (m c B : Nat) (zs : List Int) (hx : a.eval y = .slice A m c) (hc : A = none → c = 0) (hr : Nums w B size A m zs)
    (h63 : n + m ≤ maxLen) (hbytes : (n + m) * bytes ≤ 140737488355328) (hbase : base ≤ w.heap.size)
    (h : ∀ v' w', w'.ownsRow base e size v' (n + m) (ints (ys ++ zs)) → Below base w w' → wpList P ops Q rest (a.put o.dst v') w') : wpList P ops Q (o :: rest) a w := by
  rcases A with _ | ad
  · obtain rfl := hc rfl
    have hn0 : m = 0 := by
      rcases Nat.eq_zero_or_pos m with h0 | h0
      · exact h0
      · obtain ⟨_, _, e, _⟩ := hr.2 h0
        cases e
    subst hn0
    have hzs0 : zs = [] := by have := hr.1; simpa using this
    subst hzs0
    refine wpList_append_own_none hgd x y t ho base e i size ht hi v n (ints ys) hs hown hx ?_
    exact h v w (by simpa using hown) (Below.refl _ _)
  · refine wpList_append_own w hgd x y t ho base e i z size bytes ht hi hz hsize hby hzs hsz v n (ints ys) hs hown ad m c (ints zs) hx (by simpa using hr.1) hr.cells (ints_oneCell _ _) h63 hbytes hbase ?_
    intro v' w' hown' hg _
    refine h v' w' (by simpa using hown') ((Below.refl _ _).grown hg hbase fun j ej => (hown.lt j ej).1)

/-- What a call tells that tells one value, and writes nothing that lay there. -/
def Drew (v : Value) (w : World) (e : Ending) (w' : World) : Prop := e = .returned v ∧ Below w.heap.size w w'
/-- .. one new slice, of elements of s cells of type t, that reads flat as zs. -/
def Told (w : World) (t s : Nat) (zs : List Int) (e : Ending) (w' : World) : Prop :=
  ∃ A n c, e = .returned (.slice A n c) ∧ (A = none → c = 0) ∧ w'.ownsRow w.heap.size t s (.slice A n c) n (ints zs) ∧ Below w.heap.size w w'

theorem Below.drewN {B : Nat} {a w : World} (h : Below B a w) (n : Nat) : Below B a (w.drewN n) := ⟨h.os, h.tape, h.output, h.size, h.block⟩

end Go.Proofs.Ythficfmakbblkaa.Pool

/- What each function of layer 1, which layer 5 stands on answers, for every input: pack and unpack. -/
namespace Go.Proofs.Ythficfmakbblkaa.Pool
open Go.RowKit

theorem ret_two {a b : Int} {x : Value} (h : a = b) : Ending.returned (.tuple #[.int .i64 a, x]) = .returned (.tuple #[.int .i64 b, x]) := by rw [h]

set_option maxHeartbeats 400000 in
theorem pack_ok (a b : Int) (w : World) (h1 : 0 ≤ a) (h2 : a ≤ 1023) (h3 : 0 ≤ b) (h4 : b ≤ 1099511627775) :
    Calls Try.prog 71 #[.int .i64 a, .int .i64 b] w fun e w' => e = .returned (.tuple #[.int .i64 (1 + 1024 * b + a), .int .i64 0]) ∧ w = w' := by
  go_enter Try.func71, Try.ntmps71
  go_wp2
  go_ret2
  exact ⟨rfl, rfl⟩

set_option maxHeartbeats 400000 in
theorem pack_no (a b : Int) (w : World) (h : a < 0 ∨ 1024 ≤ a ∨ b < 0 ∨ 1099511627776 ≤ b) :
    Calls Try.prog 71 #[.int .i64 a, .int .i64 b] w fun e w' => e = .returned (.tuple #[.int .i64 0, .int .i64 1]) ∧ w = w' := by
  by_cases c1 : a < 0
  · clear h
    go_enter Try.func71, Try.ntmps71
    go_wp2
    go_ret2
    exact ⟨rfl, rfl⟩
  by_cases c2 : 1024 ≤ a
  · clear h
    go_enter Try.func71, Try.ntmps71
    go_wp2
    go_ret2
    exact ⟨rfl, rfl⟩
  by_cases c3 : b < 0
  · clear h
    go_enter Try.func71, Try.ntmps71
    go_wp2
    go_ret2
    exact ⟨rfl, rfl⟩
  have c4 : 1099511627776 ≤ b := by omega
  clear h
  go_enter Try.func71, Try.ntmps71
  go_wp2
  go_ret2
  exact ⟨rfl, rfl⟩

set_option maxHeartbeats 400000 in
theorem rpack_ok (a b : Int) (w : World) (h1 : 0 ≤ a) (h2 : a ≤ 1023) (h3 : 0 ≤ b) (h4 : b ≤ 1099511627775) :
    Calls Try.prog 75 #[.int .i64 a, .int .i64 b] w fun e w' => e = .returned (.tuple #[.int .i64 (1 + 1024 * b + a), .int .i64 0]) ∧ w = w' := by
  go_enter Try.func75, Try.ntmps75
  go_wp2
  go_ret2
  exact ⟨rfl, rfl⟩

set_option maxHeartbeats 400000 in
theorem rpack_no (a b : Int) (w : World) (h : a < 0 ∨ 1024 ≤ a ∨ b < 0 ∨ 1099511627776 ≤ b) :
    Calls Try.prog 75 #[.int .i64 a, .int .i64 b] w fun e w' => e = .returned (.tuple #[.int .i64 0, .int .i64 1]) ∧ w = w' := by
  by_cases c1 : a < 0
  · clear h
    go_enter Try.func75, Try.ntmps75
    go_wp2
    go_ret2
    exact ⟨rfl, rfl⟩
  by_cases c2 : 1024 ≤ a
  · clear h
    go_enter Try.func75, Try.ntmps75
    go_wp2
    go_ret2
    exact ⟨rfl, rfl⟩
  by_cases c3 : b < 0
  · clear h
    go_enter Try.func75, Try.ntmps75
    go_wp2
    go_ret2
    exact ⟨rfl, rfl⟩
  have c4 : 1099511627776 ≤ b := by omega
  clear h
  go_enter Try.func75, Try.ntmps75
  go_wp2
  go_ret2
  exact ⟨rfl, rfl⟩

set_option maxHeartbeats 400000 in
theorem unpack_ok (n : Int) (w : World) (h1 : 1 ≤ n) (h2 : n ≤ 1125899906842624) :
    Calls Try.prog 28 #[.int .i64 n] w fun e w' => e = .returned (.tuple #[.int .i64 ((n - 1) % 1024), .int .i64 ((n - 1) / 1024), .int .i64 0]) ∧ w = w' := by
  go_enter Try.func28, Try.ntmps28
  go_wp2
  go_ret3
  exact ⟨rfl, rfl⟩

set_option maxHeartbeats 400000 in
theorem unpack_no (n : Int) (w : World) (h : n < 1 ∨ 1125899906842624 < n) :
    Calls Try.prog 28 #[.int .i64 n] w fun e w' => e = .returned (.tuple #[.int .i64 0, .int .i64 0, .int .i64 1]) ∧ w = w' := by
  by_cases c1 : n < 1
  · clear h
    go_enter Try.func28, Try.ntmps28
    go_wp2
    go_ret3
    exact ⟨rfl, rfl⟩
  have c2 : 1125899906842624 < n := by omega
  clear h
  go_enter Try.func28, Try.ntmps28
  go_wp2
  go_ret3
  exact ⟨rfl, rfl⟩

set_option maxHeartbeats 400000 in
theorem runpack_ok (n : Int) (w : World) (h1 : 1 ≤ n) (h2 : n ≤ 1125899906842624) :
    Calls Try.prog 55 #[.int .i64 n] w fun e w' => e = .returned (.tuple #[.int .i64 ((n - 1) % 1024), .int .i64 ((n - 1) / 1024), .int .i64 0]) ∧ w = w' := by
  go_enter Try.func55, Try.ntmps55
  go_wp2
  go_ret3
  exact ⟨rfl, rfl⟩

set_option maxHeartbeats 400000 in
theorem runpack_no (n : Int) (w : World) (h : n < 1 ∨ 1125899906842624 < n) :
    Calls Try.prog 55 #[.int .i64 n] w fun e w' => e = .returned (.tuple #[.int .i64 0, .int .i64 0, .int .i64 1]) ∧ w = w' := by
  by_cases c1 : n < 1
  · clear h
    go_enter Try.func55, Try.ntmps55
    go_wp2
    go_ret3
    exact ⟨rfl, rfl⟩
  have c2 : 1125899906842624 < n := by omega
  clear h
  go_enter Try.func55, Try.ntmps55
  go_wp2
  go_ret3
  exact ⟨rfl, rfl⟩

end Go.Proofs.Ythficfmakbblkaa.Pool

/- Words for layer 5's proofs: a pool as a value (four slices of numbers), what it reads as, its box. No conditions. -/
namespace Go.Proofs.Ythficfmakbblkaa.Pool
open Go.RowKit

/-- The four slices of a pool: where they lie, how many they are, their room. -/
structure Pl where
  (A0 A1 A2 A3 : Option Addr)
  (n0 n1 n2 n3 c0 c1 c2 c3 : Nat)

abbrev V4 (A0 A1 A2 A3 : Option Addr) (n0 n1 n2 n3 c0 c1 c2 c3 : Nat) : Value := .agg #[.slice A0 n0 c0, .slice A1 n1 c1, .slice A2 n2 c2, .slice A3 n3 c3]
abbrev Pl.val (p : Pl) : Value := V4 p.A0 p.A1 p.A2 p.A3 p.n0 p.n1 p.n2 p.n3 p.c0 p.c1 p.c2 p.c3
abbrev C4 (A0 A1 A2 A3 : Option Addr) (n0 n1 n2 n3 c0 c1 c2 c3 : Nat) : Array Value := #[.slice A0 n0 c0, .slice A1 n1 c1, .slice A2 n2 c2, .slice A3 n3 c3]

/-- The four lists. -/
structure PL where
  (G S W F : List Int)

/-- The pool p reads as P, and lies below block B. -/
structure Reads (u : World) (B : Nat) (p : Pl) (P : PL) : Prop where
  g : Nums u B 1 p.A0 p.n0 P.G
  s : Nums u B 1 p.A1 p.n1 P.S
  t : Nums u B 1 p.A2 p.n2 P.W
  f : Nums u B 1 p.A3 p.n3 P.F
  zg : p.A0 = none → p.c0 = 0
  zs : p.A1 = none → p.c1 = 0
  zw : p.A2 = none → p.c2 = 0
  zf : p.A3 = none → p.c3 = 0

/-- .. and is not great. -/
structure Small (p : Pl) : Prop where
  n0 : p.n0 ≤ 200
  n1 : p.n1 ≤ 200
  n2 : p.n2 ≤ 200
  n3 : p.n3 ≤ 200

section
variable {w w' : World} {B B' : Nat} {p : Pl} {P : PL}
theorem Reads.below (h : Reads w B p P) (hb : Below B' w w') (hB : B ≤ B') : Reads w' B p P := ⟨h.g.below hb hB, h.s.below hb hB, h.t.below hb hB, h.f.below hb hB, h.zg, h.zs, h.zw, h.zf⟩
theorem Reads.more (h : Reads w B p P) (hB : B ≤ B') : Reads w B' p P := ⟨h.g.more hB, h.s.more hB, h.t.more hB, h.f.more hB, h.zg, h.zs, h.zw, h.zf⟩
end

/-- Block g is the box of a pool. -/
def PBox (u : World) (g : Nat) (cs : Array Value) : Prop := u.heap[g]? = some (.cells cs 26 (0, 0))

section
variable {u u' : World} {g : Nat} {cs : Array Value}
theorem PBox.lt (h : PBox u g cs) : g < u.heap.size := (Array.getElem?_eq_some_iff.1 h).1
theorem PBox.cells (h : PBox u g cs) : ∀ i, u.cell? ⟨g, i, none⟩ = cs[i]? := fun i => cell_of_row u g i _ 26 (0, 0) h
theorem PBox.below {B : Nat} (h : PBox u g cs) (hb : Below B u u') (hg : g < B) : PBox u' g cs := (hb.block g hg).trans h
theorem PBox.alloc (h : PBox u g cs) (o : Obj) : PBox (u.alloc o) g cs := (Below.heap_alloc u o g h.lt).trans h
theorem PBox.new (u : World) (cs : Array Value) : PBox (u.alloc (.cells cs 26)) u.heap.size cs := heap_alloc_new u _
theorem PBox.step (h : PBox u g cs) (hb : Below u.heap.size u u') : PBox u' g cs := h.below hb h.lt
theorem PBox.set (h : PBox u g cs) (i : Nat) (v : Value) : PBox (u.setCell ⟨g, i, none⟩ v) g (cs.setIfInBounds i v) := heap_setCell_same u g i cs 26 v h
theorem PBox.other (h : PBox u g cs) {k i : Nat} (hk : k ≠ g) (v : Value) : PBox (u.setCell ⟨k, i, none⟩ v) g cs := (Below.heap_setCell u ⟨k, i, none⟩ v g (by simpa using hk.symm)).trans h
theorem PBox.frozen (h : PBox u g cs) : ∀ i, u.frozen? ⟨g, i, none⟩ = false := fun i => frozen_of_row u g i cs 26 h
end

/-- Behind a call that was made behind one new block. -/
theorem one_call {w u : World} {o : Obj} (h : Below (w.alloc o).heap.size (w.alloc o) u) : Below w.heap.size w u :=
  ((Below.refl _ _).alloc (Nat.le_refl _) _).trans (h.mono (by simp))

/-- Behind a further one. -/
theorem next_call {w u u' : World} {B : Nat} (h : Below B w u) (hB : B ≤ w.heap.size) (h' : Below u.heap.size u u') : Below B w u' :=
  h.trans (h'.mono (Nat.le_trans hB h.size))

end Go.Proofs.Ythficfmakbblkaa.Pool

/- Plain mathematics of pools: when one may be, and the ways in which the code and the document ask it. -/
namespace Go.Proofs.Ythficfmakbblkaa.Pool

/-- What is asked of a slot. -/
def SlotOk (g s z : Int) : Prop := 0 ≤ g ∧ g < 1099511627776 ∧ ((s = 0 ∨ s = 1) ∧ z = 0 ∨ s = 2)
/-- What is asked of Free: all free slots, each once. -/
def FreeOk (S F : List Int) : Prop :=
  (∀ x ∈ F, 0 ≤ x ∧ x < (S.length : Int) ∧ S.getD x.toNat 0 = 0) ∧ F.Nodup ∧ ∀ k : Nat, k < S.length → S.getD k 0 = 0 → (k : Int) ∈ F
/-- A pool may be. -/
def MayBe (P : PL) : Prop :=
  1 ≤ P.G.length ∧ P.G.length ≤ 64 ∧ P.S.length = P.G.length ∧ P.W.length = P.G.length ∧
  (∀ k, k < P.G.length → SlotOk (P.G.getD k 0) (P.S.getD k 0) (P.W.getD k 0)) ∧ FreeOk P.S P.F

/-- The code's way: each slot is struck off. -/
def freeB (n : Nat) : List Int → List Int → Bool
  | L, [] => !L.contains 0
  | L, x :: xs => decide (0 ≤ x ∧ x < (n : Int) ∧ L.getD x.toNat 0 = 0) && freeB n (L.set x.toNat 1) xs

theorem getD_set (zs : List Int) (k i : Nat) (x : Int) (hk : k < zs.length) : (zs.set k x).getD i 0 = if k = i then x else zs.getD i 0 := by
  simp only [List.getD_eq_getElem?_getD, List.getElem?_set]
  by_cases h : k = i
  · subst h; simp [hk]
  · simp [h]

theorem mem_zero (L : List Int) : (0 : Int) ∈ L ↔ ∃ k : Nat, k < L.length ∧ L.getD k 0 = 0 := by
  constructor
  · intro h
    obtain ⟨k, hk, e⟩ := List.getElem_of_mem h
    exact ⟨k, hk, by simp [List.getD_eq_getElem?_getD, hk, e]⟩
  · rintro ⟨k, hk, e⟩
    have : L[k] = 0 := by simpa [List.getD_eq_getElem?_getD, hk] using e
    rw [← this]
    exact List.getElem_mem hk

theorem freeB_iff (n : Nat) (L F : List Int) (hn : L.length = n) : freeB n L F = true ↔ FreeOk L F := by
  subst hn
  induction F generalizing L with
  | nil =>
    simp only [freeB, FreeOk, Bool.not_eq_true', List.contains_eq_mem, decide_eq_false_iff_not, mem_zero]
    simp
  | cons x xs ih =>
    have e : (L.set x.toNat 1).length = L.length := by simp
    rw [freeB, Bool.and_eq_true, decide_eq_true_eq, ← e, ih]
    simp only [FreeOk, List.length_set]
    constructor
    · rintro ⟨⟨h0, h1, h2⟩, g1, g2, g3⟩
      have hx : x.toNat < L.length := by omega
      refine ⟨?_, ?_, ?_⟩
      · intro y hy
        rcases List.mem_cons.1 hy with rfl | hy
        · exact ⟨h0, h1, h2⟩
        · obtain ⟨a, b, c⟩ := g1 y hy
          rw [getD_set _ _ _ _ hx] at c
          split at c
          · omega
          · exact ⟨a, b, c⟩
      · refine List.nodup_cons.2 ⟨fun hmem => ?_, g2⟩
        have := (g1 x hmem).2.2
        rw [getD_set _ _ _ _ hx, if_pos rfl] at this
        omega
      · intro k hk hz
        by_cases hkx : x.toNat = k
        · subst hkx
          exact List.mem_cons.2 (.inl (by omega))
        · exact List.mem_cons.2 (.inr (g3 k hk (by rw [getD_set _ _ _ _ hx, if_neg hkx]; exact hz)))
    · rintro ⟨g1, g2, g3⟩
      obtain ⟨h0, h1, h2⟩ := g1 x (by simp)
      have hx : x.toNat < L.length := by omega
      have hn := List.nodup_cons.1 g2
      refine ⟨⟨h0, h1, h2⟩, ?_, hn.2, ?_⟩
      · intro y hy
        obtain ⟨a, b, c⟩ := g1 y (by simp [hy])
        refine ⟨a, b, ?_⟩
        rw [getD_set _ _ _ _ hx, if_neg]
        · exact c
        · intro h
          exact hn.1 ((show y = x by omega) ▸ hy)
      · intro k hk hz
        rw [getD_set _ _ _ _ hx] at hz
        split at hz
        · omega
        · rename_i hkx
          rcases List.mem_cons.1 (g3 k hk hz) with h | h
          · omega
          · exact h

/-- How many of F are slots below k. -/
def metSum (F : List Int) : Nat → Nat
  | 0 => 0
  | k + 1 => metSum F k + F.count (k : Int)

theorem metSum_eq (F : List Int) (k : Nat) : metSum F k = (F.filter fun x => decide (0 ≤ x ∧ x < (k : Int))).length := by
  induction k with
  | zero =>
    rw [metSum]
    symm
    rw [List.length_eq_zero_iff, List.filter_eq_nil_iff]
    intro x _
    simp
  | succ k ih =>
    rw [metSum, ih]
    clear ih
    induction F with
    | nil => rfl
    | cons x xs ih =>
      simp only [List.filter_cons, List.count_cons]
      by_cases h1 : 0 ≤ x ∧ x < (k : Int)
      · have h2 : 0 ≤ x ∧ x < ((k + 1 : Nat) : Int) := by omega
        have h3 : (x == (k : Int)) = false := by simp; omega
        rw [if_pos (decide_eq_true h1), if_pos (decide_eq_true h2), h3, List.length_cons, List.length_cons]
        simp only [Bool.false_eq_true, if_false]
        omega
      · by_cases h3 : x = (k : Int)
        · have h2 : 0 ≤ x ∧ x < ((k + 1 : Nat) : Int) := by omega
          have h4 : (x == (k : Int)) = true := by simpa using h3
          rw [if_neg (by simpa using h1), if_pos (decide_eq_true h2), h4, List.length_cons]
          simp only [if_true]
          omega
        · have h2 : ¬ (0 ≤ x ∧ x < ((k + 1 : Nat) : Int)) := by omega
          have h4 : (x == (k : Int)) = false := by simpa using h3
          simp only [decide_eq_false h1, decide_eq_false h2, h4, Bool.false_eq_true, if_false]
          omega

/-- The document's way: each slot is counted. -/
theorem met_iff (S F : List Int) : ((∀ k : Nat, k < S.length → F.count (k : Int) ≤ 1 ∧ (F.count (k : Int) = 1 ↔ S.getD k 0 = 0)) ∧ metSum F S.length = F.length) ↔ FreeOk S F := by
  rw [metSum_eq]
  constructor
  · rintro ⟨h1, h2⟩
    have hall : ∀ x ∈ F, 0 ≤ x ∧ x < (S.length : Int) := by
      have := List.length_filter_eq_length_iff.1 h2
      intro x hx
      simpa using this x hx
    refine ⟨fun x hx => ?_, ?_, ?_⟩
    · obtain ⟨a, b⟩ := hall x hx
      refine ⟨a, b, ?_⟩
      obtain ⟨q, r⟩ := h1 x.toNat (by omega)
      apply r.1
      have e : ((x.toNat : Nat) : Int) = x := by omega
      rw [e] at q ⊢
      have := List.count_pos_iff.2 hx
      omega
    · rw [List.nodup_iff_count]
      intro x
      by_cases hx : x ∈ F
      · obtain ⟨a, b⟩ := hall x hx
        have := (h1 x.toNat (by omega)).1
        rwa [show ((x.toNat : Nat) : Int) = x by omega] at this
      · rw [List.count_eq_zero.2 hx]; omega
    · intro k hk hz
      have := (h1 k hk).2.2 hz
      exact List.count_pos_iff.1 (by omega)
  · rintro ⟨g1, g2, g3⟩
    refine ⟨fun k hk => ⟨List.nodup_iff_count.1 g2 _, ?_⟩, ?_⟩
    · constructor
      · intro hc
        have := (g1 k (List.count_pos_iff.1 (by omega))).2.2
        simpa using this
      · intro hz
        have h1 := List.count_pos_iff.2 (g3 k hk hz)
        have h2 := List.nodup_iff_count.1 g2 (k : Int)
        omega
    · rw [List.length_filter_eq_length_iff]
      intro x hx
      obtain ⟨a, b, _⟩ := g1 x hx
      simp [a, b]

end Go.Proofs.Ythficfmakbblkaa.Pool

/- What isSize, isSlot, isGen and slotMayBe tell. -/
namespace Go.Proofs.Ythficfmakbblkaa.Pool
open Go.RowKit
set_option linter.unusedVariables false

set_option maxHeartbeats 400000 in
theorem isSize_yes (n : Int) (w : World) (h1 : 1 ≤ n) (h2 : n ≤ 64) :
    Calls Try.prog 69 #[.int .i64 n] w fun e w' => e = .returned (.bool true) ∧ w = w' := by
  have d1 : decide (1 ≤ n) = true := by simpa using h1
  have d2 : decide (n ≤ 64) = true := by simpa using h2
  go_enter Try.func69, Try.ntmps69
  go_wp2
  go_ret
  exact ⟨rfl, rfl⟩

set_option maxHeartbeats 400000 in
theorem isSize_no (n : Int) (w : World) (h : n < 1 ∨ 64 < n) :
    Calls Try.prog 69 #[.int .i64 n] w fun e w' => e = .returned (.bool false) ∧ w = w' := by
  by_cases c1 : n < 1
  · clear h
    have d1 : decide (1 ≤ n) = false := by simp; omega
    go_enter Try.func69, Try.ntmps69
    go_wp2
    go_ret
    exact ⟨rfl, rfl⟩
  have c2 : 64 < n := by omega
  clear h
  have d1 : decide (1 ≤ n) = true := by simp; omega
  have d2 : decide (n ≤ 64) = false := by simp; omega
  go_enter Try.func69, Try.ntmps69
  go_wp2
  go_ret
  exact ⟨rfl, rfl⟩

set_option maxHeartbeats 400000 in
theorem isSlot_yes (A0 A1 A2 A3 : Option Addr) (n0 n1 n2 n3 c0 c1 c2 c3 : Nat) (k : Int) (w : World) (h1 : 0 ≤ k) (h2 : k < (n0 : Int)) (hn : n0 ≤ 200) :
    Calls Try.prog 76 #[V4 A0 A1 A2 A3 n0 n1 n2 n3 c0 c1 c2 c3, .int .i64 k] w (Drew (.bool true) w) := by
  have d1 : decide (0 ≤ k) = true := by simpa using h1
  have d2 : decide (k < (n0 : Int)) = true := by simpa using h2
  go_enter Try.func76, Try.ntmps76
  go_wp2
  go_ret
  exact ⟨rfl, (Below.refl _ _).alloc (Nat.le_refl _) _⟩

set_option maxHeartbeats 400000 in
theorem isSlot_no (A0 A1 A2 A3 : Option Addr) (n0 n1 n2 n3 c0 c1 c2 c3 : Nat) (k : Int) (w : World) (h : k < 0 ∨ (n0 : Int) ≤ k) (hn : n0 ≤ 200) :
    Calls Try.prog 76 #[V4 A0 A1 A2 A3 n0 n1 n2 n3 c0 c1 c2 c3, .int .i64 k] w (Drew (.bool false) w) := by
  by_cases c1 : k < 0
  · clear h
    have d1 : decide (0 ≤ k) = false := by simp; omega
    go_enter Try.func76, Try.ntmps76
    go_wp2
    go_ret
    exact ⟨rfl, (Below.refl _ _).alloc (Nat.le_refl _) _⟩
  have c2 : (n0 : Int) ≤ k := by omega
  clear h
  have d1 : decide (0 ≤ k) = true := by simp; omega
  have d2 : decide (k < (n0 : Int)) = false := by simp; omega
  go_enter Try.func76, Try.ntmps76
  go_wp2
  go_ret
  exact ⟨rfl, (Below.refl _ _).alloc (Nat.le_refl _) _⟩

set_option maxHeartbeats 400000 in
theorem isGen_yes (a b : Int) (w : World) (h1 : 0 ≤ a) (h2 : a ≤ 1023) (h3 : 0 ≤ b) (h4 : b ≤ 1099511627775) :
    Calls Try.prog 83 #[.int .i64 a, .int .i64 b] w fun e w' => e = .returned (.bool true) ∧ w = w' := by
  go_enter Try.func83, Try.ntmps83
  go_wp2_with fail
  refine (pack_ok _ _ _ h1 h2 h3 h4).mono ?_
  rintro e w' ⟨rfl, rfl⟩
  go_wp2
  go_ret
  exact ⟨rfl, rfl⟩

set_option maxHeartbeats 400000 in
theorem isGen_no (a b : Int) (w : World) (h : Hid (a < 0 ∨ 1024 ≤ a ∨ b < 0 ∨ 1099511627776 ≤ b)) :
    Calls Try.prog 83 #[.int .i64 a, .int .i64 b] w fun e w' => e = .returned (.bool false) ∧ w = w' := by
  go_enter Try.func83, Try.ntmps83
  go_wp2_with fail
  refine (pack_no _ _ _ h.out).mono ?_
  rintro e w' ⟨rfl, rfl⟩
  go_wp2
  go_ret
  exact ⟨rfl, rfl⟩


set_option maxHeartbeats 1000000 in
theorem slotMayBe_any (b0 o0 b1 o1 b2 o2 : Nat) (A3 : Option Addr) (n0 n3 c0 c1 c2 c3 k : Nat) (g s z : Int) (b : Bool) (w : World) (h0 : b0 < w.heap.size) (h1 : b1 < w.heap.size) (h2 : b2 < w.heap.size)
    (hk : k < n0) (hn : n0 ≤ 64)
    (hg : w.cell? ⟨b0, o0 + k, none⟩ = some (.int .i64 g)) (hs : w.cell? ⟨b1, o1 + k, none⟩ = some (.int .i64 s)) (hz : w.cell? ⟨b2, o2 + k, none⟩ = some (.int .i64 z)) (hb : Hid (b = true ↔ SlotOk g s z)) :
    Calls Try.prog 84 #[V4 (some ⟨b0, o0, none⟩) (some ⟨b1, o1, none⟩) (some ⟨b2, o2, none⟩) A3 n0 n0 n0 n3 c0 c1 c2 c3, .int .i64 (k : Int)] w (Drew (.bool b) w) := by
  have HB := hide ((Below.refl w.heap.size w).alloc (Nat.le_refl _) (.cells (C4 (some ⟨b0, o0, none⟩) (some ⟨b1, o1, none⟩) (some ⟨b2, o2, none⟩) A3 n0 n0 n0 n3 c0 c1 c2 c3) 26))
  by_cases hgen : 0 ≤ g ∧ g < 1099511627776
  · obtain ⟨hg1, hg2⟩ := hgen
    by_cases s0 : s = 0
    · subst s0
      obtain rfl : b = (z == 0) := by have := hb.out; simp only [SlotOk] at this; cases b <;> simp at this ⊢ <;> omega
      go_enter Try.func84, Try.ntmps84
      go_wp2_with fail
      refine (isGen_yes _ _ _ (by omega) (by omega) (by omega) (by omega)).mono ?_
      rintro e w' ⟨rfl, rfl⟩
      go_wp2
      go_ret
      exact ⟨rfl, HB.out⟩
    by_cases s1 : s = 1
    · subst s1
      obtain rfl : b = (z == 0) := by have := hb.out; simp only [SlotOk] at this; cases b <;> simp at this ⊢ <;> omega
      go_enter Try.func84, Try.ntmps84
      go_wp2_with fail
      refine (isGen_yes _ _ _ (by omega) (by omega) (by omega) (by omega)).mono ?_
      rintro e w' ⟨rfl, rfl⟩
      go_wp2
      go_ret
      exact ⟨rfl, HB.out⟩
    by_cases s2 : s = 2
    · subst s2
      obtain rfl : b = true := by have := hb.out; simp only [SlotOk] at this; cases b <;> simp at this ⊢; omega
      go_enter Try.func84, Try.ntmps84
      go_wp2_with fail
      refine (isGen_yes _ _ _ (by omega) (by omega) (by omega) (by omega)).mono ?_
      rintro e w' ⟨rfl, rfl⟩
      go_wp2
      go_ret
      exact ⟨rfl, HB.out⟩
    · obtain rfl : b = false := by have := hb.out; simp only [SlotOk] at this; cases b <;> simp at this ⊢; omega
      have t0 : (s == 0) = false := by simpa using s0
      have t1 : (s == 1) = false := by simpa using s1
      have t2 : (s == 2) = false := by simpa using s2
      clear s0 s1 s2
      go_enter Try.func84, Try.ntmps84
      go_wp2_with fail
      refine (isGen_yes _ _ _ (by omega) (by omega) (by omega) (by omega)).mono ?_
      rintro e w' ⟨rfl, rfl⟩
      go_wp2
      go_ret
      exact ⟨rfl, HB.out⟩
  · obtain rfl : b = false := by have := hb.out; simp only [SlotOk] at this; cases b <;> simp at this ⊢; omega
    have HG : Hid ((k : Int) < 0 ∨ 1024 ≤ (k : Int) ∨ g < 0 ∨ 1099511627776 ≤ g) := by show _ ∨ _; omega
    clear hgen
    go_enter Try.func84, Try.ntmps84
    go_wp2_with fail
    refine (isGen_no _ _ _ HG).mono ?_
    rintro e w' ⟨rfl, rfl⟩
    go_wp2
    go_ret
    exact ⟨rfl, HB.out⟩

end Go.Proofs.Ythficfmakbblkaa.Pool

/- What slices.Clone, slices.Index and slices.Contains tell, and the document's Copy and Same, of numbers; Few. -/
namespace Go.Proofs.Ythficfmakbblkaa.Pool
open Go.RowKit
set_option linter.unusedVariables false

theorem Try.info3 : (Try.prog.info? 3).map (fun i => (i.zero, i.size, i.bytes)) = some (some (.int .i64 0), 1, 8) := by kernel_rfl

/-- A told slice of numbers. -/
def Tell (w : World) (n : Nat) (zs : List Int) (e : Ending) (w' : World) : Prop :=
  ∃ A c, e = .returned (.slice A n c) ∧ (A = none → c = 0) ∧ w'.ownsRow w.heap.size 3 1 (.slice A n c) n (ints zs) ∧ Below w.heap.size w w'

theorem own_len {u : World} {B e s n m : Nat} {A : Option Addr} {c : Nat} {xs : List Value} (h : u.ownsRow B e s (.slice A n c) m xs) : n = m := by
  rcases h.2 with ⟨h1, h2⟩ | ⟨g, cap, cur, h1, _⟩
  · simp at h1; omega
  · simp at h1; omega

set_option maxHeartbeats 400000 in
theorem rcopy_any (A : Option Addr) (n c B : Nat) (zs : List Int) (w : World) (h : Nums w B 1 A n zs) (hA : Hid (A = none → c = 0)) (hn : n ≤ 200) :
    Calls Try.prog 80 #[.slice A n c] w (Tell w n zs) := by
  obtain ⟨i0, hi0, hz0, hz1, hz2⟩ := info_parts Try.info3
  have H1 := hide hi0
  have H2 := hide hz0
  have H3 := hide hz1
  have H4 := hide hz2
  clear hi0 hz0 hz1 hz2
  have HN := hide h
  clear h
  go_enter Try.func80, Try.ntmps80
  go_wp2_with (at_builtin; refine wpList_append_nums _ rfl _ _ 24 rfl w.heap.size 3 i0 (.int .i64 0) 1 8 Try.underlying24 H1.out H2.out H3.out H4.out rfl (by decide) (.slice none 0 0) 0 [] rfl (World.ownsRow_nil _ _ _ _) A n c B zs rfl hA.out HN.out (by simp only [maxLen]; omega) (by omega) (Nat.le_refl _) ?_; intro v1 w1 hown hb; obtain ⟨A1, c1, rfl, hA1⟩ := own_form hown; have HO := hide hown; clear hown; have HZ := hide hA1; clear hA1)
  go_ret
  have ho := HO.out
  rw [Nat.zero_add, List.nil_append] at ho
  exact ⟨A1, c1, rfl, HZ.out, by simpa using ho, hb⟩

set_option maxHeartbeats 400000 in
theorem clone_any (A : Option Addr) (n c B : Nat) (zs : List Int) (w : World) (h : Nums w B 1 A n zs) (hA : Hid (A = none → c = 0)) (hB : B ≤ w.heap.size) (hn : n ≤ 200) :
    Calls Try.prog 88 #[.slice A n c] w (Tell w n zs) := by
  have q22 : ∀ (w : World) (a : Option Addr) (n c n' c' : Nat), (binOp .eql 24 (.slice a n c) (.slice none n' c')).run Try.prog w = .ok (.bool a.isNone) w := fun w a n c n' c' => Lib.run_eql_slice_nil w _ _ a n c n' c' Try.underlying24
  obtain ⟨i0, hi0, hz0, hz1, hz2⟩ := info_parts Try.info3
  have H1 := hide hi0
  have H2 := hide hz0
  have H3 := hide hz1
  have H4 := hide hz2
  clear hi0 hz0 hz1 hz2
  have HN := hide h
  clear h
  cases A with
  | none =>
    have hn0 : n = 0 := by
      rcases Nat.eq_zero_or_pos n with h0 | h0
      · exact h0
      · obtain ⟨_, _, e, _⟩ := HN.out.2 h0
        cases e
    subst hn0
    have hc0 : c = 0 := hA.out rfl
    subst hc0
    go_enter Try.func88, Try.ntmps88
    go_wp2
    go_ret
    have hz : zs = [] := by have := HN.out.1; simpa using this
    subst hz
    exact ⟨none, 0, rfl, fun _ => rfl, World.ownsRow_nil _ _ _ _, Below.refl _ _⟩
  | some a =>
    have HM := hide (HN.out.below ((Below.refl w.heap.size w).alloc (Nat.le_refl _) (.cells #[] 3)) hB)
    have HW : Hid ((w.alloc (.cells #[] 3)).ownsRow w.heap.size 3 1 (.slice (some ⟨w.heap.size, 0, none⟩) 0 0) 0 (ints [])) := World.ownsRow_lit w #[] 0 (Nat.le_refl _) (by simp [maxLen]) (by simp)
    go_enter Try.func88, Try.ntmps88
    go_wp2_with (at_builtin; refine wpList_append_nums _ rfl _ _ 24 rfl w.heap.size 3 i0 (.int .i64 0) 1 8 Try.underlying24 H1.out H2.out H3.out H4.out rfl (by decide) _ 0 [] rfl HW.out (some a) n c B zs rfl (fun h => by cases h) HM.out (by simp only [maxLen]; omega) (by omega) (by simp) ?_; intro v1 w1 hown hb; obtain ⟨A1, c1, rfl, hA1⟩ := own_form hown; have HO := hide hown; clear hown; have HZ := hide hA1; clear hA1)
    go_ret
    have ho := HO.out
    rw [Nat.zero_add, List.nil_append] at ho
    exact ⟨A1, c1, rfl, HZ.out, by simpa using ho, ((Below.refl _ _).alloc (Nat.le_refl _) _).trans hb⟩

set_option maxHeartbeats 400000 in
theorem same_yes (A A' : Option Addr) (n c c' B B' : Nat) (zs : List Int) (w : World) (h : Nums w B 1 A n zs) (h' : Nums w B' 1 A' n zs) (hn : n ≤ 200) :
    Calls Try.prog 42 #[.slice A n c, .slice A' n c'] w (Drew (.bool true) w) := by
  have h0 : (((n : Nat) : Int) != (n : Int)) = false := by simp
  go_enter Try.func42, Try.ntmps42
  go_wp2
  go_loopw [13] (fun i wr => ∃ k q : Nat, k ≤ n ∧ i = .int .i64 k ∧ wr = w.drewN q) (fun i _ => n - (intOf i).toNat)
  case atStart => exact ⟨0, 0, by omega, rfl, rfl⟩
  case round =>
    obtain ⟨k, q, hk, rfl, rfl⟩ := hrel
    by_cases hlt : k < n
    · obtain ⟨b, off, rfl, _, hc⟩ := h.at_ hlt
      obtain ⟨b', off', rfl, _, hc'⟩ := h'.at_ hlt
      generalize zs.getD k 0 = z at hc hc'
      go_wp2
      go_quiet (fail)
      go_wp2
      go_roundw
      case rel => exact ⟨k + 1, _, by omega, by go_num, rfl⟩
      case measure => simp [intOf]; omega
    · go_wp2
      go_ret
      exact ⟨rfl, Below.drewN (Below.refl _ _) _⟩

/-- Where 0 first stands, from k on. -/
def idx0 : List Int → Nat → Int
  | [], _ => -1
  | x :: xs, k => if x = 0 then (k : Int) else idx0 xs (k + 1)

theorem idx0_next (zs : List Int) (k : Nat) (hk : k < zs.length) : idx0 (zs.drop k) k = if zs.getD k 0 = 0 then (k : Int) else idx0 (zs.drop (k + 1)) (k + 1) := by
  rw [List.drop_eq_getElem_cons hk, idx0]
  simp [List.getD_eq_getElem?_getD, hk]

set_option maxHeartbeats 400000 in
theorem index_any (A : Option Addr) (n c B : Nat) (zs : List Int) (w : World) (h : Nums w B 1 A n zs) (hn : n ≤ 200) :
    Calls Try.prog 92 #[.slice A n c, .int .i64 0] w fun e w' => e = .returned (.int .i64 (idx0 zs 0)) ∧ w = w' := by
  have HL := hide h.1
  go_enter Try.func92, Try.ntmps92
  go_wp2
  go_loopw [8] (fun i wr => ∃ k : Nat, k ≤ n ∧ i = .int .i64 k ∧ wr = w ∧ Hid (idx0 zs 0 = idx0 (zs.drop k) k)) (fun i _ => n - (intOf i).toNat)
  case atStart => exact ⟨0, by omega, rfl, rfl, rfl⟩
  case round =>
    obtain ⟨k, hk, rfl, rfl, HI⟩ := hrel
    by_cases hlt : k < n
    · obtain ⟨b, off, rfl, _, hc⟩ := h.at_ hlt
      have HX := hide (idx0_next zs k (by have := HL.out; omega))
      generalize zs.getD k 0 = z at hc HX
      by_cases hz : z = 0
      · subst hz
        go_wp2
        go_ret
        refine ⟨?_, rfl⟩
        rw [HI.out, HX.out]; simp
      · have hz0 : ((0 : Int) == z) = false := by simp; omega
        have HZ := hide hz
        clear hz
        go_wp2
        go_roundw
        case rel => exact ⟨k + 1, by omega, by go_num, trivial, by show _ = _; rw [HI.out, HX.out, if_neg HZ.out]⟩
        case measure => simp [intOf]; omega
    · go_wp2
      go_ret
      refine ⟨?_, rfl⟩
      rw [HI.out, List.drop_of_length_le (by have := HL.out; omega)]; rfl

theorem idx0_bool (zs : List Int) (k : Nat) : decide (0 ≤ idx0 zs k) = zs.contains 0 := by
  induction zs generalizing k with
  | nil => simp [idx0]
  | cons x xs ih =>
    rw [idx0]
    by_cases hx : x = 0
    · subst hx; simp
    · rw [if_neg hx, ih]; simp; omega

set_option maxHeartbeats 400000 in
theorem contains_any (A : Option Addr) (n c B : Nat) (zs : List Int) (w : World) (h : Nums w B 1 A n zs) (hn : n ≤ 200) :
    Calls Try.prog 90 #[.slice A n c, .int .i64 0] w fun e w' => e = .returned (.bool (zs.contains 0)) ∧ w = w' := by
  have HB := hide (idx0_bool zs 0)
  go_enter Try.func90, Try.ntmps90
  go_wp2_with fail
  refine (index_any _ _ _ _ _ _ h hn).mono ?_
  rintro e w' ⟨rfl, rfl⟩
  generalize idx0 zs 0 = z at HB
  go_wp2
  go_ret
  exact ⟨congrArg (fun b => Ending.returned (Value.bool b)) HB.out, rfl⟩

set_option maxHeartbeats 400000 in
theorem few_yes (A0 A1 A2 A3 : Option Addr) (n0 n1 n2 n3 c0 c1 c2 c3 : Nat) (w : World) (h0 : n0 ≤ 200) (h1 : n1 ≤ 200) (h2 : n2 ≤ 200) (h3 : n3 ≤ 200) :
    Calls Try.prog 33 #[V4 A0 A1 A2 A3 n0 n1 n2 n3 c0 c1 c2 c3] w (Drew (.bool true) w) := by
  have d0 : decide ((n0 : Int) ≤ 200) = true := by simp; omega
  have d1 : decide ((n1 : Int) ≤ 200) = true := by simp; omega
  have d2 : decide ((n2 : Int) ≤ 200) = true := by simp; omega
  have d3 : decide ((n3 : Int) ≤ 200) = true := by simp; omega
  go_enter Try.func33, Try.ntmps33
  go_wp2
  go_ret
  exact ⟨rfl, (Below.refl _ _).alloc (Nat.le_refl _) _⟩

set_option maxHeartbeats 400000 in
theorem few_no (A0 A1 A2 A3 : Option Addr) (n0 n1 n2 n3 c0 c1 c2 c3 : Nat) (w : World) (h : Hid (¬ (n0 ≤ 200 ∧ n1 ≤ 200 ∧ n2 ≤ 200 ∧ n3 ≤ 200))) :
    Calls Try.prog 33 #[V4 A0 A1 A2 A3 n0 n1 n2 n3 c0 c1 c2 c3] w (Drew (.bool false) w) := by
  by_cases h0 : n0 ≤ 200
  · have d0 : decide ((n0 : Int) ≤ 200) = true := by simp; omega
    by_cases h1 : n1 ≤ 200
    · have d1 : decide ((n1 : Int) ≤ 200) = true := by simp; omega
      by_cases h2 : n2 ≤ 200
      · have d2 : decide ((n2 : Int) ≤ 200) = true := by simp; omega
        have d3 : decide ((n3 : Int) ≤ 200) = false := by have := h.out; simp; omega
        clear h0 h1 h2
        go_enter Try.func33, Try.ntmps33
        go_wp2
        go_ret
        exact ⟨rfl, (Below.refl _ _).alloc (Nat.le_refl _) _⟩
      · have d2 : decide ((n2 : Int) ≤ 200) = false := by simp; omega
        clear h0 h1 h2
        go_enter Try.func33, Try.ntmps33
        go_wp2
        go_ret
        exact ⟨rfl, (Below.refl _ _).alloc (Nat.le_refl _) _⟩
    · have d1 : decide ((n1 : Int) ≤ 200) = false := by simp; omega
      clear h0 h1
      go_enter Try.func33, Try.ntmps33
      go_wp2
      go_ret
      exact ⟨rfl, (Below.refl _ _).alloc (Nat.le_refl _) _⟩
  · have d0 : decide ((n0 : Int) ≤ 200) = false := by simp; omega
    clear h0
    go_enter Try.func33, Try.ntmps33
    go_wp2
    go_ret
    exact ⟨rfl, (Below.refl _ _).alloc (Nat.le_refl _) _⟩

end Go.Proofs.Ythficfmakbblkaa.Pool

/- What freeMayBe tells of any pool whose lengths stand. -/
namespace Go.Proofs.Ythficfmakbblkaa.Pool
open Go.RowKit
set_option linter.unusedVariables false

section
variable {u : World} {B n c g : Nat} {zs : List Int}
theorem own_at (h : u.ownsRow B 3 1 (.slice (some ⟨g, 0, none⟩) n c) n (ints zs)) {k : Nat} (hk : k < n) : u.cell? ⟨g, k, none⟩ = some (.int .i64 (zs.getD k 0)) := by
  have hl : zs.length = n := by simpa using h.1
  rw [h.cellAt k (by omega)]
  simp [List.getD_eq_getElem?_getD, show k < zs.length by omega]
theorem own_ge (h : u.ownsRow B 3 1 (.slice (some ⟨g, 0, none⟩) n c) n (ints zs)) : B ≤ g ∧ g < u.heap.size := h.lt g rfl
theorem own_set (h : u.ownsRow B 3 1 (.slice (some ⟨g, 0, none⟩) n c) n (ints zs)) (k : Nat) (x : Int) : (u.setCell ⟨g, k, none⟩ (.int .i64 x)).ownsRow B 3 1 (.slice (some ⟨g, 0, none⟩) n c) n (ints (zs.set k x)) := by
  have := (h.stored k (.int .i64 x)).1
  rwa [show (ints zs).set k (.int .i64 x) = ints (zs.set k x) by simp [ints, List.map_set]] at this
/-- A row of some elements has a block. -/
theorem own_some {A : Option Addr} (h : u.ownsRow B 3 1 (.slice A n c) n (ints zs)) (hn : 0 < n) : ∃ g, A = some ⟨g, 0, none⟩ := by
  rcases h.2 with ⟨_, h0⟩ | ⟨g, cap, cur, h1, _⟩
  · omega
  · simp at h1; exact ⟨g, h1.1⟩
theorem own_other (h : u.ownsRow B 3 1 (.slice (some ⟨g, 0, none⟩) n c) n (ints zs)) {k i : Nat} (hk : k ≠ g) (v : Value) : (u.setCell ⟨k, i, none⟩ v).ownsRow B 3 1 (.slice (some ⟨g, 0, none⟩) n c) n (ints zs) := by
  refine ⟨h.1, ?_⟩
  rcases h.2 with h0 | ⟨g', cap, cur, h1, hB, hg, r⟩
  · exact .inl h0
  · have e : g = g' := by simp at h1; exact h1.1
    subst e
    exact .inr ⟨g, cap, cur, h1, hB, (Below.heap_setCell u ⟨k, i, none⟩ v g (by simpa using hk.symm)).trans hg, r⟩
end

theorem freeB_next {n : Nat} {L F : List Int} {j : Nat} (hj : j < F.length) : freeB n L (F.drop j) = (decide (0 ≤ F.getD j 0 ∧ F.getD j 0 < (n : Int) ∧ L.getD (F.getD j 0).toNat 0 = 0) && freeB n (L.set (F.getD j 0).toNat 1) (F.drop (j + 1))) := by
  rw [List.drop_eq_getElem_cons hj, freeB]
  simp [List.getD_eq_getElem?_getD, hj]

set_option maxHeartbeats 2000000 in
theorem freeMayBe_any (A0 A1 A2 A3 : Option Addr) (n n3 c0 c1 c2 c3 B : Nat) (S F : List Int) (w : World) (hs : Nums w B 1 A1 n S) (zs : Hid (A1 = none → c1 = 0)) (hf : Nums w B 1 A3 n3 F) (hB : B ≤ w.heap.size) (h1 : 1 ≤ n) (h2 : n ≤ 64) (h3 : n3 ≤ 200) :
    Calls Try.prog 85 #[V4 A0 A1 A2 A3 n n n n3 c0 c1 c2 c3] w (Drew (.bool (freeB n S F)) w) := by
  have HL := hide hf.1
  have HF := hide hf
  have X0 := hide (PBox.new w (C4 A0 A1 A2 A3 n n n n3 c0 c1 c2 c3))
  have B0 := hide ((Below.refl w.heap.size w).alloc (Nat.le_refl _) (.cells (C4 A0 A1 A2 A3 n n n n3 c0 c1 c2 c3) 26))
  have HS := hide (hs.below B0.out hB)
  clear hs hf
  go_enter Try.func85, Try.ntmps85
  go_wp2_with fail
  refine (clone_any _ _ _ _ _ _ HS.out zs (by simp; omega) (by omega)).mono ?_
  rintro e w1 ⟨Al, cl, rfl, hAl, hown, hbel⟩
  obtain ⟨g, rfl⟩ := own_some hown (by omega)
  have X1 := hide (X0.out.step hbel)
  have B1 := hide (next_call B0.out (Nat.le_refl _) hbel)
  have HO : Hid (w1.ownsRow (w.heap.size + 1) 3 1 (.slice (some ⟨g, 0, none⟩) n cl) n (ints S)) := by simpa [Hid] using hown
  have hg : w.heap.size + 1 ≤ g := (own_ge HO.out).1
  have hc := X1.out.cells
  have hl := X1.out.lt
  clear hown hbel hAl X0
  go_wp2
  clear hc hl
  go_loopw [12] (fun i wr => ∃ (j : Nat) (L : List Int), j ≤ n3 ∧ i = .int .i64 j ∧ Hid (PBox wr w.heap.size (C4 A0 A1 A2 A3 n n n n3 c0 c1 c2 c3)) ∧ Hid (wr.ownsRow (w.heap.size + 1) 3 1 (.slice (some ⟨g, 0, none⟩) n cl) n (ints L)) ∧ Hid (Below w.heap.size w wr) ∧ Hid (freeB n S F = freeB n L (F.drop j)))
    (fun i _ => n3 - (intOf i).toNat)
  case atStart => exact ⟨0, S, by omega, rfl, X1, HO, B1, rfl⟩
  case round =>
    obtain ⟨j, L, hj, rfl, X, HR, HB, HE⟩ := hrel
    clear X1 HO B1
    have hc := X.out.cells
    have hl := X.out.lt
    by_cases hlt : j < n3
    · obtain ⟨b, off, rfl, _, hx⟩ := (HF.out.below HB.out hB).at_ hlt
      have HN := hide (freeB_next (n := n) (L := L) (F := F) (j := j) (by have := HL.out; omega))
      generalize F.getD j 0 = x at hx HN
      go_wp2_with fail
      by_cases hin : 0 ≤ x ∧ x < (n : Int)
      · obtain ⟨X', rfl⟩ : ∃ X' : Nat, x = (X' : Int) := ⟨x.toNat, by omega⟩
        have hX : X' < n := by omega
        refine (isSlot_yes _ _ _ _ _ _ _ _ _ _ _ _ _ _ hin.1 hin.2 (by omega)).mono ?_
        rintro e u1 ⟨rfl, hu1⟩
        have X2 := hide (X.out.step hu1)
        have HR2 := hide (own_below HR.out hu1)
        have HB2 := hide (next_call HB.out (Nat.le_refl _) hu1)
        clear hc hl hx hu1 hin
        have hc := X2.out.cells
        have hl := X2.out.lt
        have hq := own_at HR2.out hX
        have hfz : u1.frozen? ⟨g, X', none⟩ = false := HR2.out.frozenAt X'
        have hgl := (own_ge HR2.out).2
        rw [Int.toNat_natCast] at HN
        have HQ : Hid (L.getD X' 0 = L.getD X' 0) := rfl
        generalize L.getD X' 0 = q at hq HN HQ
        by_cases hq0 : q = 0
        · subst hq0
          go_wp2
          go_roundw
          case rel =>
            refine ⟨j + 1, L.set X' 1, by omega, by go_num, X2.out.other (by omega) _, own_set HR2.out _ _, HB2.out.setCell (by simp; omega) _, ?_⟩
            show _ = _
            rw [HE.out, HN.out]
            simp; omega
          case measure => simp [intOf]; omega
        · have hq1 : (q != 0) = true := by simpa using hq0
          have HQ0 := hide hq0
          clear hq0
          go_wp2
          go_ret
          refine ⟨?_, HB2.out⟩
          rw [HE.out, HN.out]
          have := HQ0.out
          simp [this]
      · refine (isSlot_no _ _ _ _ _ _ _ _ _ _ _ _ _ _ (by omega) (by omega)).mono ?_
        rintro e u1 ⟨rfl, hu1⟩
        have HB2 := hide (next_call HB.out (Nat.le_refl _) hu1)
        have HI := hide hin
        clear hc hl hx hu1 hin
        go_wp2
        go_ret
        refine ⟨?_, HB2.out⟩
        rw [HE.out, HN.out, decide_eq_false (fun h => HI.out ⟨h.1, h.2.1⟩)]
        rfl
    · have HNL := hide (own_nums HR.out)
      go_wp2_with fail
      refine (contains_any _ _ _ _ _ _ HNL.out (by omega)).mono ?_
      rintro e u1 ⟨rfl, rfl⟩
      clear hc hl
      generalize HQ : L.contains 0 = q
      have HQ' := hide HQ
      clear HQ
      go_wp2
      go_ret
      refine ⟨?_, HB.out⟩
      rw [HE.out, List.drop_of_length_le (by have := HL.out; omega), freeB, HQ'.out]
      rfl

end Go.Proofs.Ythficfmakbblkaa.Pool

/- What mayBe and Check tell, of any pool that is not great: the code's. -/
namespace Go.Proofs.Ythficfmakbblkaa.Pool
open Go.RowKit
set_option linter.unusedVariables false

theorem bool_of (p : Prop) : ∃ b : Bool, b = true ↔ p := by
  by_cases h : p
  · exact ⟨true, by simp [h]⟩
  · exact ⟨false, by simp [h]⟩

set_option maxHeartbeats 2000000 in
theorem mayBe_any (p : Pl) (P : PL) (B : Nat) (b : Bool) (w : World) (hr : Reads w B p P) (hB : B ≤ w.heap.size) (hm : Small p) (hb : Hid (b = true ↔ MayBe P)) :
    Calls Try.prog 67 #[p.val] w (Drew (.bool b) w) := by
  obtain ⟨A0, A1, A2, A3, n0, n1, n2, n3, c0, c1, c2, c3⟩ := p
  obtain ⟨G, S, W, F⟩ := P
  obtain ⟨hg, hs, ht, hf, zg, zs, zt, zf⟩ := hr
  obtain ⟨m0, m1, m2, m3⟩ := hm
  dsimp only at hg hs ht hf zg zs zt zf m0 m1 m2 m3
  have lg := hide hg.1
  have ls := hide hs.1
  have lt := hide ht.1
  have HG := hide hg
  have HS := hide hs
  have HT := hide ht
  have HF := hide hf
  have ZS := hide zs
  clear hg hs ht hf zg zs zt zf
  have X0 := hide (PBox.new w (C4 A0 A1 A2 A3 n0 n1 n2 n3 c0 c1 c2 c3))
  have B0 := hide ((Below.refl w.heap.size w).alloc (Nat.le_refl _) (.cells (C4 A0 A1 A2 A3 n0 n1 n2 n3 c0 c1 c2 c3) 26))
  show Calls Try.prog 67 #[V4 A0 A1 A2 A3 n0 n1 n2 n3 c0 c1 c2 c3] w (Drew (.bool b) w)
  by_cases s0 : 1 ≤ n0 ∧ n0 ≤ 64
  · obtain ⟨s1, s2⟩ := s0
    by_cases e1 : n1 = n0
    · by_cases e2 : n2 = n0
      · subst e1
        subst e2
        have h1 : (((n2 : Nat) : Int) != (n2 : Int)) = false := by simp
        go_enter Try.func67, Try.ntmps67
        go_wp2_with fail
        refine (isSize_yes _ _ (by omega) (by omega)).mono ?_
        rintro e w' ⟨rfl, rfl⟩
        go_wp2
        go_loopw [26] (fun i wr => ∃ k : Nat, k ≤ n2 ∧ i = .int .i64 k ∧ Hid (PBox wr w.heap.size (C4 A0 A1 A2 A3 n2 n2 n2 n3 c0 c1 c2 c3)) ∧ Hid (Below w.heap.size w wr) ∧ Hid (∀ j, j < k → SlotOk (G.getD j 0) (S.getD j 0) (W.getD j 0)))
          (fun i _ => n2 - (intOf i).toNat)
        case atStart => exact ⟨0, by omega, rfl, X0, B0, by intro j hj; omega⟩
        case round =>
          obtain ⟨k, hk, rfl, X, HB, HA⟩ := hrel
          clear X0 B0
          have hc := X.out.cells
          have hl := X.out.lt
          by_cases hlt : k < n2
          · obtain ⟨b0, o0, rfl, q0, hx0⟩ := (HG.out.below HB.out hB).at_ hlt
            obtain ⟨b1, o1, rfl, q1, hx1⟩ := (HS.out.below HB.out hB).at_ hlt
            obtain ⟨b2, o2, rfl, q2, hx2⟩ := (HT.out.below HB.out hB).at_ hlt
            have hsz := HB.out.size
            obtain ⟨b', hb'⟩ := bool_of (SlotOk (G.getD k 0) (S.getD k 0) (W.getD k 0))
            have HB' := hide hb'
            clear hb'
            go_wp2_with fail
            refine (slotMayBe_any _ _ _ _ _ _ _ _ _ _ _ _ _ _ _ _ _ b' _ (by omega) (by omega) (by omega) hlt s2 hx0 hx1 hx2 HB').mono ?_
            rintro e u1 ⟨rfl, hu1⟩
            have X2 := hide (X.out.step hu1)
            have HB2 := hide (next_call HB.out (Nat.le_refl _) hu1)
            clear hc hl hx0 hx1 hx2 hu1 hsz
            cases b' with
            | true =>
              go_wp2
              go_roundw
              case rel =>
                refine ⟨k + 1, by omega, by go_num, X2, HB2, fun j hj => ?_⟩
                rcases Nat.lt_or_ge j k with h | h
                · exact HA.out j h
                · obtain rfl : j = k := by omega
                  exact HB'.out.1 (by simp)
              case measure => simp [intOf]; omega
            | false =>
              go_wp2
              go_ret
              refine ⟨?_, HB2.out⟩
              have : b = false := by
                cases b with
                | false => rfl
                | true =>
                  have := (hb.out.1 rfl).2.2.2.2.1 k (by have := lg.out; simp at this ⊢; omega)
                  exact absurd (HB'.out.2 this) (by simp)
              subst this
              rfl
          · go_wp2_with fail
            refine (freeMayBe_any _ _ _ _ _ _ _ _ _ _ B S F _ (HS.out.below HB.out hB) ZS (HF.out.below HB.out hB) (by have := HB.out.size; omega) s1 s2 m3).mono ?_
            rintro e u1 ⟨rfl, hu1⟩
            have HB2 := hide (next_call HB.out (Nat.le_refl _) hu1)
            clear hc hl hu1
            have HQ : Hid (b = freeB n2 S F) := by
              show _ = _
              have h1 := lg.out
              have h2 := ls.out
              have h3 := lt.out
              rw [Bool.eq_iff_iff, hb.out, freeB_iff n2 S F (by omega)]
              constructor
              · exact fun h => h.2.2.2.2.2
              · exact fun h => ⟨by simp; omega, by simp; omega, by simp; omega, by simp; omega, fun j hj => HA.out j (by simp at hj; omega), h⟩
            generalize freeB n2 S F = b2 at HQ
            go_wp2
            go_ret
            exact ⟨by rw [HQ.out]; rfl, HB2.out⟩
      · obtain rfl : b = false := by
          cases b with
          | false => rfl
          | true => have := (hb.out.1 rfl).2.2.2.1; have h1 := lg.out; have h3 := lt.out; simp at this; omega
        subst e1
        have h1 : (((n1 : Nat) : Int) != (n1 : Int)) = false := by simp
        have h2 : (((n2 : Nat) : Int) != (n1 : Int)) = true := by simp; omega
        go_enter Try.func67, Try.ntmps67
        go_wp2_with fail
        refine (isSize_yes _ _ (by omega) (by omega)).mono ?_
        rintro e w' ⟨rfl, rfl⟩
        go_wp2
        go_ret
        exact ⟨rfl, B0.out⟩
    · obtain rfl : b = false := by
        cases b with
        | false => rfl
        | true => have := (hb.out.1 rfl).2.2.1; have h1 := lg.out; have h3 := ls.out; simp at this; omega
      have h2 : (((n1 : Nat) : Int) != (n0 : Int)) = true := by simp; omega
      go_enter Try.func67, Try.ntmps67
      go_wp2_with fail
      refine (isSize_yes _ _ (by omega) (by omega)).mono ?_
      rintro e w' ⟨rfl, rfl⟩
      go_wp2
      go_ret
      exact ⟨rfl, B0.out⟩
  · obtain rfl : b = false := by
      cases b with
      | false => rfl
      | true => have h4 := (hb.out.1 rfl).1; have h5 := (hb.out.1 rfl).2.1; have h1 := lg.out; simp at h4 h5; omega
    have hs0 := hide s0
    clear s0
    go_enter Try.func67, Try.ntmps67
    go_wp2_with fail
    refine (isSize_no _ _ (by have := hs0.out; omega)).mono ?_
    rintro e w' ⟨rfl, rfl⟩
    go_wp2
    go_ret
    exact ⟨rfl, B0.out⟩

/-- The error of a pool that may be, or not. -/
def chk (b : Bool) : Int := if b then 0 else 1

set_option maxHeartbeats 1000000 in
theorem check_any (p : Pl) (P : PL) (B : Nat) (b : Bool) (w : World) (hr : Reads w B p P) (hB : B ≤ w.heap.size) (hm : Small p) (hb : Hid (b = true ↔ MayBe P)) :
    Calls Try.prog 43 #[p.val] w (Drew (.int .i64 (chk b)) w) := by
  have B0 := hide ((Below.refl w.heap.size w).alloc (Nat.le_refl _) (.cells (C4 p.A0 p.A1 p.A2 p.A3 p.n0 p.n1 p.n2 p.n3 p.c0 p.c1 p.c2 p.c3) 26))
  have HR := hide (hr.below B0.out hB)
  have HM := hide hm
  clear hr hm
  go_enter Try.func43, Try.ntmps43
  go_wp2_with fail
  refine (mayBe_any p P B b _ HR.out (by simp; omega) HM.out hb).mono ?_
  rintro e u1 ⟨rfl, hu1⟩
  have HB2 := hide (one_call hu1)
  clear hu1
  cases b with
  | true =>
    go_wp2
    go_ret
    exact ⟨rfl, HB2.out⟩
  | false =>
    go_wp2
    go_ret
    exact ⟨rfl, HB2.out⟩

end Go.Proofs.Ythficfmakbblkaa.Pool

/- What the document's Check tells, of any pool that is not great. -/
namespace Go.Proofs.Ythficfmakbblkaa.Pool
open Go.RowKit
set_option linter.unusedVariables false

theorem count_next {F : List Int} {k j : Nat} (hj : j < F.length) : (F.take (j + 1)).count (k : Int) = if F.getD j 0 = (k : Int) then (F.take j).count (k : Int) + 1 else (F.take j).count (k : Int) := by
  rw [List.take_succ_eq_append_getElem hj, List.count_append]
  simp only [List.getD_eq_getElem?_getD, List.getElem?_eq_getElem hj, Option.getD_some, List.count_singleton]
  by_cases h : F[j] = (k : Int)
  · simp [h]
  · simp [h]

set_option maxRecDepth 4000 in
set_option maxHeartbeats 4000000 in
theorem rcheck_any (p : Pl) (P : PL) (B : Nat) (b : Bool) (w : World) (hr : Reads w B p P) (hB : B ≤ w.heap.size) (hm : Small p) (hb : Hid (b = true ↔ MayBe P)) :
    Calls Try.prog 45 #[p.val] w (Drew (.int .i64 (chk b)) w) := by
  obtain ⟨A0, A1, A2, A3, n0, n1, n2, n3, c0, c1, c2, c3⟩ := p
  obtain ⟨G, S, W, F⟩ := P
  obtain ⟨hg, hs, ht, hf, zg, zs, zt, zf⟩ := hr
  obtain ⟨m0, m1, m2, m3⟩ := hm
  dsimp only at hg hs ht hf zg zs zt zf m0 m1 m2 m3
  have lg := hide hg.1
  have ls := hide hs.1
  have lt := hide ht.1
  have lf := hide hf.1
  have HG := hide hg
  have HS := hide hs
  have HT := hide ht
  have HF := hide hf
  clear hg hs ht hf zg zs zt zf
  show Calls Try.prog 45 #[V4 A0 A1 A2 A3 n0 n1 n2 n3 c0 c1 c2 c3] w (Drew (.int .i64 (chk b)) w)
  by_cases s1 : 1 ≤ n0
  · have d1 : decide ((n0 : Int) < 1) = false := by simp; omega
    by_cases s2 : n0 ≤ 64
    · have d2 : decide ((64 : Int) < (n0 : Int)) = false := by simp; omega
      by_cases e1 : n1 = n0
      · by_cases e2 : n2 = n0
        · subst e1
          subst e2
          obtain ⟨n, rfl⟩ : ∃ n, n = n2 := ⟨_, rfl⟩
          have h1 : (((n : Nat) : Int) != (n : Int)) = false := by simp
          obtain ⟨b0, o0, rfl, q0, _⟩ := HG.out.at_ (k := 0) (by omega)
          obtain ⟨b1, o1, rfl, q1, _⟩ := HS.out.at_ (k := 0) (by omega)
          obtain ⟨b2, o2, rfl, q2, _⟩ := HT.out.at_ (k := 0) (by omega)
          have B0 := hide ((Below.refl w.heap.size w).alloc (Nat.le_refl _) (.cells #[.slice (some ⟨b0, o0, none⟩) n c0, .slice (some ⟨b1, o1, none⟩) n c1, .slice (some ⟨b2, o2, none⟩) n c2, .slice A3 n3 c3] 26))
          go_enter Try.func45, Try.ntmps45
          go_wp2
          go_loopw [4, 33] (fun f i wr => ∃ k q : Nat, k ≤ n ∧ i = .int .i64 k ∧ f = .int .i64 (q : Int) ∧ q ≤ k ∧ Hid (metSum F k = q) ∧ wr = w.alloc (.cells #[.slice (some ⟨b0, o0, none⟩) n c0, .slice (some ⟨b1, o1, none⟩) n c1, .slice (some ⟨b2, o2, none⟩) n c2, .slice A3 n3 c3] 26) ∧ Hid (∀ j, j < k → SlotOk (G.getD j 0) (S.getD j 0) (W.getD j 0) ∧ F.count (j : Int) ≤ 1 ∧ (F.count (j : Int) = 1 ↔ S.getD j 0 = 0)))
            (fun _ i _ => n - (intOf i).toNat)
          case atStart => exact ⟨0, 0, by omega, rfl, rfl, by omega, rfl, rfl, by intro j hj; omega⟩
          case round =>
            obtain ⟨k, q, hk, rfl, rfl, hfk, HM, rfl, HA⟩ := hrel
            by_cases hlt : k < n
            · have hdk : decide ((k : Int) < (n : Int)) = true := by simp; omega
              obtain ⟨b0', o0', e0, _, hx0⟩ := (HG.out.below B0.out hB).at_ hlt
              obtain ⟨b1', o1', e1, _, hx1⟩ := (HS.out.below B0.out hB).at_ hlt
              obtain ⟨b2', o2', e2, _, hx2⟩ := (HT.out.below B0.out hB).at_ hlt
              simp only [Option.some.injEq, Addr.mk.injEq, and_true] at e0 e1 e2
              obtain ⟨rfl, rfl⟩ := e0
              obtain ⟨rfl, rfl⟩ := e1
              obtain ⟨rfl, rfl⟩ := e2
              obtain ⟨g, EG⟩ : ∃ g, Hid (G.getD k 0 = g) := ⟨_, rfl⟩
              obtain ⟨s, ES⟩ : ∃ s, Hid (S.getD k 0 = s) := ⟨_, rfl⟩
              obtain ⟨z, EZ⟩ : ∃ z, Hid (W.getD k 0 = z) := ⟨_, rfl⟩
              rw [EG.out] at hx0
              rw [ES.out] at hx1
              rw [EZ.out] at hx2
              by_cases t1 : g < 0
              · have f1 : decide (g < 0) = true := by simpa using t1
                have HBF : Hid (b = false) := by
                  show _ = _
                  cases b with
                  | false => rfl
                  | true => exact absurd ((hb.out.1 rfl).2.2.2.2.1 k (by have := lg.out; simp at this ⊢; omega)) (by show ¬ SlotOk (G.getD k 0) (S.getD k 0) (W.getD k 0); rw [EG.out, ES.out, EZ.out]; simp only [SlotOk]; omega)
                go_wp2
                go_ret
                exact ⟨by rw [HBF.out]; rfl, B0.out⟩

              have f1 : decide (g < 0) = false := by simpa using t1
              by_cases t2 : 1099511627776 ≤ g
              · have f2 : decide ((1099511627776 : Int) ≤ g) = true := by simpa using t2
                have HBF : Hid (b = false) := by
                  show _ = _
                  cases b with
                  | false => rfl
                  | true => exact absurd ((hb.out.1 rfl).2.2.2.2.1 k (by have := lg.out; simp at this ⊢; omega)) (by show ¬ SlotOk (G.getD k 0) (S.getD k 0) (W.getD k 0); rw [EG.out, ES.out, EZ.out]; simp only [SlotOk]; omega)
                go_wp2
                go_ret
                exact ⟨by rw [HBF.out]; rfl, B0.out⟩

              have f2 : decide ((1099511627776 : Int) ≤ g) = false := by simpa using t2
              by_cases t3 : s < 0
              · have f3 : decide (s < 0) = true := by simpa using t3
                have HBF : Hid (b = false) := by
                  show _ = _
                  cases b with
                  | false => rfl
                  | true => exact absurd ((hb.out.1 rfl).2.2.2.2.1 k (by have := lg.out; simp at this ⊢; omega)) (by show ¬ SlotOk (G.getD k 0) (S.getD k 0) (W.getD k 0); rw [EG.out, ES.out, EZ.out]; simp only [SlotOk]; omega)
                go_wp2
                go_ret
                exact ⟨by rw [HBF.out]; rfl, B0.out⟩

              have f3 : decide (s < 0) = false := by simpa using t3
              by_cases t4 : 2 < s
              · have f4 : decide ((2 : Int) < s) = true := by simpa using t4
                have HBF : Hid (b = false) := by
                  show _ = _
                  cases b with
                  | false => rfl
                  | true => exact absurd ((hb.out.1 rfl).2.2.2.2.1 k (by have := lg.out; simp at this ⊢; omega)) (by show ¬ SlotOk (G.getD k 0) (S.getD k 0) (W.getD k 0); rw [EG.out, ES.out, EZ.out]; simp only [SlotOk]; omega)
                go_wp2
                go_ret
                exact ⟨by rw [HBF.out]; rfl, B0.out⟩

              have f4 : decide ((2 : Int) < s) = false := by simpa using t4
              by_cases t5 : s = 2
              · have f5 : (s != 2) = false := by simpa using t5
                have HK : Hid (SlotOk g s z) := by simp only [Hid, SlotOk]; omega
                clear t5
                go_wp2
                go_loopw [6, 85] (fun m i wr => ∃ j : Nat, j ≤ n3 ∧ i = .int .i64 j ∧ m = .int .i64 (((F.take j).count (k : Int) : Nat) : Int) ∧ (F.take j).count (k : Int) ≤ j ∧ wr = w.alloc (.cells #[.slice (some ⟨b0, o0, none⟩) n c0, .slice (some ⟨b1, o1, none⟩) n c1, .slice (some ⟨b2, o2, none⟩) n c2, .slice A3 n3 c3] 26))
                  (fun _ i _ => n3 - (intOf i).toNat)
                case atStart => exact ⟨0, by omega, rfl, by simp, by simp, rfl⟩
                case round =>
                  obtain ⟨j, hj, rfl, rfl, hcj, rfl⟩ := hrel
                  by_cases hjl : j < n3
                  · obtain ⟨b3, o3, rfl, q3, hx3⟩ := (HF.out.below B0.out hB).at_ hjl
                    have HC := hide (count_next (F := F) (k := k) (j := j) (by have := lf.out; omega))
                    generalize F.getD j 0 = x at hx3 HC
                    generalize (F.take j).count (k : Int) = cj at hcj HC
                    by_cases hxk : x = (k : Int)
                    · have hx1' : (x == (k : Int)) = true := by simpa using hxk
                      have HXK := hide hxk
                      clear hxk
                      go_wp2
                      go_roundw
                      case rel => exact ⟨j + 1, by omega, by go_num, by rw [HC.out, if_pos HXK.out]; go_num, by rw [HC.out, if_pos HXK.out]; omega, trivial⟩
                      case measure => simp [intOf]; omega
                    · have hx1' : (x == (k : Int)) = false := by simpa using hxk
                      have HXK := hide hxk
                      clear hxk
                      go_wp2
                      go_roundw
                      case rel => exact ⟨j + 1, by omega, by go_num, by rw [HC.out, if_neg HXK.out], by rw [HC.out, if_neg HXK.out]; omega, trivial⟩
                      case measure => simp [intOf]; omega
                  · have EC : Hid (F.count (k : Int) = (F.take j).count (k : Int)) := by show _ = _; rw [List.take_of_length_le (by have := lf.out; omega)]
                    generalize (F.take j).count (k : Int) = c at hcj EC
                    obtain ⟨ci, HCI, p1, p2⟩ : ∃ ci : Int, Hid ((c : Int) = ci) ∧ 0 ≤ ci ∧ ci ≤ 200 := ⟨_, rfl, by omega, by omega⟩
                    obtain ⟨qi, HQI, p3, p4⟩ : ∃ qi : Int, Hid ((q : Int) = qi) ∧ 0 ≤ qi ∧ qi ≤ 200 := ⟨_, rfl, by omega, by omega⟩
                    rw [HCI.out, HQI.out]
                    by_cases cle : c ≤ 1
                    · have d1 : decide ((1 : Int) < ci) = false := by have := HCI.out; simp; omega
                      by_cases hc1 : c = 1
                      · have d2 : (ci == 1) = true := by have := HCI.out; simp; omega
                        have HC1 := hide hc1
                        clear hc1
                        by_cases hs0 : s = 0
                        · have d3 : (s == 0) = true := by simpa using hs0
                          have HS0 := hide hs0
                          clear hs0
                          go_wp2
                          go_roundw
                          case rel =>
                            refine ⟨k + 1, q + c, by omega, by go_num, by rw [← HCI.out, ← HQI.out]; go_num, by omega, ?_, trivial, fun i hi => ?_⟩
                            · show _ = _; simp only [metSum]; rw [EC.out, HM.out]
                            · rcases Nat.lt_or_ge i k with h | h
                              · exact HA.out i h
                              · obtain rfl : i = k := by omega
                                rw [EG.out, ES.out, EZ.out, EC.out]
                                exact ⟨HK.out, cle, by have := HC1.out; have := HS0.out; omega⟩
                          case measure => simp [intOf]; omega
                        · have d3 : (s == 0) = false := by simpa using hs0
                          have HS0 := hide hs0
                          clear hs0
                          have HBF : Hid (b = false) := by
                            show _ = _
                            cases b with
                            | false => rfl
                            | true => exact absurd ((met_iff S F).2 (hb.out.1 rfl).2.2.2.2.2) (fun h => absurd (h.1 k (by have := ls.out; omega)).2 (by rw [ES.out, EC.out]; have := HC1.out; have := HS0.out; omega))
                          go_wp2
                          go_ret
                          exact ⟨by rw [HBF.out]; rfl, B0.out⟩
                      · have d2 : (ci == 1) = false := by have := HCI.out; simp; omega
                        have HC1 := hide hc1
                        clear hc1
                        by_cases hs0 : s = 0
                        · have d3 : (s == 0) = true := by simpa using hs0
                          have HS0 := hide hs0
                          clear hs0
                          have HBF : Hid (b = false) := by
                            show _ = _
                            cases b with
                            | false => rfl
                            | true => exact absurd ((met_iff S F).2 (hb.out.1 rfl).2.2.2.2.2) (fun h => absurd (h.1 k (by have := ls.out; omega)).2 (by rw [ES.out, EC.out]; have := HC1.out; have := HS0.out; omega))
                          go_wp2
                          go_ret
                          exact ⟨by rw [HBF.out]; rfl, B0.out⟩
                        · have d3 : (s == 0) = false := by simpa using hs0
                          have HS0 := hide hs0
                          clear hs0
                          go_wp2
                          go_roundw
                          case rel =>
                            refine ⟨k + 1, q + c, by omega, by go_num, by rw [← HCI.out, ← HQI.out]; go_num, by omega, ?_, trivial, fun i hi => ?_⟩
                            · show _ = _; simp only [metSum]; rw [EC.out, HM.out]
                            · rcases Nat.lt_or_ge i k with h | h
                              · exact HA.out i h
                              · obtain rfl : i = k := by omega
                                rw [EG.out, ES.out, EZ.out, EC.out]
                                exact ⟨HK.out, cle, by have := HC1.out; have := HS0.out; omega⟩
                          case measure => simp [intOf]; omega
                    · have d1 : decide ((1 : Int) < ci) = true := by have := HCI.out; simp; omega
                      have HBF : Hid (b = false) := by
                        show _ = _
                        cases b with
                        | false => rfl
                        | true => exact absurd ((met_iff S F).2 (hb.out.1 rfl).2.2.2.2.2) (fun h => absurd (h.1 k (by have := ls.out; omega)).1 (by rw [EC.out]; exact cle))
                      go_wp2
                      go_ret
                      exact ⟨by rw [HBF.out]; rfl, B0.out⟩

              have f5 : (s != 2) = true := by simpa using t5
              by_cases t6 : z = 0
              · have f6 : (z != 0) = false := by simpa using t6
                have HK : Hid (SlotOk g s z) := by simp only [Hid, SlotOk]; omega
                clear t5 t6
                go_wp2
                go_loopw [6, 85] (fun m i wr => ∃ j : Nat, j ≤ n3 ∧ i = .int .i64 j ∧ m = .int .i64 (((F.take j).count (k : Int) : Nat) : Int) ∧ (F.take j).count (k : Int) ≤ j ∧ wr = w.alloc (.cells #[.slice (some ⟨b0, o0, none⟩) n c0, .slice (some ⟨b1, o1, none⟩) n c1, .slice (some ⟨b2, o2, none⟩) n c2, .slice A3 n3 c3] 26))
                  (fun _ i _ => n3 - (intOf i).toNat)
                case atStart => exact ⟨0, by omega, rfl, by simp, by simp, rfl⟩
                case round =>
                  obtain ⟨j, hj, rfl, rfl, hcj, rfl⟩ := hrel
                  by_cases hjl : j < n3
                  · obtain ⟨b3, o3, rfl, q3, hx3⟩ := (HF.out.below B0.out hB).at_ hjl
                    have HC := hide (count_next (F := F) (k := k) (j := j) (by have := lf.out; omega))
                    generalize F.getD j 0 = x at hx3 HC
                    generalize (F.take j).count (k : Int) = cj at hcj HC
                    by_cases hxk : x = (k : Int)
                    · have hx1' : (x == (k : Int)) = true := by simpa using hxk
                      have HXK := hide hxk
                      clear hxk
                      go_wp2
                      go_roundw
                      case rel => exact ⟨j + 1, by omega, by go_num, by rw [HC.out, if_pos HXK.out]; go_num, by rw [HC.out, if_pos HXK.out]; omega, trivial⟩
                      case measure => simp [intOf]; omega
                    · have hx1' : (x == (k : Int)) = false := by simpa using hxk
                      have HXK := hide hxk
                      clear hxk
                      go_wp2
                      go_roundw
                      case rel => exact ⟨j + 1, by omega, by go_num, by rw [HC.out, if_neg HXK.out], by rw [HC.out, if_neg HXK.out]; omega, trivial⟩
                      case measure => simp [intOf]; omega
                  · have EC : Hid (F.count (k : Int) = (F.take j).count (k : Int)) := by show _ = _; rw [List.take_of_length_le (by have := lf.out; omega)]
                    generalize (F.take j).count (k : Int) = c at hcj EC
                    obtain ⟨ci, HCI, p1, p2⟩ : ∃ ci : Int, Hid ((c : Int) = ci) ∧ 0 ≤ ci ∧ ci ≤ 200 := ⟨_, rfl, by omega, by omega⟩
                    obtain ⟨qi, HQI, p3, p4⟩ : ∃ qi : Int, Hid ((q : Int) = qi) ∧ 0 ≤ qi ∧ qi ≤ 200 := ⟨_, rfl, by omega, by omega⟩
                    rw [HCI.out, HQI.out]
                    by_cases cle : c ≤ 1
                    · have d1 : decide ((1 : Int) < ci) = false := by have := HCI.out; simp; omega
                      by_cases hc1 : c = 1
                      · have d2 : (ci == 1) = true := by have := HCI.out; simp; omega
                        have HC1 := hide hc1
                        clear hc1
                        by_cases hs0 : s = 0
                        · have d3 : (s == 0) = true := by simpa using hs0
                          have HS0 := hide hs0
                          clear hs0
                          go_wp2
                          go_roundw
                          case rel =>
                            refine ⟨k + 1, q + c, by omega, by go_num, by rw [← HCI.out, ← HQI.out]; go_num, by omega, ?_, trivial, fun i hi => ?_⟩
                            · show _ = _; simp only [metSum]; rw [EC.out, HM.out]
                            · rcases Nat.lt_or_ge i k with h | h
                              · exact HA.out i h
                              · obtain rfl : i = k := by omega
                                rw [EG.out, ES.out, EZ.out, EC.out]
                                exact ⟨HK.out, cle, by have := HC1.out; have := HS0.out; omega⟩
                          case measure => simp [intOf]; omega
                        · have d3 : (s == 0) = false := by simpa using hs0
                          have HS0 := hide hs0
                          clear hs0
                          have HBF : Hid (b = false) := by
                            show _ = _
                            cases b with
                            | false => rfl
                            | true => exact absurd ((met_iff S F).2 (hb.out.1 rfl).2.2.2.2.2) (fun h => absurd (h.1 k (by have := ls.out; omega)).2 (by rw [ES.out, EC.out]; have := HC1.out; have := HS0.out; omega))
                          go_wp2
                          go_ret
                          exact ⟨by rw [HBF.out]; rfl, B0.out⟩
                      · have d2 : (ci == 1) = false := by have := HCI.out; simp; omega
                        have HC1 := hide hc1
                        clear hc1
                        by_cases hs0 : s = 0
                        · have d3 : (s == 0) = true := by simpa using hs0
                          have HS0 := hide hs0
                          clear hs0
                          have HBF : Hid (b = false) := by
                            show _ = _
                            cases b with
                            | false => rfl
                            | true => exact absurd ((met_iff S F).2 (hb.out.1 rfl).2.2.2.2.2) (fun h => absurd (h.1 k (by have := ls.out; omega)).2 (by rw [ES.out, EC.out]; have := HC1.out; have := HS0.out; omega))
                          go_wp2
                          go_ret
                          exact ⟨by rw [HBF.out]; rfl, B0.out⟩
                        · have d3 : (s == 0) = false := by simpa using hs0
                          have HS0 := hide hs0
                          clear hs0
                          go_wp2
                          go_roundw
                          case rel =>
                            refine ⟨k + 1, q + c, by omega, by go_num, by rw [← HCI.out, ← HQI.out]; go_num, by omega, ?_, trivial, fun i hi => ?_⟩
                            · show _ = _; simp only [metSum]; rw [EC.out, HM.out]
                            · rcases Nat.lt_or_ge i k with h | h
                              · exact HA.out i h
                              · obtain rfl : i = k := by omega
                                rw [EG.out, ES.out, EZ.out, EC.out]
                                exact ⟨HK.out, cle, by have := HC1.out; have := HS0.out; omega⟩
                          case measure => simp [intOf]; omega
                    · have d1 : decide ((1 : Int) < ci) = true := by have := HCI.out; simp; omega
                      have HBF : Hid (b = false) := by
                        show _ = _
                        cases b with
                        | false => rfl
                        | true => exact absurd ((met_iff S F).2 (hb.out.1 rfl).2.2.2.2.2) (fun h => absurd (h.1 k (by have := ls.out; omega)).1 (by rw [EC.out]; exact cle))
                      go_wp2
                      go_ret
                      exact ⟨by rw [HBF.out]; rfl, B0.out⟩

              have f6 : (z != 0) = true := by simpa using t6
              have HBF : Hid (b = false) := by
                show _ = _
                cases b with
                | false => rfl
                | true => exact absurd ((hb.out.1 rfl).2.2.2.2.1 k (by have := lg.out; simp at this ⊢; omega)) (by show ¬ SlotOk (G.getD k 0) (S.getD k 0) (W.getD k 0); rw [EG.out, ES.out, EZ.out]; simp only [SlotOk]; omega)
              go_wp2
              go_ret
              exact ⟨by rw [HBF.out]; rfl, B0.out⟩

            · have hdk : decide ((k : Int) < (n : Int)) = false := by simp; omega
              have HKN : Hid (k = n) := by show _ = _; omega
              by_cases hfin : q = n3
              · have f1 : (((q : Nat) : Int) != (n3 : Int)) = false := by simp; omega
                have HBF : Hid (b = true) := by
                  show _ = _
                  have h1 := lg.out
                  have h2 := ls.out
                  have h3 := lt.out
                  have h4 := lf.out
                  have h5 := HKN.out
                  refine hb.out.2 ⟨by simp; omega, by simp; omega, by simp; omega, by simp; omega, fun j hj => (HA.out j (by simp at hj; omega)).1, (met_iff S F).1 ⟨fun j hj => (HA.out j (by omega)).2, ?_⟩⟩
                  rw [show S.length = k by omega, HM.out, hfin]; omega
                clear hfin
                go_wp2
                go_ret
                exact ⟨by rw [HBF.out]; rfl, B0.out⟩
              · have f1 : (((q : Nat) : Int) != (n3 : Int)) = true := by simp; omega
                have HBF : Hid (b = false) := by
                  show _ = _
                  cases b with
                  | false => rfl
                  | true =>
                    have h := ((met_iff S F).2 (hb.out.1 rfl).2.2.2.2.2).2
                    have h2 := ls.out
                    have h4 := lf.out
                    have h5 := HKN.out
                    rw [show S.length = k by omega, HM.out] at h
                    omega
                clear hfin
                go_wp2
                go_ret
                exact ⟨by rw [HBF.out]; rfl, B0.out⟩
        · obtain rfl : b = false := by
            cases b with
            | false => rfl
            | true => have := (hb.out.1 rfl).2.2.2.1; have h1 := lg.out; have h3 := lt.out; simp at this; omega
          subst e1
          have h1 : (((n1 : Nat) : Int) != (n1 : Int)) = false := by simp
          have h2 : (((n2 : Nat) : Int) != (n1 : Int)) = true := by simp; omega
          go_enter Try.func45, Try.ntmps45
          go_wp2
          go_ret
          exact ⟨rfl, (Below.refl _ _).alloc (Nat.le_refl _) _⟩
      · obtain rfl : b = false := by
          cases b with
          | false => rfl
          | true => have := (hb.out.1 rfl).2.2.1; have h1 := lg.out; have h3 := ls.out; simp at this; omega
        have h2 : (((n1 : Nat) : Int) != (n0 : Int)) = true := by simp; omega
        go_enter Try.func45, Try.ntmps45
        go_wp2
        go_ret
        exact ⟨rfl, (Below.refl _ _).alloc (Nat.le_refl _) _⟩
    · have d2 : decide ((64 : Int) < (n0 : Int)) = true := by simp; omega
      obtain rfl : b = false := by
        cases b with
        | false => rfl
        | true => have h5 := (hb.out.1 rfl).2.1; have h1 := lg.out; simp at h5; omega
      go_enter Try.func45, Try.ntmps45
      go_wp2
      go_ret
      exact ⟨rfl, (Below.refl _ _).alloc (Nat.le_refl _) _⟩
  · have d1 : decide ((n0 : Int) < 1) = true := by simp; omega
    obtain rfl : b = false := by
      cases b with
      | false => rfl
      | true => have h4 := (hb.out.1 rfl).1; have h1 := lg.out; simp at h4; omega
    go_enter Try.func45, Try.ntmps45
    go_wp2
    go_ret
    exact ⟨rfl, (Below.refl _ _).alloc (Nat.le_refl _) _⟩

end Go.Proofs.Ythficfmakbblkaa.Pool

/- Words: a pool that is the call's own, of four rows apart from one another; how it is made. -/
namespace Go.Proofs.Ythficfmakbblkaa.Pool
open Go.RowKit
set_option linter.unusedVariables false

theorem Try.size26 : (Try.prog.info? 26).map (·.size) = some 4 := by kernel_rfl
abbrev zeros4 : Array Value := #[.slice none 0 0, .slice none 0 0, .slice none 0 0, .slice none 0 0]

/-- Two addresses lie in different blocks. -/
def Apart (A B : Option Addr) : Prop := ∀ a b, A = some a → B = some b → a.block ≠ b.block

/-- The pool q is the call's own, from block B on, its rows apart, and reads as P. -/
structure Owns (u : World) (B : Nat) (q : Pl) (P : PL) : Prop where
  g : u.ownsRow B 3 1 (.slice q.A0 q.n0 q.c0) q.n0 (ints P.G)
  s : u.ownsRow B 3 1 (.slice q.A1 q.n1 q.c1) q.n1 (ints P.S)
  t : u.ownsRow B 3 1 (.slice q.A2 q.n2 q.c2) q.n2 (ints P.W)
  f : u.ownsRow B 3 1 (.slice q.A3 q.n3 q.c3) q.n3 (ints P.F)
  zg : q.A0 = none → q.c0 = 0
  zs : q.A1 = none → q.c1 = 0
  zt : q.A2 = none → q.c2 = 0
  zf : q.A3 = none → q.c3 = 0
  gs : Apart q.A0 q.A1
  gt : Apart q.A0 q.A2
  gf : Apart q.A0 q.A3
  st : Apart q.A1 q.A2
  sf : Apart q.A1 q.A3
  tf : Apart q.A2 q.A3

section
variable {u u' : World} {B B' n : Nat} {v : Value} {xs : List Value}
theorem own_less (h : u.ownsRow B 3 1 v n xs) (hB : B' ≤ B) : u.ownsRow B' 3 1 v n xs := by
  refine ⟨h.1, ?_⟩
  rcases h.2 with h0 | ⟨g, cap, cur, h1, hb, r⟩
  · exact .inl h0
  · exact .inr ⟨g, cap, cur, h1, Nat.le_trans hB hb, r⟩
/-- .. and in the midst of nothing else. -/
theorem own_free (h : u.ownsRow B 3 1 v n xs) {k : Nat} (hk : k < B) (i : Nat) (x : Value) : (u.setCell ⟨k, i, none⟩ x).ownsRow B 3 1 v n xs := by
  refine ⟨h.1, ?_⟩
  rcases h.2 with h0 | ⟨g, cap, cur, h1, hb, hg, r⟩
  · exact .inl h0
  · exact .inr ⟨g, cap, cur, h1, hb, (Below.heap_setCell u ⟨k, i, none⟩ x g (by simp; omega)).trans hg, r⟩
theorem own_addr {A : Option Addr} {c : Nat} (h : u.ownsRow B 3 1 (.slice A n c) n xs) : ∀ a, A = some a → B ≤ a.block ∧ a.block < u.heap.size := by
  intro a ha
  subst ha
  rcases h.2 with ⟨h1, _⟩ | ⟨g, cap, cur, h1, hb, hg, r⟩
  · cases h1
  · simp only [Value.slice.injEq, Option.some.injEq] at h1
    obtain ⟨rfl, _, _⟩ := h1
    exact ⟨hb, (Array.getElem?_eq_some_iff.1 hg).1⟩
theorem apart_of {A A' : Option Addr} {c n' c' : Nat} {xs' : List Value} (h : u.ownsRow B 3 1 (.slice A n c) n xs) (h' : u'.ownsRow B' 3 1 (.slice A' n' c') n' xs') (hle : u.heap.size ≤ B') : Apart A A' := by
  intro a b ha hb
  have h1 := own_addr h a ha
  have h2 := own_addr h' b hb
  omega
end

/-- What is kept while a pool's own copy is made: all that was there, and the box. -/
def Kept (w u : World) (cs : Array Value) : Prop := Below w.heap.size w u ∧ PBox u w.heap.size cs
theorem Kept.step {w u u' : World} {cs : Array Value} (h : Kept w u cs) (hb : Below u.heap.size u u') : Kept w u' cs := ⟨next_call h.1 (Nat.le_refl _) hb, h.2.step hb⟩
theorem Kept.first (w : World) (cs : Array Value) (o : Obj) : Kept w ((w.alloc (.cells cs 26)).alloc o).drew cs :=
  ⟨(((Below.refl _ _).alloc (Nat.le_refl _) _).alloc (by simp) _).drew, (PBox.new w cs).alloc o⟩

theorem set4_heap {u : World} {g : Nat} {t : TypeId} (h : u.heap[g]? = some (.cells zeros4 t (0, 0))) (p q r s : Value) :
    ((((u.setCell ⟨g, 0, none⟩ p).setCell ⟨g, 1, none⟩ q).setCell ⟨g, 2, none⟩ r).setCell ⟨g, 3, none⟩ s).heap[g]? = some (.cells #[p, q, r, s] t (0, 0)) := by
  have h1 := heap_setCell_same u g 0 _ t p h
  have h2 := heap_setCell_same _ g 1 _ t q h1
  have h3 := heap_setCell_same _ g 2 _ t r h2
  exact heap_setCell_same _ g 3 _ t s h3
theorem set4_below {B : Nat} {a u : World} {g : Nat} (h : Below B a u) (hg : B ≤ g) (p q r s : Value) :
    Below B a ((((u.setCell ⟨g, 0, none⟩ p).setCell ⟨g, 1, none⟩ q).setCell ⟨g, 2, none⟩ r).setCell ⟨g, 3, none⟩ s) :=
  (((h.setCell (p := ⟨g, 0, none⟩) hg p).setCell (p := ⟨g, 1, none⟩) hg q).setCell (p := ⟨g, 2, none⟩) hg r).setCell (p := ⟨g, 3, none⟩) hg s
theorem set4_own {u : World} {B n k : Nat} {v : Value} {xs : List Value} (h : u.ownsRow B 3 1 v n xs) (hk : k < B) (p q r s : Value) :
    ((((u.setCell ⟨k, 0, none⟩ p).setCell ⟨k, 1, none⟩ q).setCell ⟨k, 2, none⟩ r).setCell ⟨k, 3, none⟩ s).ownsRow B 3 1 v n xs :=
  own_free (own_free (own_free (own_free h hk 0 p) hk 1 q) hk 2 r) hk 3 s
theorem kept_set {w u : World} {cs : Array Value} (h : Kept w u cs) (p q r s : Value) :
    Kept w ((((u.setCell ⟨w.heap.size + 1, 0, none⟩ p).setCell ⟨w.heap.size + 1, 1, none⟩ q).setCell ⟨w.heap.size + 1, 2, none⟩ r).setCell ⟨w.heap.size + 1, 3, none⟩ s) cs :=
  ⟨set4_below h.1 (by omega) p q r s, (((h.2.other (by omega) p).other (by omega) q).other (by omega) r).other (by omega) s⟩
theorem zero_cells {u : World} {g : Nat} (h : u.heap[g]? = some (.cells zeros4 26 (0, 0))) :
    u.cell? ⟨g, 0, none⟩ = some (.slice none 0 0) ∧ u.frozen? ⟨g, 0, none⟩ = false ∧ u.cell? ⟨g, 1, none⟩ = some (.slice none 0 0) ∧ u.frozen? ⟨g, 1, none⟩ = false ∧
    u.cell? ⟨g, 2, none⟩ = some (.slice none 0 0) ∧ u.frozen? ⟨g, 2, none⟩ = false ∧ u.cell? ⟨g, 3, none⟩ = some (.slice none 0 0) ∧ u.frozen? ⟨g, 3, none⟩ = false :=
  ⟨cell_of_row u g 0 _ 26 (0, 0) h, frozen_of_row u g 0 _ 26 h, cell_of_row u g 1 _ 26 (0, 0) h, frozen_of_row u g 1 _ 26 h, cell_of_row u g 2 _ 26 (0, 0) h, frozen_of_row u g 2 _ 26 h, cell_of_row u g 3 _ 26 (0, 0) h, frozen_of_row u g 3 _ 26 h⟩

/-- What a call tells that tells one pool of its own. -/
def TellP (w : World) (P : PL) (e : Ending) (w' : World) : Prop := ∃ q : Pl, e = .returned q.val ∧ Owns w' w.heap.size q P ∧ Below w.heap.size w w'

theorem fresh_end {w u0 uG uS uT uF : World} {P : PL} {A0 A1 A2 A3 : Option Addr} {n0 n1 n2 n3 c0 c1 c2 c3 : Nat} (h0 : u0.heap.size = w.heap.size + 2) (hz : u0.heap[w.heap.size + 1]? = some (.cells zeros4 26 (0, 0)))
    (oG : uG.ownsRow u0.heap.size 3 1 (.slice A0 n0 c0) n0 (ints P.G)) (bG : Below u0.heap.size u0 uG) (zG : A0 = none → c0 = 0)
    (oS : uS.ownsRow uG.heap.size 3 1 (.slice A1 n1 c1) n1 (ints P.S)) (bS : Below uG.heap.size uG uS) (zS : A1 = none → c1 = 0)
    (oT : uT.ownsRow uS.heap.size 3 1 (.slice A2 n2 c2) n2 (ints P.W)) (bT : Below uS.heap.size uS uT) (zT : A2 = none → c2 = 0)
    (oF : uF.ownsRow uT.heap.size 3 1 (.slice A3 n3 c3) n3 (ints P.F)) (bF : Below uT.heap.size uT uF) (zF : A3 = none → c3 = 0) (p q r s : Value) :
    Owns ((((uF.setCell ⟨w.heap.size + 1, 0, none⟩ p).setCell ⟨w.heap.size + 1, 1, none⟩ q).setCell ⟨w.heap.size + 1, 2, none⟩ r).setCell ⟨w.heap.size + 1, 3, none⟩ s) w.heap.size ⟨A0, A1, A2, A3, n0, n1, n2, n3, c0, c1, c2, c3⟩ P ∧
    uF.heap[w.heap.size + 1]? = some (.cells zeros4 26 (0, 0)) := by
  have s1 := bG.size
  have s2 := bS.size
  have s3 := bT.size
  have s4 := bF.size
  constructor
  · refine ⟨?_, ?_, ?_, ?_, zG, zS, zT, zF, apart_of oG oS (Nat.le_refl _), apart_of oG oT s2, apart_of oG oF (by omega), apart_of oS oT (Nat.le_refl _), apart_of oS oF s3, apart_of oT oF (Nat.le_refl _)⟩
    · exact own_less (set4_own (own_below (own_below (own_below oG bS) bT) bF) (by omega) p q r s) (by omega)
    · exact own_less (set4_own (own_below (own_below oS bT) bF) (by omega) p q r s) (by omega)
    · exact own_less (set4_own (own_below oT bF) (by omega) p q r s) (by omega)
    · exact own_less (set4_own oF (by omega) p q r s) (by omega)
  · rw [bF.block _ (by omega), bT.block _ (by omega), bS.block _ (by omega), bG.block _ (by omega)]
    exact hz

theorem zero_of {w uG uS uT uF : World} {cs : Array Value} (bG : Below ((w.alloc (.cells cs 26)).alloc (.cells zeros4 26)).drew.heap.size ((w.alloc (.cells cs 26)).alloc (.cells zeros4 26)).drew uG) (bS : Below uG.heap.size uG uS) (bT : Below uS.heap.size uS uT) (bF : Below uT.heap.size uT uF) :
    uF.heap[w.heap.size + 1]? = some (.cells zeros4 26 (0, 0)) := by
  have s0 : ((w.alloc (.cells cs 26)).alloc (.cells zeros4 26)).drew.heap.size = w.heap.size + 2 := by show ((w.alloc _).alloc _).heap.size = _; simp
  have s1 := bG.size
  have s2 := bS.size
  have s3 := bT.size
  rw [bF.block _ (by omega), bT.block _ (by omega), bS.block _ (by omega), bG.block _ (by omega)]
  exact heap_alloc2_new w _ _

end Go.Proofs.Ythficfmakbblkaa.Pool

/- What fresh tells: a pool of its own. -/
namespace Go.Proofs.Ythficfmakbblkaa.Pool
open Go.RowKit
set_option maxRecDepth 100000
set_option linter.unusedVariables false

set_option maxHeartbeats 4000000 in
theorem fresh_any (p : Pl) (P : PL) (B : Nat) (w : World) (hr : Reads w B p P) (hB : B ≤ w.heap.size) (hm : Small p) :
    Calls Try.prog 72 #[p.val] w (TellP w P) := by
  obtain ⟨A0, A1, A2, A3, n0, n1, n2, n3, c0, c1, c2, c3⟩ := p
  obtain ⟨G, S, W, F⟩ := P
  obtain ⟨hg, hs, ht, hf, zg, zs, zt, zf⟩ := hr
  obtain ⟨m0, m1, m2, m3⟩ := hm
  dsimp only at hg hs ht hf zg zs zt zf m0 m1 m2 m3
  have HCG : Hid (∀ u, Hid (Kept w u (C4 A0 A1 A2 A3 n0 n1 n2 n3 c0 c1 c2 c3)) → Calls Try.prog 88 #[.slice A0 n0 c0] u (Tell u n0 G)) := fun u hu => clone_any _ _ _ B _ _ (hg.below hu.out.1 hB) zg (Nat.le_trans hB hu.out.1.size) m0
  have HCS : Hid (∀ u, Hid (Kept w u (C4 A0 A1 A2 A3 n0 n1 n2 n3 c0 c1 c2 c3)) → Calls Try.prog 88 #[.slice A1 n1 c1] u (Tell u n1 S)) := fun u hu => clone_any _ _ _ B _ _ (hs.below hu.out.1 hB) zs (Nat.le_trans hB hu.out.1.size) m1
  have HCT : Hid (∀ u, Hid (Kept w u (C4 A0 A1 A2 A3 n0 n1 n2 n3 c0 c1 c2 c3)) → Calls Try.prog 88 #[.slice A2 n2 c2] u (Tell u n2 W)) := fun u hu => clone_any _ _ _ B _ _ (ht.below hu.out.1 hB) zt (Nat.le_trans hB hu.out.1.size) m2
  have HCF : Hid (∀ u, Hid (Kept w u (C4 A0 A1 A2 A3 n0 n1 n2 n3 c0 c1 c2 c3)) → Calls Try.prog 88 #[.slice A3 n3 c3] u (Tell u n3 F)) := fun u hu => clone_any _ _ _ B _ _ (hf.below hu.out.1 hB) zf (Nat.le_trans hB hu.out.1.size) m3
  clear hg hs ht hf zg zs zt zf
  have hN : Hid (∀ u, Hid (Kept w u (C4 A0 A1 A2 A3 n0 n1 n2 n3 c0 c1 c2 c3)) → (u.cell? ⟨w.heap.size, 0, none⟩ = some (.slice A0 n0 c0) ∧ u.cell? ⟨w.heap.size, 1, none⟩ = some (.slice A1 n1 c1) ∧ u.cell? ⟨w.heap.size, 2, none⟩ = some (.slice A2 n2 c2) ∧ u.cell? ⟨w.heap.size, 3, none⟩ = some (.slice A3 n3 c3) ∧ Hid (Kept w u (C4 A0 A1 A2 A3 n0 n1 n2 n3 c0 c1 c2 c3)))) :=
    fun u hu => ⟨hu.out.2.cells 0, hu.out.2.cells 1, hu.out.2.cells 2, hu.out.2.cells 3, hu⟩
  have D0 := hide (Kept.first w (C4 A0 A1 A2 A3 n0 n1 n2 n3 c0 c1 c2 c3) (.cells zeros4 26))
  go_enter Try.func72, Try.ntmps72
  go_wp2
  go_region_held3 (fun u => u.cell? ⟨w.heap.size, 0, none⟩ = some (.slice A0 n0 c0) ∧ u.cell? ⟨w.heap.size, 1, none⟩ = some (.slice A1 n1 c1) ∧ u.cell? ⟨w.heap.size, 2, none⟩ = some (.slice A2 n2 c2) ∧ u.cell? ⟨w.heap.size, 3, none⟩ = some (.slice A3 n3 c3) ∧ Hid (Kept w u (C4 A0 A1 A2 A3 n0 n1 n2 n3 c0 c1 c2 c3)))
    (first | exact hN.out _ D0 | exact hN.out _ (by assumption) | exact hN.out _ (hide (kept_set (Hid.out (by assumption)) _ _ _ _)))
    (first | (go_at_call 88; refine (HCG.out _ ?_).mono ?_; (exact (by assumption)); rintro e uG ⟨AG, cG, rfl, zG, oG, bG⟩; have KG := hide (Kept.step (Hid.out (by assumption)) bG)) | (go_at_call 88; refine (HCS.out _ ?_).mono ?_; (exact (by assumption)); rintro e uS ⟨AS, cS, rfl, zS, oS, bS⟩; have KS := hide (Kept.step (Hid.out (by assumption)) bS)) | (go_at_call 88; refine (HCT.out _ ?_).mono ?_; (exact (by assumption)); rintro e uT ⟨AT, cT, rfl, zT, oT, bT⟩; have KT := hide (Kept.step (Hid.out (by assumption)) bT)) | (go_at_call 88; refine (HCF.out _ ?_).mono ?_; (exact (by assumption)); rintro e uF ⟨AF, cF, rfl, zF, oF, bF⟩; have KF := hide (Kept.step (Hid.out (by assumption)) bF); have HZ4 := hide (zero_of bG bS bT bF); obtain ⟨y0, f0, y1, f1, y2, f2, y3, f3⟩ := zero_cells HZ4.out))
  clear y0 f0 y1 f1 y2 f2 y3 f3
  go_wp2
  have HE := fresh_end (P := ⟨G, S, W, F⟩) (u0 := ((w.alloc (.cells (C4 A0 A1 A2 A3 n0 n1 n2 n3 c0 c1 c2 c3) 26)).alloc (.cells zeros4 26)).drew) (by show ((w.alloc _).alloc _).heap.size = _; simp) (heap_alloc2_new w _ _) oG bG zG oS bS zS oT bT zT oF bF zF (.slice AG n0 cG) (.slice AS n1 cS) (.slice AT n2 cT) (.slice AF n3 cF)
  refine bodyPost_ret (results_cell_row rfl _ _ (w.heap.size + 1) 26 _ (0, 0) _ rfl (set4_heap HE.2 _ _ _ _) Try.underlying26 rfl Try.size26) rfl ⟨⟨AG, AS, AT, AF, n0, n1, n2, n3, cG, cS, cT, cF⟩, rfl, HE.1, set4_below KF.out.1 (by omega) _ _ _ _⟩

end Go.Proofs.Ythficfmakbblkaa.Pool

/- What the document's Copy tells: a pool of its own. -/
namespace Go.Proofs.Ythficfmakbblkaa.Pool
open Go.RowKit
set_option maxRecDepth 100000
set_option linter.unusedVariables false

set_option maxHeartbeats 4000000 in
theorem rcopyp_any (p : Pl) (P : PL) (B : Nat) (w : World) (hr : Reads w B p P) (hB : B ≤ w.heap.size) (hm : Small p) :
    Calls Try.prog 74 #[p.val] w (TellP w P) := by
  obtain ⟨A0, A1, A2, A3, n0, n1, n2, n3, c0, c1, c2, c3⟩ := p
  obtain ⟨G, S, W, F⟩ := P
  obtain ⟨hg, hs, ht, hf, zg, zs, zt, zf⟩ := hr
  obtain ⟨m0, m1, m2, m3⟩ := hm
  dsimp only at hg hs ht hf zg zs zt zf m0 m1 m2 m3
  have HCG : Hid (∀ u, Hid (Kept w u (C4 A0 A1 A2 A3 n0 n1 n2 n3 c0 c1 c2 c3)) → Calls Try.prog 80 #[.slice A0 n0 c0] u (Tell u n0 G)) := fun u hu => rcopy_any _ _ _ B _ _ (hg.below hu.out.1 hB) zg m0
  have HCS : Hid (∀ u, Hid (Kept w u (C4 A0 A1 A2 A3 n0 n1 n2 n3 c0 c1 c2 c3)) → Calls Try.prog 80 #[.slice A1 n1 c1] u (Tell u n1 S)) := fun u hu => rcopy_any _ _ _ B _ _ (hs.below hu.out.1 hB) zs m1
  have HCT : Hid (∀ u, Hid (Kept w u (C4 A0 A1 A2 A3 n0 n1 n2 n3 c0 c1 c2 c3)) → Calls Try.prog 80 #[.slice A2 n2 c2] u (Tell u n2 W)) := fun u hu => rcopy_any _ _ _ B _ _ (ht.below hu.out.1 hB) zt m2
  have HCF : Hid (∀ u, Hid (Kept w u (C4 A0 A1 A2 A3 n0 n1 n2 n3 c0 c1 c2 c3)) → Calls Try.prog 80 #[.slice A3 n3 c3] u (Tell u n3 F)) := fun u hu => rcopy_any _ _ _ B _ _ (hf.below hu.out.1 hB) zf m3
  clear hg hs ht hf zg zs zt zf
  have hN : Hid (∀ u, Hid (Kept w u (C4 A0 A1 A2 A3 n0 n1 n2 n3 c0 c1 c2 c3)) → (u.cell? ⟨w.heap.size, 0, none⟩ = some (.slice A0 n0 c0) ∧ u.cell? ⟨w.heap.size, 1, none⟩ = some (.slice A1 n1 c1) ∧ u.cell? ⟨w.heap.size, 2, none⟩ = some (.slice A2 n2 c2) ∧ u.cell? ⟨w.heap.size, 3, none⟩ = some (.slice A3 n3 c3) ∧ Hid (Kept w u (C4 A0 A1 A2 A3 n0 n1 n2 n3 c0 c1 c2 c3)))) :=
    fun u hu => ⟨hu.out.2.cells 0, hu.out.2.cells 1, hu.out.2.cells 2, hu.out.2.cells 3, hu⟩
  have D0 := hide (Kept.first w (C4 A0 A1 A2 A3 n0 n1 n2 n3 c0 c1 c2 c3) (.cells zeros4 26))
  go_enter Try.func74, Try.ntmps74
  go_wp2
  go_region_held3 (fun u => u.cell? ⟨w.heap.size, 0, none⟩ = some (.slice A0 n0 c0) ∧ u.cell? ⟨w.heap.size, 1, none⟩ = some (.slice A1 n1 c1) ∧ u.cell? ⟨w.heap.size, 2, none⟩ = some (.slice A2 n2 c2) ∧ u.cell? ⟨w.heap.size, 3, none⟩ = some (.slice A3 n3 c3) ∧ Hid (Kept w u (C4 A0 A1 A2 A3 n0 n1 n2 n3 c0 c1 c2 c3)))
    (first | exact hN.out _ D0 | exact hN.out _ (by assumption) | exact hN.out _ (hide (kept_set (Hid.out (by assumption)) _ _ _ _)))
    (first | (go_at_call 80; refine (HCG.out _ ?_).mono ?_; (exact (by assumption)); rintro e uG ⟨AG, cG, rfl, zG, oG, bG⟩; have KG := hide (Kept.step (Hid.out (by assumption)) bG)) | (go_at_call 80; refine (HCS.out _ ?_).mono ?_; (exact (by assumption)); rintro e uS ⟨AS, cS, rfl, zS, oS, bS⟩; have KS := hide (Kept.step (Hid.out (by assumption)) bS)) | (go_at_call 80; refine (HCT.out _ ?_).mono ?_; (exact (by assumption)); rintro e uT ⟨AT, cT, rfl, zT, oT, bT⟩; have KT := hide (Kept.step (Hid.out (by assumption)) bT)) | (go_at_call 80; refine (HCF.out _ ?_).mono ?_; (exact (by assumption)); rintro e uF ⟨AF, cF, rfl, zF, oF, bF⟩; have KF := hide (Kept.step (Hid.out (by assumption)) bF); have HZ4 := hide (zero_of bG bS bT bF); obtain ⟨y0, f0, y1, f1, y2, f2, y3, f3⟩ := zero_cells HZ4.out))
  clear y0 f0 y1 f1 y2 f2 y3 f3
  go_wp2
  have HE := fresh_end (P := ⟨G, S, W, F⟩) (u0 := ((w.alloc (.cells (C4 A0 A1 A2 A3 n0 n1 n2 n3 c0 c1 c2 c3) 26)).alloc (.cells zeros4 26)).drew) (by show ((w.alloc _).alloc _).heap.size = _; simp) (heap_alloc2_new w _ _) oG bG zG oS bS zS oT bT zT oF bF zF (.slice AG n0 cG) (.slice AS n1 cS) (.slice AT n2 cT) (.slice AF n3 cF)
  refine bodyPost_ret (results_cell_row rfl _ _ (w.heap.size + 1) 26 _ (0, 0) _ rfl (set4_heap HE.2 _ _ _ _) Try.underlying26 rfl Try.size26) rfl ⟨⟨AG, AS, AT, AF, n0, n1, n2, n3, cG, cS, cT, cF⟩, rfl, HE.1, set4_below KF.out.1 (by omega) _ _ _ _⟩

end Go.Proofs.Ythficfmakbblkaa.Pool

/- Several rows and a box made in one statement, in whatever order: what stands behind them does not hang on the order. No conditions. -/
namespace Go.Proofs.Ythficfmakbblkaa.Pool
open Go.RowKit

/-- b, but v at k. -/
def upd {α : Type} (b : Nat → α) (k : Nat) (v : α) : Nat → α := fun j => if j = k then v else b j
theorem upd_same {α : Type} (b : Nat → α) (k : Nat) (v : α) : upd b k v k = v := by simp [upd]
theorem upd_other {α : Type} (b : Nat → α) {k j : Nat} (v : α) (h : j ≠ k) : upd b k v j = b j := by simp [upd, h]

/-- How many of the first m are not yet done. -/
def pend (b : Nat → Bool) : Nat → Nat
  | 0 => 0
  | m + 1 => pend b m + (if b m then 0 else 1)

theorem pend_far (b : Nat → Bool) (k : Nat) : ∀ m, m ≤ k → pend (upd b k true) m = pend b m
  | 0, _ => rfl
  | m + 1, h => by rw [pend, pend, pend_far b k m (by omega), upd_other b true (by omega)]

theorem pend_upd (b : Nat → Bool) (k : Nat) (hb : b k = false) : ∀ m, k < m → pend (upd b k true) m + 1 = pend b m
  | 0, h => by omega
  | m + 1, h => by
    rw [pend, pend]
    by_cases hk : k = m
    · subst hk
      rw [pend_far b k k (Nat.le_refl _), upd_same, hb]
      simp
    · rw [upd_other b true (by omega)]
      have := pend_upd b k hb m (by omega)
      omega

/-- What is known when those of b are done: each has a block of its own. -/
def Done (w : World) (m : Nat) (mk : Nat → Nat → Value) (ob : Nat → Obj) (b : Nat → Bool) (x : Nat → Value) (u : World) : Prop :=
  Below w.heap.size w u ∧ PBox u w.heap.size zeros4 ∧
  ∃ γ : Nat → Nat, (∀ k, k < m → b k = true → x k = mk k (γ k) ∧ u.heap[γ k]? = some (ob k) ∧ w.heap.size < γ k) ∧ ∀ i j, i < m → j < m → i ≠ j → b i = true → b j = true → γ i ≠ γ j

theorem Done.step {w : World} {m : Nat} {mk : Nat → Nat → Value} {ob : Nat → Obj} {b : Nat → Bool} {x : Nat → Value} {u : World} (h : Done w m mk ob b x u) (k : Nat) :
    Done w m mk ob (upd b k true) (upd x k (mk k u.heap.size)) (u.alloc (ob k)) := by
  obtain ⟨h1, h2, γ, h3, h4⟩ := h
  refine ⟨h1.alloc h1.size _, h2.alloc _, upd γ k u.heap.size, fun i hi hb => ?_, fun i j hi hj hij hbi hbj => ?_⟩
  · by_cases hik : i = k
    · subst hik
      rw [upd_same, upd_same]
      exact ⟨rfl, heap_alloc_new u _, h2.lt⟩
    · rw [upd_other _ _ hik] at hb ⊢
      rw [upd_other _ _ hik]
      obtain ⟨e1, e2, e3⟩ := h3 i hi hb
      exact ⟨e1, (Below.heap_alloc u _ _ (Array.getElem?_eq_some_iff.1 e2).1).trans e2, e3⟩
  · by_cases hik : i = k
    · subst hik
      rw [upd_other _ _ (Ne.symm hij)] at hbj
      rw [upd_same, upd_other _ _ (Ne.symm hij)]
      have := (Array.getElem?_eq_some_iff.1 (h3 j hj hbj).2.1).1
      omega
    · rw [upd_other _ _ hik] at hbi
      by_cases hjk : j = k
      · subst hjk
        rw [upd_same, upd_other _ _ hik]
        have := (Array.getElem?_eq_some_iff.1 (h3 i hi hbi).2.1).1
        omega
      · rw [upd_other _ _ hjk] at hbj
        rw [upd_other _ _ hik, upd_other _ _ hjk]
        exact h4 i j hi hj hij hbi hbj

theorem makers {P : Program} {md : Region.Mode} {ops : Array Oper} {Q : Exit → Act → World → Prop} (w : World) (m : Nat) (A : (Nat → Value) → Act) (op : Nat → Nat) (mk : Nat → Nat → Value) (ob : Nat → Obj) (Lst : (Nat → Bool) → Array Bool) (full : (Nat → Bool) → Bool)
    (hL : ∀ b k, k < m → (Lst b).setIfInBounds (op k) true = Lst (upd b k true))
    (hR : ∀ b, full b = false → Region.ready md ops (Lst b) ≠ [] ∧ ∀ i ∈ Region.ready md ops (Lst b), ∃ k, k < m ∧ b k = false ∧ i = op k)
    (hS : ∀ k, k < m → ∀ x u (K : Act → World → Prop), K (A (upd x k (mk k u.heap.size))) (u.alloc (ob k)) → wpOp P ops Q (op k) K (A x) u)
    (hF : ∀ b x u, full b = true → Done w m mk ob b x u → wpAny P md ops Q (2 + pend b m) (Lst b) (A x) u) :
    ∀ f b x u, pend b m = f → Done w m mk ob b x u → wpAny P md ops Q (2 + f) (Lst b) (A x) u := by
  intro f
  induction f with
  | zero =>
    intro b x u hp hd
    cases hfb : full b with
    | true => have := hF b x u hfb hd; rwa [hp] at this
    | false =>
      obtain ⟨hne, hall⟩ := hR b hfb
      obtain ⟨i, hi⟩ := List.exists_mem_of_ne_nil _ hne
      obtain ⟨k, hk, hb, _⟩ := hall i hi
      have := pend_upd b k hb m hk
      omega
  | succ f ih =>
    intro b x u hp hd
    cases hfb : full b with
    | true => have := hF b x u hfb hd; rwa [hp] at this
    | false =>
      obtain ⟨hne, hall⟩ := hR b hfb
      show wpAny P md ops Q (2 + f + 1) (Lst b) (A x) u
      refine ⟨fun h => absurd h hne, fun i hi => ?_⟩
      obtain ⟨k, hk, hb, rfl⟩ := hall i hi
      refine hS k hk x u _ ?_
      rw [hL b k hk]
      exact ih _ _ _ (by have := pend_upd b k hb m hk; omega) (hd.step k)

end Go.Proofs.Ythficfmakbblkaa.Pool

/- What New tells. -/
namespace Go.Proofs.Ythficfmakbblkaa.Pool
open Go.RowKit
set_option maxRecDepth 100000
set_option linter.unusedVariables false

theorem make_rows {P : Program} (t e : TypeId) (i : TypeInfo) (z : Value) (ht : P.underlying t = some (.slice e)) (hi : P.info? e = some i) (hz : i.zero = some z) (n : Nat) (hbytes : i.bytes * n ≤ 281474976710656) (h63 : n ≤ 9223372036854775807) (w : World) :
    (Instr.makeSlice t (.int .i64 (n : Int)) (.int .i64 (n : Int))).run P w = .ok (.slice (some ⟨w.heap.size, 0, none⟩) n n) (w.alloc (.cells (madeCells z.cells (n * i.size)) e)) := by
  have hb : (i.bytes : Int) * (n : Int) ≤ 281474976710656 := by
    have h : ((i.bytes * n : Nat) : Int) ≤ 281474976710656 := by omega
    rwa [Int.natCast_mul] at h
  have hr := run_make (P := P) w t e i z ht hi hz .i64 .i64 n n (by omega) (by omega) hb (by omega)
  simpa only [Int.toNat_natCast] using hr

theorem make_ints (n : Nat) (hn : n ≤ 200) : ∃ Z : Array Value, Hid (Z = (List.replicate n (Value.int .i64 0)).toArray) ∧ ∀ w : World, (Instr.makeSlice 24 (.int .i64 (n : Int)) (.int .i64 (n : Int))).run Try.prog w = .ok (.slice (some ⟨w.heap.size, 0, none⟩) n n) (w.alloc (.cells Z 3)) := by
  obtain ⟨i0, hi0, hz0, hz1, hz2⟩ := info_parts Try.info3
  refine ⟨_, rfl, fun w => ?_⟩
  rw [make_rows 24 3 i0 (.int .i64 0) Try.underlying24 hi0 hz0 n (by rw [hz2]; omega) (by omega) w, hz1, Nat.mul_one]
  rw [show (Value.int IntKind.i64 0).cells = #[Value.int .i64 0] from rfl, ← toList_madeCells_one]

/-- What the first statement of New makes: a pool of four rows, each in a block of its own. -/
structure Made (w wx : World) (Z : Array Value) (g g0 g1 g2 g3 n : Nat) : Prop where
  box : PBox wx g (C4 (some ⟨g0, 0, none⟩) (some ⟨g1, 0, none⟩) (some ⟨g2, 0, none⟩) (some ⟨g3, 0, none⟩) n n n n n n n n)
  r0 : wx.heap[g0]? = some (.cells Z 3 (0, 0))
  r1 : wx.heap[g1]? = some (.cells Z 3 (0, 0))
  r2 : wx.heap[g2]? = some (.cells Z 3 (0, 0))
  r3 : wx.heap[g3]? = some (.cells Z 3 (0, 0))
  res : PBox wx w.heap.size zeros4
  bel : Below w.heap.size w wx
  ne : w.heap.size < g ∧ w.heap.size < g0 ∧ w.heap.size < g1 ∧ w.heap.size < g2 ∧ w.heap.size < g3 ∧ g ≠ g0 ∧ g ≠ g1 ∧ g ≠ g2 ∧ g ≠ g3 ∧ g0 ≠ g1 ∧ g0 ≠ g2 ∧ g0 ≠ g3 ∧ g1 ≠ g2 ∧ g1 ≠ g3 ∧ g2 ≠ g3

abbrev mk5 (n k g : Nat) : Value := if k = 4 then .pointer (some ⟨g, 0, none⟩) else .slice (some ⟨g, 0, none⟩) n n
abbrev ob5 (Z : Array Value) (k : Nat) : Obj := if k = 4 then .cells zeros4 26 else .cells Z 3
abbrev op5 (k : Nat) : Nat := 2 * k + 1
abbrev ls5 (b : Nat → Bool) : Array Bool := #[true, b 0, true, b 1, true, b 2, true, b 3, false, b 4, false]
abbrev fl5 (b : Nat → Bool) : Bool := b 0 && b 1 && b 2 && b 3
def rd5 (b0 b1 b2 b3 b4 : Bool) : List Nat :=
  (if b0 then [] else [1]) ++ (if b1 then [] else [3]) ++ (if b2 then [] else [5]) ++ (if b3 then [] else [7]) ++ (if b0 && b1 && b2 && b3 then [8] else []) ++ (if b4 then [] else [9])

theorem ready5 {md : Region.Mode} {ops : Array Oper} (h : ∀ b0 b1 b2 b3 b4 : Bool, Region.ready md ops #[true, b0, true, b1, true, b2, true, b3, false, b4, false] = rd5 b0 b1 b2 b3 b4) (b : Nat → Bool) (hb : fl5 b = false) :
    Region.ready md ops (ls5 b) ≠ [] ∧ ∀ i ∈ Region.ready md ops (ls5 b), ∃ k, k < 5 ∧ b k = false ∧ i = op5 k := by
  have e := h (b 0) (b 1) (b 2) (b 3) (b 4)
  have e' : Region.ready md ops (ls5 b) = rd5 (b 0) (b 1) (b 2) (b 3) (b 4) := e
  rw [e']
  have hf : (b 0 && b 1 && b 2 && b 3) = false := hb
  unfold rd5
  rw [hf]
  constructor
  · intro h0
    cases h0' : b 0 <;> cases h1' : b 1 <;> cases h2' : b 2 <;> cases h3' : b 3 <;> simp [h0', h1', h2', h3'] at h0 hf
  · intro i hi
    simp only [List.mem_append] at hi
    rcases hi with ((((h | h) | h) | h) | h) | h
    · cases h0 : b 0 <;> simp [h0] at h; exact ⟨0, by omega, h0, h⟩
    · cases h0 : b 1 <;> simp [h0] at h; exact ⟨1, by omega, h0, h⟩
    · cases h0 : b 2 <;> simp [h0] at h; exact ⟨2, by omega, h0, h⟩
    · cases h0 : b 3 <;> simp [h0] at h; exact ⟨3, by omega, h0, h⟩
    · simp at h
    · cases h0 : b 4 <;> simp [h0] at h; exact ⟨4, by omega, h0, h⟩

theorem set5 (b : Nat → Bool) (k : Nat) (hk : k < 5) : (ls5 b).setIfInBounds (op5 k) true = ls5 (upd b k true) := by
  match k, hk with
  | 0, _ => rfl
  | 1, _ => rfl
  | 2, _ => rfl
  | 3, _ => rfl
  | 4, _ => rfl

abbrev fr5 (n r : Nat) (x4 x11 x13 x15 x17 x18 : Value) : Act :=
  ⟨#[.int .i64 (n : Int), undef, .pointer (some ⟨r, 0, none⟩), .int .i64 0, x4, undef, .int .i64 (n : Int), .bool true, .bool false, undef, .int .i64 (n : Int), x11, .int .i64 (n : Int), x13, .int .i64 (n : Int), x15, .int .i64 (n : Int), x17, x18,
    undef, undef, undef, undef, undef, undef, undef, undef, undef, undef, undef, undef, undef, undef, undef], []⟩


theorem heap_free {u : World} {k : Nat} {o : Obj} {g : Nat} (h : u.heap[k]? = some o) (hk : g ≠ k) (p q r s : Value) :
    ((((u.setCell ⟨g, 0, none⟩ p).setCell ⟨g, 1, none⟩ q).setCell ⟨g, 2, none⟩ r).setCell ⟨g, 3, none⟩ s).heap[k]? = some o := by
  have hk' : k ≠ g := hk.symm
  rw [Below.heap_setCell _ ⟨g, 3, none⟩ s k (by simpa using hk'), Below.heap_setCell _ ⟨g, 2, none⟩ r k (by simpa using hk'), Below.heap_setCell _ ⟨g, 1, none⟩ q k (by simpa using hk'), Below.heap_setCell _ ⟨g, 0, none⟩ p k (by simpa using hk')]
  exact h

/-- The box was made last. -/
theorem made_new {w u : World} {Z : Array Value} {n g0 g1 g2 g3 : Nat} (hb : Below w.heap.size w u) (hx : PBox u w.heap.size zeros4) (r0 : u.heap[g0]? = some (.cells Z 3 (0, 0))) (r1 : u.heap[g1]? = some (.cells Z 3 (0, 0))) (r2 : u.heap[g2]? = some (.cells Z 3 (0, 0))) (r3 : u.heap[g3]? = some (.cells Z 3 (0, 0)))
    (l : w.heap.size < g0 ∧ w.heap.size < g1 ∧ w.heap.size < g2 ∧ w.heap.size < g3 ∧ g0 ≠ g1 ∧ g0 ≠ g2 ∧ g0 ≠ g3 ∧ g1 ≠ g2 ∧ g1 ≠ g3 ∧ g2 ≠ g3) :
    Made w (u.alloc (.cells (C4 (some ⟨g0, 0, none⟩) (some ⟨g1, 0, none⟩) (some ⟨g2, 0, none⟩) (some ⟨g3, 0, none⟩) n n n n n n n n) 26)) Z u.heap.size g0 g1 g2 g3 n := by
  have q0 := (Array.getElem?_eq_some_iff.1 r0).1
  have q1 := (Array.getElem?_eq_some_iff.1 r1).1
  have q2 := (Array.getElem?_eq_some_iff.1 r2).1
  have q3 := (Array.getElem?_eq_some_iff.1 r3).1
  refine ⟨PBox.new u _, (Below.heap_alloc u _ _ q0).trans r0, (Below.heap_alloc u _ _ q1).trans r1, (Below.heap_alloc u _ _ q2).trans r2, (Below.heap_alloc u _ _ q3).trans r3, hx.alloc _, hb.alloc hb.size _, ?_⟩
  omega

/-- It was made before. -/
theorem made_old {w u : World} {Z : Array Value} {n g g0 g1 g2 g3 : Nat} (hb : Below w.heap.size w u) (hx : PBox u w.heap.size zeros4) (hg : PBox u g zeros4) (r0 : u.heap[g0]? = some (.cells Z 3 (0, 0))) (r1 : u.heap[g1]? = some (.cells Z 3 (0, 0))) (r2 : u.heap[g2]? = some (.cells Z 3 (0, 0))) (r3 : u.heap[g3]? = some (.cells Z 3 (0, 0)))
    (l : w.heap.size < g ∧ w.heap.size < g0 ∧ w.heap.size < g1 ∧ w.heap.size < g2 ∧ w.heap.size < g3 ∧ g ≠ g0 ∧ g ≠ g1 ∧ g ≠ g2 ∧ g ≠ g3 ∧ g0 ≠ g1 ∧ g0 ≠ g2 ∧ g0 ≠ g3 ∧ g1 ≠ g2 ∧ g1 ≠ g3 ∧ g2 ≠ g3) :
    Made w ((((u.setCell ⟨g, 0, none⟩ (.slice (some ⟨g0, 0, none⟩) n n)).setCell ⟨g, 1, none⟩ (.slice (some ⟨g1, 0, none⟩) n n)).setCell ⟨g, 2, none⟩ (.slice (some ⟨g2, 0, none⟩) n n)).setCell ⟨g, 3, none⟩ (.slice (some ⟨g3, 0, none⟩) n n)) Z g g0 g1 g2 g3 n := by
  obtain ⟨l0, l1, l2, l3, l4, l5, l6, l7, l8, l9⟩ := l
  refine ⟨set4_heap hg _ _ _ _, heap_free r0 l5 _ _ _ _, heap_free r1 l6 _ _ _ _, heap_free r2 l7 _ _ _ _, heap_free r3 l8 _ _ _ _, heap_free hx (by omega) _ _ _ _, set4_below hb (by omega) _ _ _ _, ?_⟩
  omega


/-- A pool, and a number: what a call tells. -/
def TellE (w : World) (P : PL) (err : Int) (e : Ending) (w' : World) : Prop := ∃ q : Pl, e = .returned (.tuple #[q.val, .int .i64 err]) ∧ Owns w' w.heap.size q P ∧ Below w.heap.size w w'

/-- No pool. -/
def noP : PL := ⟨[], [], [], []⟩
abbrev noPl : Pl := ⟨none, none, none, none, 0, 0, 0, 0, 0, 0, 0, 0⟩
theorem owns_none (u : World) (B : Nat) : Owns u B noPl noP :=
  ⟨World.ownsRow_nil _ _ _ _, World.ownsRow_nil _ _ _ _, World.ownsRow_nil _ _ _ _, World.ownsRow_nil _ _ _ _, fun _ => rfl, fun _ => rfl, fun _ => rfl, fun _ => rfl, (fun _ _ h => by cases h), (fun _ _ h => by cases h), (fun _ _ h => by cases h), (fun _ _ h => by cases h), (fun _ _ h => by cases h), (fun _ _ h => by cases h)⟩

/-- A struct result and another one. -/
theorem results_row_tmp {P : Program} {fn : Func} {p u : Tmp} {ty : TypeId} (h : fn.results = #[.cell p ty, .tmp u]) (tmps : Array Value) (w : World) (g : Nat) (t : TypeId) (cs : Array Value) (fr : Nat × Nat) (d : TypeDesc)
    (hp : tmps.getD p undef = .pointer (some ⟨g, 0, none⟩)) (hg : w.heap[g]? = some (.cells cs t fr))
    (hu : P.underlying ty = some d) (hd : (match d with | .struct _ | .array _ _ => true | _ => false) = true) (hi : (P.info? ty).map (·.size) = some cs.size) :
    (results fn tmps).run P w = .ok (.tuple #[.agg cs, tmps.getD u undef]) w := by
  have hp' : tmps[p]?.getD undef = .pointer (some ⟨g, 0, none⟩) := by simpa using hp
  simp [results, h, hp', asAddr, run_loadVar_row w g t ty cs fr d hg hu hd hi]

theorem own_of {u : World} {B g n : Nat} {zs : List Int} (h : u.heap[g]? = some (.cells (ints zs).toArray 3 (0, 0))) (hl : zs.length = n) (hn : n ≤ 200) (hB : B ≤ g) : u.ownsRow B 3 1 (.slice (some ⟨g, 0, none⟩) n n) n (ints zs) :=
  ⟨by simpa using hl, .inr ⟨g, n, _, rfl, hB, h, Nat.le_refl _, by simp only [maxLen]; omega, by simpa using hl, by rw [List.take_of_length_le (by simp; omega)]⟩⟩

/-- The slots, in order, the first k of them laid. -/
def upTo (n k : Nat) : List Int := (List.range n).map fun i => if i < k then (i : Int) else 0
theorem upTo_zero (n : Nat) : upTo n 0 = List.replicate n 0 := by
  simp [upTo, List.map_const']
theorem upTo_next (n k : Nat) : (upTo n k).set k (k : Int) = upTo n (k + 1) := by
  apply List.ext_getElem?
  intro i
  simp only [upTo, List.getElem?_set, List.getElem?_map, List.length_map, List.length_range]
  by_cases hi : i < n
  · by_cases hk : k = i
    · subst hk; simp [hi]
    · simp only [hk, if_false, List.getElem?_range hi, Option.map_some]
      by_cases h : i < k
      · simp [h, show i < k + 1 by omega]
      · simp [h, show ¬ i < k + 1 by omega]
  · have : (List.range n)[i]? = none := by simp; omega
    simp [this]
    intro h; omega
theorem upTo_all (n : Nat) : upTo n n = (List.range n).map fun i : Nat => (i : Int) := by
  unfold upTo
  apply List.map_congr_left
  intro i hi
  simp [List.mem_range.1 hi]
theorem upTo_len (n k : Nat) : (upTo n k).length = n := by simp [upTo]

/-- A new pool. -/
def newP (n : Nat) : PL := ⟨List.replicate n 0, List.replicate n 0, List.replicate n 0, (List.range n).map fun i : Nat => (i : Int)⟩

/-- What stands while the slots are laid. -/
structure Laid (w u : World) (g g0 g1 g2 g3 n k : Nat) : Prop where
  box : PBox u g (C4 (some ⟨g0, 0, none⟩) (some ⟨g1, 0, none⟩) (some ⟨g2, 0, none⟩) (some ⟨g3, 0, none⟩) n n n n n n n n)
  r0 : u.ownsRow (w.heap.size + 1) 3 1 (.slice (some ⟨g0, 0, none⟩) n n) n (ints (List.replicate n 0))
  r1 : u.ownsRow (w.heap.size + 1) 3 1 (.slice (some ⟨g1, 0, none⟩) n n) n (ints (List.replicate n 0))
  r2 : u.ownsRow (w.heap.size + 1) 3 1 (.slice (some ⟨g2, 0, none⟩) n n) n (ints (List.replicate n 0))
  r3 : u.ownsRow (w.heap.size + 1) 3 1 (.slice (some ⟨g3, 0, none⟩) n n) n (ints (upTo n k))
  res : PBox u w.heap.size zeros4
  bel : Below w.heap.size w u
  ne : w.heap.size < g ∧ w.heap.size < g0 ∧ w.heap.size < g1 ∧ w.heap.size < g2 ∧ w.heap.size < g3 ∧ g ≠ g0 ∧ g ≠ g1 ∧ g ≠ g2 ∧ g ≠ g3 ∧ g0 ≠ g1 ∧ g0 ≠ g2 ∧ g0 ≠ g3 ∧ g1 ≠ g2 ∧ g1 ≠ g3 ∧ g2 ≠ g3

theorem Laid.first {w u : World} {Z : Array Value} {g g0 g1 g2 g3 n : Nat} (h : Made w u Z g g0 g1 g2 g3 n) (hZ : Z = (List.replicate n (Value.int .i64 0)).toArray) (hn : n ≤ 200) : Laid w u g g0 g1 g2 g3 n 0 := by
  have e : Z = (ints (List.replicate n 0)).toArray := by rw [hZ]; simp [ints]
  obtain ⟨a, b, c, d, f, r, i, l⟩ := h
  rw [e] at b c d f
  exact ⟨a, own_of b (by simp) hn (by omega), own_of c (by simp) hn (by omega), own_of d (by simp) hn (by omega), by rw [upTo_zero]; exact own_of f (by simp) hn (by omega), r, i, l⟩

theorem Laid.next {w u : World} {g g0 g1 g2 g3 n k : Nat} (h : Laid w u g g0 g1 g2 g3 n k) :
    Laid w ((u.setCell ⟨g1, k, none⟩ (.int .i64 0)).setCell ⟨g3, k, none⟩ (.int .i64 (k : Int))) g g0 g1 g2 g3 n (k + 1) := by
  obtain ⟨a, b, c, d, f, r, i, l⟩ := h
  obtain ⟨l0, l1, l2, l3, l4, l5, l6, l7, l8, l9, l10, l11, l12, l13, l14⟩ := l
  refine ⟨(a.other (by omega) _).other (by omega) _, own_other (own_other b (by omega) _) (by omega) _, ?_, own_other (own_other d (by omega) _) (by omega) _, ?_, (r.other (by omega) _).other (by omega) _, (i.setCell (by simp; omega) _).setCell (by simp; omega) _, ⟨l0, l1, l2, l3, l4, l5, l6, l7, l8, l9, l10, l11, l12, l13, l14⟩⟩
  · have := own_set c k 0
    rw [show (List.replicate n (0 : Int)).set k 0 = List.replicate n 0 by apply List.ext_getElem?; intro i; simp only [List.getElem?_set, List.getElem?_replicate, List.length_replicate]; split <;> simp_all] at this
    exact own_other this (by omega) _
  · have := own_set (own_other f (by omega : g1 ≠ g3) (i := k) (.int .i64 0)) k (k : Int)
    rwa [upTo_next] at this

theorem Laid.told {w u : World} {g g0 g1 g2 g3 n k : Nat} (h : Laid w u g g0 g1 g2 g3 n k) (hk : k = n) (p q r s : Value) :
    Owns ((((u.setCell ⟨w.heap.size, 0, none⟩ p).setCell ⟨w.heap.size, 1, none⟩ q).setCell ⟨w.heap.size, 2, none⟩ r).setCell ⟨w.heap.size, 3, none⟩ s) w.heap.size ⟨some ⟨g0, 0, none⟩, some ⟨g1, 0, none⟩, some ⟨g2, 0, none⟩, some ⟨g3, 0, none⟩, n, n, n, n, n, n, n, n⟩ (newP n) := by
  subst hk
  obtain ⟨a, b, c, d, f, x, i, l⟩ := h
  rw [upTo_all] at f
  refine ⟨own_less (set4_own b (by omega) _ _ _ _) (by omega), own_less (set4_own c (by omega) _ _ _ _) (by omega), own_less (set4_own d (by omega) _ _ _ _) (by omega), own_less (set4_own f (by omega) _ _ _ _) (by omega), (fun h => by cases h), (fun h => by cases h), (fun h => by cases h), (fun h => by cases h), ?_, ?_, ?_, ?_, ?_, ?_⟩ <;>
  · intro x y hx hy
    simp only [Option.some.injEq] at hx hy
    subst hx
    subst hy
    simp
    omega

set_option maxHeartbeats 4000000 in
theorem new_ok (n : Nat) (w : World) (h1 : 1 ≤ n) (h2 : n ≤ 64) :
    Calls Try.prog 37 #[.int .i64 (n : Int)] w (TellE w (newP n) 0) := by
  obtain ⟨Z, HZ, hmk⟩ := make_ints n (by omega)
  go_enter Try.func37, Try.ntmps37
  go_wp2_with fail
  refine (isSize_yes _ _ (by omega) (by omega)).mono ?_
  rintro e w' ⟨rfl, rfl⟩
  go_upto_region 3 with (fail)
  go_cut [4] (fun v wx => ∃ g g0 g1 g2 g3, v = .pointer (some ⟨g, 0, none⟩) ∧ Hid (Made w wx Z g g0 g1 g2 g3 n))
  case first =>
    refine wp_region_any (by kernel_rfl) ?_
    change wpAny _ _ _ _ _ _ _ (World.drew _)
    refine wpAny_take (i := 0) (v := .int .i64 (n : Int)) rfl (by kernel_rfl) (by kernel_rfl) (by kernel_rfl) (fun _ _ _ h => h) (Or.inl ⟨by rfl, by intro w; go_simp⟩) ?_
    refine wpAny_take (i := 2) (v := .int .i64 (n : Int)) rfl (by kernel_rfl) (by kernel_rfl) (by kernel_rfl) (fun _ _ _ h => h) (Or.inl ⟨by rfl, by intro w; go_simp⟩) ?_
    refine wpAny_take (i := 4) (v := .int .i64 (n : Int)) rfl (by kernel_rfl) (by kernel_rfl) (by kernel_rfl) (fun _ _ _ h => h) (Or.inl ⟨by rfl, by intro w; go_simp⟩) ?_
    refine wpAny_take (i := 6) (v := .int .i64 (n : Int)) rfl (by kernel_rfl) (by kernel_rfl) (by kernel_rfl) (fun _ _ _ h => h) (Or.inl ⟨by rfl, by intro w; go_simp⟩) ?_
    refine makers w 5 (fun x => fr5 n w.heap.size (x 4) (x 0) (x 1) (x 2) (x 3) undef) op5 (mk5 n) (ob5 Z) ls5 fl5 set5 (ready5 ?_) ?_ ?_ 5 (fun _ => false) (fun _ => undef) _ rfl ?_
    · intro b0 b1 b2 b3 b4
      cases b0 <;> cases b1 <;> cases b2 <;> cases b3 <;> cases b4 <;> kernel_rfl
    · intro k hk x u K hK
      match k, hk with
      | 0, _ =>
        refine wpOp_step rfl (fun K' hK' => ?_)
        go_simp
        exact hK' _ _ hK
      | 1, _ =>
        refine wpOp_step rfl (fun K' hK' => ?_)
        go_simp
        exact hK' _ _ hK
      | 2, _ =>
        refine wpOp_step rfl (fun K' hK' => ?_)
        go_simp
        exact hK' _ _ hK
      | 3, _ =>
        refine wpOp_step rfl (fun K' hK' => ?_)
        go_simp
        exact hK' _ _ hK
      | 4, _ =>
        refine wpOp_step rfl (fun K' hK' => ?_)
        go_simp
        exact hK' _ _ hK
    · intro b x u hf hd
      obtain ⟨hb, hx, γ, h3, h4⟩ := hd
      have hf' : b 0 = true ∧ b 1 = true ∧ b 2 = true ∧ b 3 = true := by simpa [fl5, and_assoc] using hf
      obtain ⟨b0, b1, b2, b3⟩ := hf'
      obtain ⟨e0, r0, l0⟩ := h3 0 (by omega) b0
      obtain ⟨e1, r1, l1⟩ := h3 1 (by omega) b1
      obtain ⟨e2, r2, l2⟩ := h3 2 (by omega) b2
      obtain ⟨e3, r3, l3⟩ := h3 3 (by omega) b3
      have d01 := h4 0 1 (by omega) (by omega) (by omega) b0 b1
      have d02 := h4 0 2 (by omega) (by omega) (by omega) b0 b2
      have d03 := h4 0 3 (by omega) (by omega) (by omega) b0 b3
      have d12 := h4 1 2 (by omega) (by omega) (by omega) b1 b2
      have d13 := h4 1 3 (by omega) (by omega) (by omega) b1 b3
      have d23 := h4 2 3 (by omega) (by omega) (by omega) b2 b3
      show wpAny _ _ _ _ (2 + pend b 5) (ls5 b) (fr5 n w.heap.size (x 4) (x 0) (x 1) (x 2) (x 3) undef) u
      rw [show x 0 = Value.slice (some ⟨γ 0, 0, none⟩) n n from e0, show x 1 = Value.slice (some ⟨γ 1, 0, none⟩) n n from e1, show x 2 = Value.slice (some ⟨γ 2, 0, none⟩) n n from e2, show x 3 = Value.slice (some ⟨γ 3, 0, none⟩) n n from e3]
      cases b4 : b 4 with
      | false =>
        rw [show pend b 5 = 1 by simp [pend, b0, b1, b2, b3, b4], show ls5 b = #[true, true, true, true, true, true, true, true, false, false, false] by simp [ls5, b0, b1, b2, b3, b4]]
        generalize x 4 = x4
        generalize γ 0 = g0 at *
        generalize γ 1 = g1 at *
        generalize γ 2 = g2 at *
        generalize γ 3 = g3 at *
        have HM := hide (made_new (n := n) hb hx r0 r1 r2 r3 ⟨l0, l1, l2, l3, d01, d02, d03, d12, d13, d23⟩)
        clear h3 h4 e0 e1 e2 e3 b0 b1 b2 b3 b4 r0 r1 r2 r3 hb hf
        refine wpAny_take (i := 8) (v := .agg (C4 (some ⟨g0, 0, none⟩) (some ⟨g1, 0, none⟩) (some ⟨g2, 0, none⟩) (some ⟨g3, 0, none⟩) n n n n n n n n)) rfl (by kernel_rfl) (by kernel_rfl) (by kernel_rfl) (fun _ _ _ h => h) (Or.inl ⟨by rfl, by intro w; go_simp⟩) ?_
        refine wpAny_ready (rs := [9]) (by kernel_rfl) (by simp) ?_
        refine AllReady.cons rfl (fun K hK => ?_) AllReady.nil
        go_simp
        refine hK _ _ ?_
        clear hK K
        refine wpAny_ready (rs := [10]) (by kernel_rfl) (by simp) ?_
        refine AllReady.cons rfl (fun K hK => ?_) AllReady.nil
        go_simp
        refine hK _ _ ?_
        clear hK K
        refine wpAny_done (by kernel_rfl) ?_ _
        go_wp2_with fail
        go_meet
        exact ⟨_, _, _, _, _, rfl, HM⟩
      | true =>
        obtain ⟨e4, r4, l4⟩ := h3 4 (by omega) b4
        have d04 := h4 4 0 (by omega) (by omega) (by omega) b4 b0
        have d14 := h4 4 1 (by omega) (by omega) (by omega) b4 b1
        have d24 := h4 4 2 (by omega) (by omega) (by omega) b4 b2
        have d34 := h4 4 3 (by omega) (by omega) (by omega) b4 b3
        rw [show x 4 = Value.pointer (some ⟨γ 4, 0, none⟩) from e4, show pend b 5 = 0 by simp [pend, b0, b1, b2, b3, b4], show ls5 b = #[true, true, true, true, true, true, true, true, false, true, false] by simp [ls5, b0, b1, b2, b3, b4]]
        generalize γ 0 = g0 at *
        generalize γ 1 = g1 at *
        generalize γ 2 = g2 at *
        generalize γ 3 = g3 at *
        generalize γ 4 = g4 at *
        have HM := hide (made_old (n := n) hb hx r4 r0 r1 r2 r3 ⟨l4, l0, l1, l2, l3, d04, d14, d24, d34, d01, d02, d03, d12, d13, d23⟩)
        obtain ⟨y0, f0, y1, f1, y2, f2, y3, f3⟩ := zero_cells r4
        clear h3 h4 e0 e1 e2 e3 e4 b0 b1 b2 b3 b4 r0 r1 r2 r3 r4 hb hf
        refine wpAny_take (i := 8) (v := .agg (C4 (some ⟨g0, 0, none⟩) (some ⟨g1, 0, none⟩) (some ⟨g2, 0, none⟩) (some ⟨g3, 0, none⟩) n n n n n n n n)) rfl (by kernel_rfl) (by kernel_rfl) (by kernel_rfl) (fun _ _ _ h => h) (Or.inl ⟨by rfl, by intro w; go_simp⟩) ?_
        refine wpAny_ready (rs := [10]) (by kernel_rfl) (by simp) ?_
        refine AllReady.cons rfl (fun K hK => ?_) AllReady.nil
        go_simp
        refine hK _ _ ?_
        clear hK K
        refine wpAny_done (by kernel_rfl) ?_ _
        go_wp2_with fail
        go_meet
        exact ⟨_, _, _, _, _, rfl, HM⟩
    · exact ⟨((Below.refl _ _).alloc (Nat.le_refl _) _).drew, PBox.new w zeros4, fun _ => 0, fun k _ h => by simp at h, fun i j _ _ _ h => by simp at h⟩
  case rest =>
    obtain ⟨g, g0, g1, g2, g3, rfl, HM⟩ := hcut
    have HL := hide (Laid.first HM.out HZ.out (by omega))
    clear HM hmk HZ
    obtain ⟨l0, l1, l2, l3, l4, l5, l6, l7, l8, l9, l10, l11, l12, l13, l14⟩ := HL.out.ne
    go_wp2
    go_loopw [20] (fun i wr => ∃ k : Nat, k ≤ n ∧ i = .int .i64 k ∧ Hid (Laid w wr g g0 g1 g2 g3 n k)) (fun i _ => n - (intOf i).toNat)
    case atStart => exact ⟨0, by omega, rfl, HL⟩
    case round =>
      obtain ⟨k, hk, rfl, HK⟩ := hrel
      clear HL
      have hc := HK.out.box.cells
      have hl := HK.out.box.lt
      by_cases hlt : k < n
      · have hc1 := own_at HK.out.r1 hlt
        have hf1 := HK.out.r1.frozenAt k
        have hc3 := own_at HK.out.r3 hlt
        have hf3 := HK.out.r3.frozenAt k
        have hg1 := (own_ge HK.out.r1).2
        have hg3 := (own_ge HK.out.r3).2
        generalize (List.replicate n (0 : Int)).getD k 0 = z1 at hc1
        generalize (upTo n k).getD k 0 = z3 at hc3
        go_wp2
        go_roundw
        case rel => exact ⟨k + 1, by omega, by go_num, HK.out.next⟩
        case measure => simp [intOf]; omega
      · obtain ⟨y0, f0, y1, f1, y2, f2, y3, f3⟩ := zero_cells HK.out.res
        have HKN : Hid (k = n) := by show _ = _; omega
        go_wp2
        refine bodyPost_ret (results_row_tmp rfl _ _ w.heap.size 26 _ (0, 0) _ rfl (set4_heap HK.out.res _ _ _ _) Try.underlying26 rfl Try.size26) rfl ⟨_, rfl, HK.out.told HKN.out _ _ _ _, set4_below HK.out.bel (Nat.le_refl _) _ _ _ _⟩

set_option maxHeartbeats 400000 in
theorem new_no (n : Int) (w : World) (h : Hid (n < 1 ∨ 64 < n)) : Calls Try.prog 37 #[.int .i64 n] w (TellE w noP 1) := by
  go_enter Try.func37, Try.ntmps37
  go_wp2_with fail
  refine (isSize_no _ _ h.out).mono ?_
  rintro e w' ⟨rfl, rfl⟩
  go_wp2
  refine bodyPost_ret (results_row_tmp rfl _ _ w.heap.size 26 _ (0, 0) _ rfl (heap_alloc_new _ _) Try.underlying26 rfl Try.size26) rfl ⟨noPl, rfl, owns_none _ _, (Below.refl _ _).alloc (Nat.le_refl _) _⟩

end Go.Proofs.Ythficfmakbblkaa.Pool
