/- What New tells. -/
import Derived.Test.YtfdbbfjnianahaaMakers
import Derived.Test.YtfdbbfjnianahaaWalksA
import Derived.Deep.DeepCutAuto
import Derived.Laws.MakeOwn
namespace Go.Proofs.Ytfdbbfjnianahaa
open Go.RowKit
set_option linter.unusedVariables false

theorem make_rows {P : Program} (t e : TypeId) (i : TypeInfo) (z : Value) (ht : P.underlying t = some (.slice e)) (hi : P.info? e = some i) (hz : i.zero = some z) (n : Nat) (hbytes : i.bytes * n ≤ 281474976710656) (h63 : n ≤ 9223372036854775807) (w : World) :
    (Instr.makeSlice t (.int .i64 (n : Int)) (.int .i64 (n : Int))).run P w = .ok (.slice (some ⟨w.heap.size, 0, none⟩) n n) (w.alloc (.cells (madeCells z.cells (n * i.size)) e)) := by
  have hb : (i.bytes : Int) * (n : Int) ≤ 281474976710656 := by
    have h : ((i.bytes * n : Nat) : Int) ≤ 281474976710656 := by omega
    rwa [Int.natCast_mul] at h
  have hr := run_make (P := P) w t e i z ht hi hz .i64 .i64 n n (by omega) (by omega) hb (by omega)
  simpa only [Int.toNat_natCast] using hr

theorem make_ints (n : Nat) (hn : n ≤ 200) : ∃ Z : Array Value, Hid (Z = (List.replicate n (Value.int .i64 0)).toArray) ∧ ∀ w : World, (Instr.makeSlice 22 (.int .i64 (n : Int)) (.int .i64 (n : Int))).run Try.prog w = .ok (.slice (some ⟨w.heap.size, 0, none⟩) n n) (w.alloc (.cells Z 3)) := by
  obtain ⟨i0, hi0, hz0, hz1, hz2⟩ := info_parts Try.info3
  refine ⟨_, rfl, fun w => ?_⟩
  rw [make_rows 22 3 i0 (.int .i64 0) Try.underlying22 hi0 hz0 n (by rw [hz2]; omega) (by omega) w, hz1, Nat.mul_one]
  rw [show (Value.int IntKind.i64 0).cells = #[Value.int .i64 0] from rfl, ← toList_madeCells_one]

/-- What the first statement of New makes: a pool of four rows, each in a block of its own. -/
structure Made (w wx : World) (Z : Array Value) (g g0 g1 g2 g3 n : Nat) : Prop where
  box : PBox wx g (C4 (some ⟨g0, 0, none⟩) (some ⟨g1, 0, none⟩) (some ⟨g2, 0, none⟩) (some ⟨g3, 0, none⟩) n n n n n n n n)
  r0 : wx.heap[g0]? = some (.cells Z 3 (0, 0))
  r1 : wx.heap[g1]? = some (.cells Z 3 (0, 0))
  r2 : wx.heap[g2]? = some (.cells Z 3 (0, 0))
  r3 : wx.heap[g3]? = some (.cells Z 3 (0, 0))
  res : PBox wx w.heap.size zeros4
  bel : Below w.heap.size w wx
  ne : w.heap.size < g ∧ w.heap.size < g0 ∧ w.heap.size < g1 ∧ w.heap.size < g2 ∧ w.heap.size < g3 ∧ g ≠ g0 ∧ g ≠ g1 ∧ g ≠ g2 ∧ g ≠ g3 ∧ g0 ≠ g1 ∧ g0 ≠ g2 ∧ g0 ≠ g3 ∧ g1 ≠ g2 ∧ g1 ≠ g3 ∧ g2 ≠ g3

abbrev mk5 (n k g : Nat) : Value := if k = 4 then .pointer (some ⟨g, 0, none⟩) else .slice (some ⟨g, 0, none⟩) n n
abbrev ob5 (Z : Array Value) (k : Nat) : Obj := if k = 4 then .cells zeros4 24 else .cells Z 3
abbrev op5 (k : Nat) : Nat := 2 * k + 1
abbrev ls5 (b : Nat → Bool) : Array Bool := #[true, b 0, true, b 1, true, b 2, true, b 3, false, b 4, false]
abbrev fl5 (b : Nat → Bool) : Bool := b 0 && b 1 && b 2 && b 3
def rd5 (b0 b1 b2 b3 b4 : Bool) : List Nat :=
  (if b0 then [] else [1]) ++ (if b1 then [] else [3]) ++ (if b2 then [] else [5]) ++ (if b3 then [] else [7]) ++ (if b0 && b1 && b2 && b3 then [8] else []) ++ (if b4 then [] else [9])

theorem ready5 {md : Region.Mode} {ops : Array Oper} (h : ∀ b0 b1 b2 b3 b4 : Bool, Region.ready md ops #[true, b0, true, b1, true, b2, true, b3, false, b4, false] = rd5 b0 b1 b2 b3 b4) (b : Nat → Bool) (hb : fl5 b = false) :
    Region.ready md ops (ls5 b) ≠ [] ∧ ∀ i ∈ Region.ready md ops (ls5 b), ∃ k, k < 5 ∧ b k = false ∧ i = op5 k := by
  have e := h (b 0) (b 1) (b 2) (b 3) (b 4)
  have e' : Region.ready md ops (ls5 b) = rd5 (b 0) (b 1) (b 2) (b 3) (b 4) := e
  rw [e']
  have hf : (b 0 && b 1 && b 2 && b 3) = false := hb
  unfold rd5
  rw [hf]
  constructor
  · intro h0
    cases h0' : b 0 <;> cases h1' : b 1 <;> cases h2' : b 2 <;> cases h3' : b 3 <;> simp [h0', h1', h2', h3'] at h0 hf
  · intro i hi
    simp only [List.mem_append] at hi
    rcases hi with ((((h | h) | h) | h) | h) | h
    · cases h0 : b 0 <;> simp [h0] at h; exact ⟨0, by omega, h0, h⟩
    · cases h0 : b 1 <;> simp [h0] at h; exact ⟨1, by omega, h0, h⟩
    · cases h0 : b 2 <;> simp [h0] at h; exact ⟨2, by omega, h0, h⟩
    · cases h0 : b 3 <;> simp [h0] at h; exact ⟨3, by omega, h0, h⟩
    · simp at h
    · cases h0 : b 4 <;> simp [h0] at h; exact ⟨4, by omega, h0, h⟩

theorem set5 (b : Nat → Bool) (k : Nat) (hk : k < 5) : (ls5 b).setIfInBounds (op5 k) true = ls5 (upd b k true) := by
  match k, hk with
  | 0, _ => rfl
  | 1, _ => rfl
  | 2, _ => rfl
  | 3, _ => rfl
  | 4, _ => rfl

abbrev fr5 (n r : Nat) (x4 x11 x13 x15 x17 x18 : Value) : Act :=
  ⟨#[.int .i64 (n : Int), undef, .pointer (some ⟨r, 0, none⟩), .int .i64 0, x4, undef, .int .i64 (n : Int), .bool true, .bool false, undef, .int .i64 (n : Int), x11, .int .i64 (n : Int), x13, .int .i64 (n : Int), x15, .int .i64 (n : Int), x17, x18,
    undef, undef, undef, undef, undef, undef, undef, undef, undef, undef, undef, undef, undef, undef, undef], []⟩


theorem heap_free {u : World} {k : Nat} {o : Obj} {g : Nat} (h : u.heap[k]? = some o) (hk : g ≠ k) (p q r s : Value) :
    ((((u.setCell ⟨g, 0, none⟩ p).setCell ⟨g, 1, none⟩ q).setCell ⟨g, 2, none⟩ r).setCell ⟨g, 3, none⟩ s).heap[k]? = some o := by
  have hk' : k ≠ g := hk.symm
  rw [Below.heap_setCell _ ⟨g, 3, none⟩ s k (by simpa using hk'), Below.heap_setCell _ ⟨g, 2, none⟩ r k (by simpa using hk'), Below.heap_setCell _ ⟨g, 1, none⟩ q k (by simpa using hk'), Below.heap_setCell _ ⟨g, 0, none⟩ p k (by simpa using hk')]
  exact h

/-- The box was made last. -/
theorem made_new {w u : World} {Z : Array Value} {n g0 g1 g2 g3 : Nat} (hb : Below w.heap.size w u) (hx : PBox u w.heap.size zeros4) (r0 : u.heap[g0]? = some (.cells Z 3 (0, 0))) (r1 : u.heap[g1]? = some (.cells Z 3 (0, 0))) (r2 : u.heap[g2]? = some (.cells Z 3 (0, 0))) (r3 : u.heap[g3]? = some (.cells Z 3 (0, 0)))
    (l : w.heap.size < g0 ∧ w.heap.size < g1 ∧ w.heap.size < g2 ∧ w.heap.size < g3 ∧ g0 ≠ g1 ∧ g0 ≠ g2 ∧ g0 ≠ g3 ∧ g1 ≠ g2 ∧ g1 ≠ g3 ∧ g2 ≠ g3) :
    Made w (u.alloc (.cells (C4 (some ⟨g0, 0, none⟩) (some ⟨g1, 0, none⟩) (some ⟨g2, 0, none⟩) (some ⟨g3, 0, none⟩) n n n n n n n n) 24)) Z u.heap.size g0 g1 g2 g3 n := by
  have q0 := (Array.getElem?_eq_some_iff.1 r0).1
  have q1 := (Array.getElem?_eq_some_iff.1 r1).1
  have q2 := (Array.getElem?_eq_some_iff.1 r2).1
  have q3 := (Array.getElem?_eq_some_iff.1 r3).1
  refine ⟨PBox.new u _, (Below.heap_alloc u _ _ q0).trans r0, (Below.heap_alloc u _ _ q1).trans r1, (Below.heap_alloc u _ _ q2).trans r2, (Below.heap_alloc u _ _ q3).trans r3, hx.alloc _, hb.alloc hb.size _, ?_⟩
  omega

/-- It was made before. -/
theorem made_old {w u : World} {Z : Array Value} {n g g0 g1 g2 g3 : Nat} (hb : Below w.heap.size w u) (hx : PBox u w.heap.size zeros4) (hg : PBox u g zeros4) (r0 : u.heap[g0]? = some (.cells Z 3 (0, 0))) (r1 : u.heap[g1]? = some (.cells Z 3 (0, 0))) (r2 : u.heap[g2]? = some (.cells Z 3 (0, 0))) (r3 : u.heap[g3]? = some (.cells Z 3 (0, 0)))
    (l : w.heap.size < g ∧ w.heap.size < g0 ∧ w.heap.size < g1 ∧ w.heap.size < g2 ∧ w.heap.size < g3 ∧ g ≠ g0 ∧ g ≠ g1 ∧ g ≠ g2 ∧ g ≠ g3 ∧ g0 ≠ g1 ∧ g0 ≠ g2 ∧ g0 ≠ g3 ∧ g1 ≠ g2 ∧ g1 ≠ g3 ∧ g2 ≠ g3) :
    Made w ((((u.setCell ⟨g, 0, none⟩ (.slice (some ⟨g0, 0, none⟩) n n)).setCell ⟨g, 1, none⟩ (.slice (some ⟨g1, 0, none⟩) n n)).setCell ⟨g, 2, none⟩ (.slice (some ⟨g2, 0, none⟩) n n)).setCell ⟨g, 3, none⟩ (.slice (some ⟨g3, 0, none⟩) n n)) Z g g0 g1 g2 g3 n := by
  obtain ⟨l0, l1, l2, l3, l4, l5, l6, l7, l8, l9⟩ := l
  refine ⟨set4_heap hg _ _ _ _, heap_free r0 l5 _ _ _ _, heap_free r1 l6 _ _ _ _, heap_free r2 l7 _ _ _ _, heap_free r3 l8 _ _ _ _, heap_free hx (by omega) _ _ _ _, set4_below hb (by omega) _ _ _ _, ?_⟩
  omega


/-- A pool, and a number: what a call tells. -/
def TellE (w : World) (P : PL) (err : Int) (e : Ending) (w' : World) : Prop := ∃ q : Pl, e = .returned (.tuple #[q.val, .int .i64 err]) ∧ Owns w' w.heap.size q P ∧ Below w.heap.size w w'

/-- No pool. -/
def noP : PL := ⟨[], [], [], []⟩
abbrev noPl : Pl := ⟨none, none, none, none, 0, 0, 0, 0, 0, 0, 0, 0⟩
theorem owns_none (u : World) (B : Nat) : Owns u B noPl noP :=
  ⟨World.ownsRow_nil _ _ _ _, World.ownsRow_nil _ _ _ _, World.ownsRow_nil _ _ _ _, World.ownsRow_nil _ _ _ _, fun _ => rfl, fun _ => rfl, fun _ => rfl, fun _ => rfl, (fun _ _ h => by cases h), (fun _ _ h => by cases h), (fun _ _ h => by cases h), (fun _ _ h => by cases h), (fun _ _ h => by cases h), (fun _ _ h => by cases h)⟩

/-- A struct result and another one. -/
theorem results_row_tmp {P : Program} {fn : Func} {p u : Tmp} {ty : TypeId} (h : fn.results = #[.cell p ty, .tmp u]) (tmps : Array Value) (w : World) (g : Nat) (t : TypeId) (cs : Array Value) (fr : Nat × Nat) (d : TypeDesc)
    (hp : tmps.getD p undef = .pointer (some ⟨g, 0, none⟩)) (hg : w.heap[g]? = some (.cells cs t fr))
    (hu : P.underlying ty = some d) (hd : (match d with | .struct _ | .array _ _ => true | _ => false) = true) (hi : (P.info? ty).map (·.size) = some cs.size) :
    (results fn tmps).run P w = .ok (.tuple #[.agg cs, tmps.getD u undef]) w := by
  have hp' : tmps[p]?.getD undef = .pointer (some ⟨g, 0, none⟩) := by simpa using hp
  simp [results, h, hp', asAddr, run_loadVar_row w g t ty cs fr d hg hu hd hi]

theorem own_of {u : World} {B g n : Nat} {zs : List Int} (h : u.heap[g]? = some (.cells (ints zs).toArray 3 (0, 0))) (hl : zs.length = n) (hn : n ≤ 200) (hB : B ≤ g) : u.ownsRow B 3 1 (.slice (some ⟨g, 0, none⟩) n n) n (ints zs) :=
  ⟨by simpa using hl, .inr ⟨g, n, _, rfl, hB, h, Nat.le_refl _, by simp only [maxLen]; omega, by simpa using hl, by rw [List.take_of_length_le (by simp; omega)]⟩⟩

/-- The slots, in order, the first k of them laid. -/
def upTo (n k : Nat) : List Int := (List.range n).map fun i => if i < k then (i : Int) else 0
theorem upTo_zero (n : Nat) : upTo n 0 = List.replicate n 0 := by
  simp [upTo, List.map_const']
theorem upTo_next (n k : Nat) : (upTo n k).set k (k : Int) = upTo n (k + 1) := by
  apply List.ext_getElem?
  intro i
  simp only [upTo, List.getElem?_set, List.getElem?_map, List.length_map, List.length_range]
  by_cases hi : i < n
  · by_cases hk : k = i
    · subst hk; simp [hi]
    · simp only [hk, if_false, List.getElem?_range hi, Option.map_some]
      by_cases h : i < k
      · simp [h, show i < k + 1 by omega]
      · simp [h, show ¬ i < k + 1 by omega]
  · have : (List.range n)[i]? = none := by simp; omega
    simp [this]
    intro h; omega
theorem upTo_all (n : Nat) : upTo n n = (List.range n).map fun i : Nat => (i : Int) := by
  unfold upTo
  apply List.map_congr_left
  intro i hi
  simp [List.mem_range.1 hi]
theorem upTo_len (n k : Nat) : (upTo n k).length = n := by simp [upTo]

/-- A new pool. -/
def newP (n : Nat) : PL := ⟨List.replicate n 0, List.replicate n 0, List.replicate n 0, (List.range n).map fun i : Nat => (i : Int)⟩

/-- What stands while the slots are laid. -/
structure Laid (w u : World) (g g0 g1 g2 g3 n k : Nat) : Prop where
  box : PBox u g (C4 (some ⟨g0, 0, none⟩) (some ⟨g1, 0, none⟩) (some ⟨g2, 0, none⟩) (some ⟨g3, 0, none⟩) n n n n n n n n)
  r0 : u.ownsRow (w.heap.size + 1) 3 1 (.slice (some ⟨g0, 0, none⟩) n n) n (ints (List.replicate n 0))
  r1 : u.ownsRow (w.heap.size + 1) 3 1 (.slice (some ⟨g1, 0, none⟩) n n) n (ints (List.replicate n 0))
  r2 : u.ownsRow (w.heap.size + 1) 3 1 (.slice (some ⟨g2, 0, none⟩) n n) n (ints (List.replicate n 0))
  r3 : u.ownsRow (w.heap.size + 1) 3 1 (.slice (some ⟨g3, 0, none⟩) n n) n (ints (upTo n k))
  res : PBox u w.heap.size zeros4
  bel : Below w.heap.size w u
  ne : w.heap.size < g ∧ w.heap.size < g0 ∧ w.heap.size < g1 ∧ w.heap.size < g2 ∧ w.heap.size < g3 ∧ g ≠ g0 ∧ g ≠ g1 ∧ g ≠ g2 ∧ g ≠ g3 ∧ g0 ≠ g1 ∧ g0 ≠ g2 ∧ g0 ≠ g3 ∧ g1 ≠ g2 ∧ g1 ≠ g3 ∧ g2 ≠ g3

theorem Laid.first {w u : World} {Z : Array Value} {g g0 g1 g2 g3 n : Nat} (h : Made w u Z g g0 g1 g2 g3 n) (hZ : Z = (List.replicate n (Value.int .i64 0)).toArray) (hn : n ≤ 200) : Laid w u g g0 g1 g2 g3 n 0 := by
  have e : Z = (ints (List.replicate n 0)).toArray := by rw [hZ]; simp [ints]
  obtain ⟨a, b, c, d, f, r, i, l⟩ := h
  rw [e] at b c d f
  exact ⟨a, own_of b (by simp) hn (by omega), own_of c (by simp) hn (by omega), own_of d (by simp) hn (by omega), by rw [upTo_zero]; exact own_of f (by simp) hn (by omega), r, i, l⟩

theorem Laid.next {w u : World} {g g0 g1 g2 g3 n k : Nat} (h : Laid w u g g0 g1 g2 g3 n k) :
    Laid w ((u.setCell ⟨g1, k, none⟩ (.int .i64 0)).setCell ⟨g3, k, none⟩ (.int .i64 (k : Int))) g g0 g1 g2 g3 n (k + 1) := by
  obtain ⟨a, b, c, d, f, r, i, l⟩ := h
  obtain ⟨l0, l1, l2, l3, l4, l5, l6, l7, l8, l9, l10, l11, l12, l13, l14⟩ := l
  refine ⟨(a.other (by omega) _).other (by omega) _, own_other (own_other b (by omega) _) (by omega) _, ?_, own_other (own_other d (by omega) _) (by omega) _, ?_, (r.other (by omega) _).other (by omega) _, (i.setCell (by simp; omega) _).setCell (by simp; omega) _, ⟨l0, l1, l2, l3, l4, l5, l6, l7, l8, l9, l10, l11, l12, l13, l14⟩⟩
  · have := own_set c k 0
    rw [show (List.replicate n (0 : Int)).set k 0 = List.replicate n 0 by apply List.ext_getElem?; intro i; simp only [List.getElem?_set, List.getElem?_replicate, List.length_replicate]; split <;> simp_all] at this
    exact own_other this (by omega) _
  · have := own_set (own_other f (by omega : g1 ≠ g3) (i := k) (.int .i64 0)) k (k : Int)
    rwa [upTo_next] at this

theorem Laid.told {w u : World} {g g0 g1 g2 g3 n k : Nat} (h : Laid w u g g0 g1 g2 g3 n k) (hk : k = n) (p q r s : Value) :
    Owns ((((u.setCell ⟨w.heap.size, 0, none⟩ p).setCell ⟨w.heap.size, 1, none⟩ q).setCell ⟨w.heap.size, 2, none⟩ r).setCell ⟨w.heap.size, 3, none⟩ s) w.heap.size ⟨some ⟨g0, 0, none⟩, some ⟨g1, 0, none⟩, some ⟨g2, 0, none⟩, some ⟨g3, 0, none⟩, n, n, n, n, n, n, n, n⟩ (newP n) := by
  subst hk
  obtain ⟨a, b, c, d, f, x, i, l⟩ := h
  rw [upTo_all] at f
  refine ⟨own_less (set4_own b (by omega) _ _ _ _) (by omega), own_less (set4_own c (by omega) _ _ _ _) (by omega), own_less (set4_own d (by omega) _ _ _ _) (by omega), own_less (set4_own f (by omega) _ _ _ _) (by omega), (fun h => by cases h), (fun h => by cases h), (fun h => by cases h), (fun h => by cases h), ?_, ?_, ?_, ?_, ?_, ?_⟩ <;>
  · intro x y hx hy
    simp only [Option.some.injEq] at hx hy
    subst hx
    subst hy
    simp
    omega

set_option maxHeartbeats 4000000 in
theorem new_ok (n : Nat) (w : World) (h1 : 1 ≤ n) (h2 : n ≤ 64) :
    Calls Try.prog 11 #[.int .i64 (n : Int)] w (TellE w (newP n) 0) := by
  obtain ⟨Z, HZ, hmk⟩ := make_ints n (by omega)
  go_enter Try.func11, Try.ntmps11
  go_wp2_with fail
  refine (isSize_yes _ _ (by omega) (by omega)).mono ?_
  rintro e w' ⟨rfl, rfl⟩
  go_upto_region 3 with (fail)
  go_cut [4] (fun v wx => ∃ g g0 g1 g2 g3, v = .pointer (some ⟨g, 0, none⟩) ∧ Hid (Made w wx Z g g0 g1 g2 g3 n))
  case first =>
    refine wp_region_any (by kernel_rfl) ?_
    change wpAny _ _ _ _ _ _ _ (World.drew _)
    refine wpAny_take (i := 0) (v := .int .i64 (n : Int)) rfl (by kernel_rfl) (by kernel_rfl) (by kernel_rfl) (fun _ _ _ h => h) (Or.inl ⟨by rfl, by intro w; go_simp⟩) ?_
    refine wpAny_take (i := 2) (v := .int .i64 (n : Int)) rfl (by kernel_rfl) (by kernel_rfl) (by kernel_rfl) (fun _ _ _ h => h) (Or.inl ⟨by rfl, by intro w; go_simp⟩) ?_
    refine wpAny_take (i := 4) (v := .int .i64 (n : Int)) rfl (by kernel_rfl) (by kernel_rfl) (by kernel_rfl) (fun _ _ _ h => h) (Or.inl ⟨by rfl, by intro w; go_simp⟩) ?_
    refine wpAny_take (i := 6) (v := .int .i64 (n : Int)) rfl (by kernel_rfl) (by kernel_rfl) (by kernel_rfl) (fun _ _ _ h => h) (Or.inl ⟨by rfl, by intro w; go_simp⟩) ?_
    refine makers w 5 (fun x => fr5 n w.heap.size (x 4) (x 0) (x 1) (x 2) (x 3) undef) op5 (mk5 n) (ob5 Z) ls5 fl5 set5 (ready5 ?_) ?_ ?_ 5 (fun _ => false) (fun _ => undef) _ rfl ?_
    · intro b0 b1 b2 b3 b4
      cases b0 <;> cases b1 <;> cases b2 <;> cases b3 <;> cases b4 <;> kernel_rfl
    · intro k hk x u K hK
      match k, hk with
      | 0, _ =>
        refine wpOp_step rfl (fun K' hK' => ?_)
        go_simp
        exact hK' _ _ hK
      | 1, _ =>
        refine wpOp_step rfl (fun K' hK' => ?_)
        go_simp
        exact hK' _ _ hK
      | 2, _ =>
        refine wpOp_step rfl (fun K' hK' => ?_)
        go_simp
        exact hK' _ _ hK
      | 3, _ =>
        refine wpOp_step rfl (fun K' hK' => ?_)
        go_simp
        exact hK' _ _ hK
      | 4, _ =>
        refine wpOp_step rfl (fun K' hK' => ?_)
        go_simp
        exact hK' _ _ hK
    · intro b x u hf hd
      obtain ⟨hb, hx, γ, h3, h4⟩ := hd
      have hf' : b 0 = true ∧ b 1 = true ∧ b 2 = true ∧ b 3 = true := by simpa [fl5, and_assoc] using hf
      obtain ⟨b0, b1, b2, b3⟩ := hf'
      obtain ⟨e0, r0, l0⟩ := h3 0 (by omega) b0
      obtain ⟨e1, r1, l1⟩ := h3 1 (by omega) b1
      obtain ⟨e2, r2, l2⟩ := h3 2 (by omega) b2
      obtain ⟨e3, r3, l3⟩ := h3 3 (by omega) b3
      have d01 := h4 0 1 (by omega) (by omega) (by omega) b0 b1
      have d02 := h4 0 2 (by omega) (by omega) (by omega) b0 b2
      have d03 := h4 0 3 (by omega) (by omega) (by omega) b0 b3
      have d12 := h4 1 2 (by omega) (by omega) (by omega) b1 b2
      have d13 := h4 1 3 (by omega) (by omega) (by omega) b1 b3
      have d23 := h4 2 3 (by omega) (by omega) (by omega) b2 b3
      show wpAny _ _ _ _ (2 + pend b 5) (ls5 b) (fr5 n w.heap.size (x 4) (x 0) (x 1) (x 2) (x 3) undef) u
      rw [show x 0 = Value.slice (some ⟨γ 0, 0, none⟩) n n from e0, show x 1 = Value.slice (some ⟨γ 1, 0, none⟩) n n from e1, show x 2 = Value.slice (some ⟨γ 2, 0, none⟩) n n from e2, show x 3 = Value.slice (some ⟨γ 3, 0, none⟩) n n from e3]
      cases b4 : b 4 with
      | false =>
        rw [show pend b 5 = 1 by simp [pend, b0, b1, b2, b3, b4], show ls5 b = #[true, true, true, true, true, true, true, true, false, false, false] by simp [ls5, b0, b1, b2, b3, b4]]
        generalize x 4 = x4
        generalize γ 0 = g0 at *
        generalize γ 1 = g1 at *
        generalize γ 2 = g2 at *
        generalize γ 3 = g3 at *
        have HM := hide (made_new (n := n) hb hx r0 r1 r2 r3 ⟨l0, l1, l2, l3, d01, d02, d03, d12, d13, d23⟩)
        clear h3 h4 e0 e1 e2 e3 b0 b1 b2 b3 b4 r0 r1 r2 r3 hb hf
        refine wpAny_take (i := 8) (v := .agg (C4 (some ⟨g0, 0, none⟩) (some ⟨g1, 0, none⟩) (some ⟨g2, 0, none⟩) (some ⟨g3, 0, none⟩) n n n n n n n n)) rfl (by kernel_rfl) (by kernel_rfl) (by kernel_rfl) (fun _ _ _ h => h) (Or.inl ⟨by rfl, by intro w; go_simp⟩) ?_
        refine wpAny_ready (rs := [9]) (by kernel_rfl) (by simp) ?_
        refine AllReady.cons rfl (fun K hK => ?_) AllReady.nil
        go_simp
        refine hK _ _ ?_
        clear hK K
        refine wpAny_ready (rs := [10]) (by kernel_rfl) (by simp) ?_
        refine AllReady.cons rfl (fun K hK => ?_) AllReady.nil
        go_simp
        refine hK _ _ ?_
        clear hK K
        refine wpAny_done (by kernel_rfl) ?_ _
        go_wp2_with fail
        go_meet
        exact ⟨_, _, _, _, _, rfl, HM⟩
      | true =>
        obtain ⟨e4, r4, l4⟩ := h3 4 (by omega) b4
        have d04 := h4 4 0 (by omega) (by omega) (by omega) b4 b0
        have d14 := h4 4 1 (by omega) (by omega) (by omega) b4 b1
        have d24 := h4 4 2 (by omega) (by omega) (by omega) b4 b2
        have d34 := h4 4 3 (by omega) (by omega) (by omega) b4 b3
        rw [show x 4 = Value.pointer (some ⟨γ 4, 0, none⟩) from e4, show pend b 5 = 0 by simp [pend, b0, b1, b2, b3, b4], show ls5 b = #[true, true, true, true, true, true, true, true, false, true, false] by simp [ls5, b0, b1, b2, b3, b4]]
        generalize γ 0 = g0 at *
        generalize γ 1 = g1 at *
        generalize γ 2 = g2 at *
        generalize γ 3 = g3 at *
        generalize γ 4 = g4 at *
        have HM := hide (made_old (n := n) hb hx r4 r0 r1 r2 r3 ⟨l4, l0, l1, l2, l3, d04, d14, d24, d34, d01, d02, d03, d12, d13, d23⟩)
        obtain ⟨y0, f0, y1, f1, y2, f2, y3, f3⟩ := zero_cells r4
        clear h3 h4 e0 e1 e2 e3 e4 b0 b1 b2 b3 b4 r0 r1 r2 r3 r4 hb hf
        refine wpAny_take (i := 8) (v := .agg (C4 (some ⟨g0, 0, none⟩) (some ⟨g1, 0, none⟩) (some ⟨g2, 0, none⟩) (some ⟨g3, 0, none⟩) n n n n n n n n)) rfl (by kernel_rfl) (by kernel_rfl) (by kernel_rfl) (fun _ _ _ h => h) (Or.inl ⟨by rfl, by intro w; go_simp⟩) ?_
        refine wpAny_ready (rs := [10]) (by kernel_rfl) (by simp) ?_
        refine AllReady.cons rfl (fun K hK => ?_) AllReady.nil
        go_simp
        refine hK _ _ ?_
        clear hK K
        refine wpAny_done (by kernel_rfl) ?_ _
        go_wp2_with fail
        go_meet
        exact ⟨_, _, _, _, _, rfl, HM⟩
    · exact ⟨((Below.refl _ _).alloc (Nat.le_refl _) _).drew, PBox.new w zeros4, fun _ => 0, fun k _ h => by simp at h, fun i j _ _ _ h => by simp at h⟩
  case rest =>
    obtain ⟨g, g0, g1, g2, g3, rfl, HM⟩ := hcut
    have HL := hide (Laid.first HM.out HZ.out (by omega))
    clear HM hmk HZ
    obtain ⟨l0, l1, l2, l3, l4, l5, l6, l7, l8, l9, l10, l11, l12, l13, l14⟩ := HL.out.ne
    go_wp2
    go_loopw [20] (fun i wr => ∃ k : Nat, k ≤ n ∧ i = .int .i64 k ∧ Hid (Laid w wr g g0 g1 g2 g3 n k)) (fun i _ => n - (intOf i).toNat)
    case atStart => exact ⟨0, by omega, rfl, HL⟩
    case round =>
      obtain ⟨k, hk, rfl, HK⟩ := hrel
      clear HL
      have hc := HK.out.box.cells
      have hl := HK.out.box.lt
      by_cases hlt : k < n
      · have hc1 := own_at HK.out.r1 hlt
        have hf1 := HK.out.r1.frozenAt k
        have hc3 := own_at HK.out.r3 hlt
        have hf3 := HK.out.r3.frozenAt k
        have hg1 := (own_ge HK.out.r1).2
        have hg3 := (own_ge HK.out.r3).2
        generalize (List.replicate n (0 : Int)).getD k 0 = z1 at hc1
        generalize (upTo n k).getD k 0 = z3 at hc3
        go_wp2
        go_roundw
        case rel => exact ⟨k + 1, by omega, by go_num, HK.out.next⟩
        case measure => simp [intOf]; omega
      · obtain ⟨y0, f0, y1, f1, y2, f2, y3, f3⟩ := zero_cells HK.out.res
        have HKN : Hid (k = n) := by show _ = _; omega
        go_wp2
        refine bodyPost_ret (results_row_tmp rfl _ _ w.heap.size 24 _ (0, 0) _ rfl (set4_heap HK.out.res _ _ _ _) Try.underlying24 rfl Try.size24) rfl ⟨_, rfl, HK.out.told HKN.out _ _ _ _, set4_below HK.out.bel (Nat.le_refl _) _ _ _ _⟩

set_option maxHeartbeats 400000 in
theorem new_no (n : Int) (w : World) (h : Hid (n < 1 ∨ 64 < n)) : Calls Try.prog 11 #[.int .i64 n] w (TellE w noP 1) := by
  go_enter Try.func11, Try.ntmps11
  go_wp2_with fail
  refine (isSize_no _ _ h.out).mono ?_
  rintro e w' ⟨rfl, rfl⟩
  go_wp2
  refine bodyPost_ret (results_row_tmp rfl _ _ w.heap.size 24 _ (0, 0) _ rfl (heap_alloc_new _ _) Try.underlying24 rfl Try.size24) rfl ⟨noPl, rfl, owns_none _ _, (Below.refl _ _).alloc (Nat.le_refl _) _⟩

end Go.Proofs.Ytfdbbfjnianahaa
