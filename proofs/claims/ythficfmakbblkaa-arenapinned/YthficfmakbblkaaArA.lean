/- Layer 7's words and what Check, fresh, withPool and withEra tell. (Several texts, one behind the other.) -/
import Derived.Test.YthficfmakbblkaaPoolB
import Derived.Test.YthficfmakbblkaaEraA
import Derived.Laws.CopyOwn
import Derived.Deep.QuietTactic
import Derived.BigQuiet

/- Words for layer 7's proofs: what is shared as a value (two slices, three pools, an era), what it reads as, its box. No conditions. -/
namespace Go.Proofs.Ythficfmakbblkaa
open Go.RowKit
open Pool (Pl PL MayBe noP noPl)
set_option linter.unusedVariables false

theorem hide {p : Prop} (h : p) : Hid p := h

theorem size31 : (Try.prog.info? 31).map (·.size) = some 16 := by kernel_rfl
theorem size27 : (Try.prog.info? 27).map (·.size) = some 12 := by kernel_rfl

/-- A slice's header. -/
structure Sl where
  (A : Option Addr)
  (n c : Nat)

/-- What is shared, as a value. -/
structure Sh where
  (m l : Sl)
  (p0 p1 p2 : Pl)
  (t : Int)
  (z : Sl)

/-- The cells of its box. -/
def Sh.cs (s : Sh) : Array Value := #[.slice s.m.A s.m.n s.m.c, .slice s.l.A s.l.n s.l.c,
  .slice s.p0.A0 s.p0.n0 s.p0.c0, .slice s.p0.A1 s.p0.n1 s.p0.c1, .slice s.p0.A2 s.p0.n2 s.p0.c2, .slice s.p0.A3 s.p0.n3 s.p0.c3,
  .slice s.p1.A0 s.p1.n0 s.p1.c0, .slice s.p1.A1 s.p1.n1 s.p1.c1, .slice s.p1.A2 s.p1.n2 s.p1.c2, .slice s.p1.A3 s.p1.n3 s.p1.c3,
  .slice s.p2.A0 s.p2.n0 s.p2.c0, .slice s.p2.A1 s.p2.n1 s.p2.c1, .slice s.p2.A2 s.p2.n2 s.p2.c2, .slice s.p2.A3 s.p2.n3 s.p2.c3,
  .int .i64 s.t, .slice s.z.A s.z.n s.z.c]
/-- .. those of the pools. -/
def Sh.ps (s : Sh) : Array Value := #[
  .slice s.p0.A0 s.p0.n0 s.p0.c0, .slice s.p0.A1 s.p0.n1 s.p0.c1, .slice s.p0.A2 s.p0.n2 s.p0.c2, .slice s.p0.A3 s.p0.n3 s.p0.c3,
  .slice s.p1.A0 s.p1.n0 s.p1.c0, .slice s.p1.A1 s.p1.n1 s.p1.c1, .slice s.p1.A2 s.p1.n2 s.p1.c2, .slice s.p1.A3 s.p1.n3 s.p1.c3,
  .slice s.p2.A0 s.p2.n0 s.p2.c0, .slice s.p2.A1 s.p2.n1 s.p2.c1, .slice s.p2.A2 s.p2.n2 s.p2.c2, .slice s.p2.A3 s.p2.n3 s.p2.c3]
abbrev Sh.val (s : Sh) : Value := .agg s.cs

/-- The pool at place k. -/
def Sh.pl (s : Sh) : Nat → Pl
  | 0 => s.p0
  | 1 => s.p1
  | _ => s.p2
def Sh.setPl (s : Sh) (k : Nat) (q : Pl) : Sh := match k with
  | 0 => { s with p0 := q }
  | 1 => { s with p1 := q }
  | _ => { s with p2 := q }
def Sh.setEra (s : Sh) (t : Int) (z : Sl) : Sh := { s with t := t, z := z }

/-- What it reads as. -/
structure SL where
  (M L : List Int)
  (P0 P1 P2 : PL)
  (T : Int)
  (Z : List Int)
def SL.pl (X : SL) : Nat → PL
  | 0 => X.P0
  | 1 => X.P1
  | _ => X.P2
def SL.setPl (X : SL) (k : Nat) (Q : PL) : SL := match k with
  | 0 => { X with P0 := Q }
  | 1 => { X with P1 := Q }
  | _ => { X with P2 := Q }
def SL.setEra (X : SL) (t : Int) (z : List Int) : SL := { X with T := t, Z := z }

def noSl : Sl := ⟨none, 0, 0⟩
def noSh : Sh := ⟨noSl, noSl, noPl, noPl, noPl, 0, noSl⟩
def noS : SL := ⟨[], [], noP, noP, noP, 0, []⟩
abbrev zeros16 : Array Value := #[.slice none 0 0, .slice none 0 0, .slice none 0 0, .slice none 0 0, .slice none 0 0, .slice none 0 0, .slice none 0 0, .slice none 0 0, .slice none 0 0, .slice none 0 0, .slice none 0 0, .slice none 0 0, .slice none 0 0, .slice none 0 0, .int .i64 0, .slice none 0 0]
theorem noSh_cs : noSh.cs = zeros16 := rfl

theorem cs_size (s : Sh) : s.cs.size = 16 := rfl
theorem cs_info (s : Sh) : (Try.prog.info? 31).map (·.size) = some s.cs.size := by rw [cs_size]; exact size31
theorem cs_one (s : Sh) : s.cs.all (·.oneCell') = true := by kernel_rfl
theorem three {P : Nat → Prop} (h0 : P 0) (h1 : P 1) (h2 : P 2) (k : Nat) (hk : k < 3) : P k := by
  match k, hk with
  | 0, _ => exact h0
  | 1, _ => exact h1
  | 2, _ => exact h2
theorem ps_at (s : Sh) (k : Nat) (hk : k < 3) : ∀ w, (Instr.index 27 (.agg s.ps) (.int .i64 (k : Int))).run Try.prog w = .ok (s.pl k).val w :=
  three (P := fun k => ∀ w, (Instr.index 27 (.agg s.ps) (.int .i64 (k : Int))).run Try.prog w = .ok (s.pl k).val w) (fun _ => by kernel_rfl) (fun _ => by kernel_rfl) (fun _ => by kernel_rfl) k hk

/-- A block that a slice of some elements leads to. -/
def InA (A : Option Addr) (n b : Nat) : Prop := 0 < n ∧ ∃ a, A = some a ∧ a.block = b
def HasP (p : Pl) (b : Nat) : Prop := InA p.A0 p.n0 b ∨ InA p.A1 p.n1 b ∨ InA p.A2 p.n2 b ∨ InA p.A3 p.n3 b
def Sh.Has (s : Sh) (b : Nat) : Prop := InA s.m.A s.m.n b ∨ InA s.l.A s.l.n b ∨ InA s.z.A s.z.n b ∨ ∃ k, k < 3 ∧ HasP (s.pl k) b

/-- In world u the value s reads as X. -/
structure Sees (u : World) (s : Sh) (X : SL) : Prop where
  m : Pool.Nums u u.heap.size 1 s.m.A s.m.n X.M
  l : Pool.Nums u u.heap.size 1 s.l.A s.l.n X.L
  p : ∀ k, k < 3 → Pool.Reads u u.heap.size (s.pl k) (X.pl k)
  t : s.t = X.T
  z : Era.Reads u u.heap.size s.z.A s.z.n s.z.c X.Z

/-- What is not great. -/
structure Few (X : SL) : Prop where
  m : X.M.length ≤ 2000
  l : X.L.length ≤ 200
  p : ∀ k, k < 3 → Pool.Few (X.pl k)
  z : X.Z.length ≤ 200

/-- What may be. -/
def OkS (X : SL) : Prop := (∀ k, k < 3 → MayBe (X.pl k)) ∧ Era.Ok X.T X.Z

section
variable {u u' : World} {s : Sh} {X : SL} {g n B : Nat} {A : Option Addr} {zs : List Int}
theorem nums_lt (h : Pool.Nums u B 1 A n zs) {b : Nat} (hb : InA A n b) : b < B := by
  obtain ⟨hn, a, ha, rfl⟩ := hb
  obtain ⟨b', off, e, hl, _⟩ := h.2 hn
  rw [e] at ha
  cases ha
  exact hl
theorem nums_same (h : Pool.Nums u B 1 A n zs) (hc : ∀ b i, InA A n b → u'.cell? ⟨b, i, none⟩ = u.cell? ⟨b, i, none⟩) : Pool.Nums u' B 1 A n zs := by
  refine ⟨h.1, fun hn => ?_⟩
  obtain ⟨b, off, e, hl, hx⟩ := h.2 hn
  exact ⟨b, off, e, hl, fun i hi => (hc b _ ⟨hn, _, e, rfl⟩).trans (hx i hi)⟩
theorem Sees.lt (h : Sees u s X) {b : Nat} (hb : s.Has b) : b < u.heap.size := by
  rcases hb with hb | hb | hb | ⟨k, hk, hb⟩
  · exact nums_lt h.m hb
  · exact nums_lt h.l hb
  · exact nums_lt h.z.1 hb
  · have r := h.p k hk
    rcases hb with hb | hb | hb | hb
    · exact nums_lt r.g hb
    · exact nums_lt r.s hb
    · exact nums_lt r.t hb
    · exact nums_lt r.f hb
theorem reads_same {p : Pl} {P : PL} (h : Pool.Reads u B p P) (hc : ∀ b i, HasP p b → u'.cell? ⟨b, i, none⟩ = u.cell? ⟨b, i, none⟩) : Pool.Reads u' B p P :=
  ⟨nums_same h.g fun b i hb => hc b i (.inl hb), nums_same h.s fun b i hb => hc b i (.inr (.inl hb)), nums_same h.t fun b i hb => hc b i (.inr (.inr (.inl hb))), nums_same h.f fun b i hb => hc b i (.inr (.inr (.inr hb))), h.zg, h.zs, h.zw, h.zf⟩
theorem Sees.same (h : Sees u s X) (hs : u.heap.size ≤ u'.heap.size) (hc : ∀ b i, s.Has b → u'.cell? ⟨b, i, none⟩ = u.cell? ⟨b, i, none⟩) : Sees u' s X :=
  ⟨(nums_same h.m fun b i hb => hc b i (.inl hb)).more hs, (nums_same h.l fun b i hb => hc b i (.inr (.inl hb))).more hs,
    fun k hk => (reads_same (h.p k hk) fun b i hb => hc b i (.inr (.inr (.inr ⟨k, hk, hb⟩)))).more hs, h.t,
    ⟨Era.Nums.more (nums_same h.z.1 fun b i hb => hc b i (.inr (.inr (.inl hb)))) hs, h.z.2⟩⟩
theorem Sees.step (h : Sees u s X) (hb : Below u.heap.size u u') : Sees u' s X := h.same hb.size fun b i hB => hb.cell (h.lt hB)
theorem Sees.alloc (h : Sees u s X) (o : Obj) : Sees (u.alloc o) s X := h.step ((Below.refl _ _).alloc (Nat.le_refl _) _)
theorem Sees.row (h : Sees u s X) (hg : ¬ s.Has g) (cs : Array Value) : Sees (u.setRow g cs) s X :=
  h.same (by simp) fun b i hb => cell_setRow_other u g cs _ (by rintro rfl; exact hg hb)
theorem Sees.cell (h : Sees u s X) (hg : ¬ s.Has g) (i : Nat) (v : Value) : Sees (u.setCell ⟨g, i, none⟩ v) s X :=
  h.same (by simp) fun b j hb => by
    have : b ≠ g := by rintro rfl; exact hg hb
    simp [World.cell?, heap_setCell_other u ⟨g, i, none⟩ b v this]
end

/-- Block g is the box of a value of what is shared. -/
def SBox (u : World) (g : Nat) (s : Sh) : Prop := u.heap[g]? = some (.cells s.cs 31 (0, 0))
section
variable {u u' : World} {s s' : Sh} {g : Nat}
theorem SBox.lt (h : SBox u g s) : g < u.heap.size := (Array.getElem?_eq_some_iff.1 h).1
theorem SBox.below {B : Nat} (h : SBox u g s) (hb : Below B u u') (hg : g < B) : SBox u' g s := (hb.block g hg).trans h
theorem SBox.step (h : SBox u g s) (hb : Below u.heap.size u u') : SBox u' g s := h.below hb h.lt
theorem SBox.alloc (h : SBox u g s) (o : Obj) : SBox (u.alloc o) g s := (Below.heap_alloc u o g h.lt).trans h
theorem SBox.new (u : World) (s : Sh) : SBox (u.alloc (.cells s.cs 31)) u.heap.size s := heap_alloc_new u _
theorem SBox.put (h : SBox u g s) (s' : Sh) : SBox (u.setRow g s'.cs) g s' := setRow_heap u g _ _ 31 (0, 0) h
theorem SBox.far (h : SBox u g s) {k : Nat} (hk : g ≠ k) (cs : Array Value) : SBox (u.setRow k cs) g s := (setRow_other u k g cs hk).trans h
theorem SBox.other (h : SBox u g s) {k : Nat} (hk : g ≠ k) (i : Nat) (v : Value) : SBox (u.setCell ⟨k, i, none⟩ v) g s := (heap_setCell_other u ⟨k, i, none⟩ g v hk).trans h
theorem SBox.cells (h : SBox u g s) (i : Nat) : u.cell? ⟨g, i, none⟩ = s.cs[i]? := cell_of_row u g i _ 31 (0, 0) h
theorem SBox.frozen (h : SBox u g s) (i : Nat) : u.frozen? ⟨g, i, none⟩ = false := frozen_of_row u g i _ 31 h
/-- The pools of it. -/
theorem ps_cells (s : Sh) : ∀ j v, s.ps.toList[j]? = some v → s.cs[2 + j]? = some v := by
  intro j v h
  have hj : j < 12 := by
    have := (List.getElem?_eq_some_iff.1 h).1
    simpa [Sh.ps] using this
  rw [← h]
  match j, hj with
  | 0, _ | 1, _ | 2, _ | 3, _ | 4, _ | 5, _ | 6, _ | 7, _ | 8, _ | 9, _ | 10, _ | 11, _ => rfl
/-- The cells of the pool at place k. -/
theorem pl_cells (s : Sh) (k : Nat) (hk : k < 3) : s.cs[2 + k * 4]? = some (.slice (s.pl k).A0 (s.pl k).n0 (s.pl k).c0) ∧ s.cs[2 + k * 4 + 1]? = some (.slice (s.pl k).A1 (s.pl k).n1 (s.pl k).c1) ∧
    s.cs[2 + k * 4 + 2]? = some (.slice (s.pl k).A2 (s.pl k).n2 (s.pl k).c2) ∧ s.cs[2 + k * 4 + 3]? = some (.slice (s.pl k).A3 (s.pl k).n3 (s.pl k).c3) := by
  match k, hk with
  | 0, _ | 1, _ | 2, _ => exact ⟨rfl, rfl, rfl, rfl⟩
theorem SBox.pool (h : SBox u g s) {k : Nat} (hk : k < 3) : u.cell? ⟨g, 2 + k * 4, none⟩ = some (.slice (s.pl k).A0 (s.pl k).n0 (s.pl k).c0) ∧ u.cell? ⟨g, 2 + k * 4 + 1, none⟩ = some (.slice (s.pl k).A1 (s.pl k).n1 (s.pl k).c1) ∧
    u.cell? ⟨g, 2 + k * 4 + 2, none⟩ = some (.slice (s.pl k).A2 (s.pl k).n2 (s.pl k).c2) ∧ u.cell? ⟨g, 2 + k * 4 + 3, none⟩ = some (.slice (s.pl k).A3 (s.pl k).n3 (s.pl k).c3) := by
  obtain ⟨h0, h1, h2, h3⟩ := pl_cells s k hk
  exact ⟨(h.cells _).trans h0, (h.cells _).trans h1, (h.cells _).trans h2, (h.cells _).trans h3⟩
theorem SBox.era (h : SBox u g s) : u.cell? ⟨g, 14, none⟩ = some (.int .i64 s.t) ∧ u.cell? ⟨g, 15, none⟩ = some (.slice s.z.A s.z.n s.z.c) := ⟨h.cells 14, h.cells 15⟩
end

section
variable {P : Program}
/-- A part of a block is loaded. -/
theorem wpList_load_part {ops : Array Oper} {rest : List Oper} {o : Oper} {a : Act} {w : World} {Q : Exit → Act → World → Prop} (hgd : o.guard = none) (ty : TypeId) (x : Operand) (ho : o.op = .load ty x)
    (g off : Nat) (hx : a.eval x = .pointer (some ⟨g, off, none⟩)) (cs : Array Value) (hc : ∀ j v, cs.toList[j]? = some v → w.cell? ⟨g, off + j, none⟩ = some v) (d : TypeDesc)
    (hu : P.underlying ty = some d) (hd : (match d with | .struct _ | .array _ _ => true | _ => false) = true) (hi : (P.info? ty).map (·.size) = some cs.size)
    (h : wpList P ops Q rest (a.put o.dst (.agg cs)) w) : wpList P ops Q (o :: rest) a w := by
  have hl : (loadCells ⟨g, off, none⟩ cs.toList.length).run P w = .ok cs.toList.toArray w :=
    run_loadCells_list (P := P) w ⟨g, off, none⟩ cs.toList (fun j v hv => by
      have hadd : (⟨g, off, none⟩ : Addr).add j = ⟨g, off + j, none⟩ := by unfold Addr.add; split <;> simp_all
      rw [hadd]
      exact hc j v hv)
  have hr : (loadVar ty ⟨g, off, none⟩).run P w = .ok (.agg cs) w := by
    cases hq : P.info? ty with
    | none => simp [hq] at hi
    | some i =>
      have hs : i.size = cs.size := by simpa [hq] using hi
      have hagg : (isAgg ty).run P w = .ok true w := by
        unfold isAgg
        rw [Sem.run_bind, run_underlying hu w]
        cases d <;> simp_all
      simp only [Array.length_toList, Array.toArray_toList] at hl
      simp [loadVar, Sem.run_bind, hagg, sizeOf, typeInfo, hq, hs, hl]
  refine wpList_plain hgd fun _ hK => ?_
  unfold Oper.wp execOp
  simp only [ho, hx, Instr.loadAt, Instr.sureAddr, Sem.run_bind, Sem.run_pure, Result.andThen_ok, hr]
  exact hK _ _ h
end

/-- What is told leads to what is new, or to what was handed in. -/
def Kin (w : World) (s s' : Sh) : Prop := ∀ b, s'.Has b → w.heap.size ≤ b ∨ s.Has b
theorem inA_nil {n b : Nat} {A : Option Addr} (hn : n = 0) (h : InA A n b) : False := by have := h.1; omega
theorem noSh_has {b : Nat} (h : noSh.Has b) : False := by
  rcases h with h | h | h | ⟨k, hk, h⟩
  · exact inA_nil rfl h
  · exact inA_nil rfl h
  · exact inA_nil rfl h
  · have e : noSh.pl k = noPl := by match k, hk with | 0, _ | 1, _ | 2, _ => rfl
    rw [e] at h
    rcases h with h | h | h | h <;> exact inA_nil rfl h
theorem noSh_sees (u : World) : Sees u noSh noS :=
  ⟨Pool.Nums.nil, Pool.Nums.nil, fun k hk => by
    have e : noSh.pl k = noPl := by match k, hk with | 0, _ | 1, _ | 2, _ => rfl
    have e' : noS.pl k = noP := by match k, hk with | 0, _ | 1, _ | 2, _ => rfl
    rw [e, e']
    exact (Pool.told_none u 0).reads, rfl, ⟨Era.Nums.nil, fun _ => rfl⟩⟩
theorem noS_few : Few noS := ⟨by simp [noS], by simp [noS], fun k hk => by
  have e' : noS.pl k = noP := by match k, hk with | 0, _ | 1, _ | 2, _ => rfl
  rw [e']
  exact ⟨by simp [noP], by simp [noP], by simp [noP], by simp [noP]⟩, by simp [noS]⟩

end Go.Proofs.Ythficfmakbblkaa

/- What Check tells of anything that is shared, the code's and the document's. -/
namespace Go.Proofs.Ythficfmakbblkaa
open Go.RowKit
open Pool (Pl PL MayBe noP noPl Drew)
set_option linter.unusedVariables false
set_option maxRecDepth 100000

def chk (b : Bool) : Int := if b then 0 else 1
theorem small_of {u : World} {B : Nat} {p : Pl} {P : PL} (h : Pool.Reads u B p P) (hf : Pool.Few P) : Pool.Small p := by
  have h0 := h.g.1
  have h1 := h.s.1
  have h2 := h.t.1
  have h3 := h.f.1
  obtain ⟨f0, f1, f2, f3⟩ := hf
  exact ⟨by omega, by omega, by omega, by omega⟩

set_option maxHeartbeats 4000000 in
theorem check_any (s : Sh) (X : SL) (b : Bool) (w : World) (S : Sees w s X) (F : Few X) (hb : Hid (b = true ↔ OkS X)) :
    Calls Try.prog 14 #[s.val] w (Drew (.int .i64 (chk b)) w) := by
  have X0 := hide (SBox.new w s)
  have B0 := hide ((Below.refl w.heap.size w).alloc (Nat.le_refl _) (.cells s.cs 31))
  have HS := hide S
  have HF := hide F
  have HP : Hid (∀ j v, s.ps.toList[j]? = some v → (w.alloc (.cells s.cs 31)).cell? ⟨w.heap.size, 2 + j, none⟩ = some v) := fun j v h => (X0.out.cells _).trans (ps_cells s j v h)
  clear S F
  go_enter Try.func14, Try.ntmps14
  go_wp2_with (refine wpList_load_part rfl 27 (.tmp 6) rfl w.heap.size 2 rfl s.ps HP.out _ Try.underlying27 rfl size27 ?_)
  go_loopw [8] (fun i wr => ∃ k : Nat, k ≤ 3 ∧ i = .int .i64 k ∧ Hid (SBox wr w.heap.size s) ∧ Hid (Below w.heap.size w wr) ∧ Hid (∀ j, j < k → MayBe (X.pl j)))
    (fun i _ => 3 - (intOf i).toNat)
  case atStart => exact ⟨0, by omega, rfl, X0, B0, by intro j hj; omega⟩
  case round =>
    obtain ⟨k, hk, rfl, XB, HB, HA⟩ := hrel
    clear X0 B0 HP
    by_cases hlt : k < 3
    · have hi := ps_at s k hlt
      obtain ⟨b', hb'⟩ := Pool.bool_of (MayBe (X.pl k))
      have HB' := hide hb'
      clear hb'
      have RK := hide ((HS.out.p k hlt).below HB.out (Nat.le_refl _))
      have SK := hide (small_of RK.out (HF.out.p k hlt))
      have XA := hide (XB.out.alloc (.cells (s.pl k).cs 26))
      have HBA := hide (HB.out.alloc HB.out.size (.cells (s.pl k).cs 26))
      have RA := hide (RK.out.below ((Below.refl wr.heap.size wr).alloc (Nat.le_refl _) (.cells (s.pl k).cs 26)) HB.out.size)
      generalize hp : s.pl k = p at hi RK SK XA HBA RA
      have hsz := HB.out.size
      clear hp
      go_wp2_with fail
      refine (Pool.check_any p (X.pl k) w.heap.size b' _ RA.out (by simp; omega) SK.out HB').mono ?_
      rintro e u1 ⟨rfl, hu1⟩
      have X2 := hide (XA.out.step hu1)
      have HB2 := hide (Pool.next_call HBA.out (Nat.le_refl _) hu1)
      clear hu1 hi RK RA XA HBA SK
      cases b' with
      | true =>
        have HA' : Hid (∀ j, j < k + 1 → MayBe (X.pl j)) := fun j hj => by
          rcases Nat.lt_or_ge j k with h | h
          · exact HA.out j h
          · obtain rfl : j = k := by omega
            exact HB'.out.1 rfl
        clear HB'
        go_wp2
        go_roundw
        case rel => exact ⟨k + 1, by omega, by go_num, X2, HB2, HA'⟩
        case measure => simp [intOf]; omega
      | false =>
        have E : Hid (b = false) := by
          show _ = _
          cases b with
          | false => rfl
          | true => exact absurd (HB'.out.2 ((hb.out.1 rfl).1 k hlt)) (by simp)
        clear HB' hb
        go_wp2
        go_ret
        exact ⟨by rw [E.out]; rfl, HB2.out⟩
    · obtain ⟨b', hb'⟩ := Pool.bool_of (Era.Ok X.T X.Z)
      have E : Hid (b = b') := by
        show _ = _
        rw [Bool.eq_iff_iff, hb.out, hb']
        exact ⟨fun h => h.2, fun h => ⟨fun j hj => HA.out j (by omega), h⟩⟩
      have HB' := hide hb'
      have et := XB.out.era
      obtain ⟨e0, e1⟩ := et
      have hl := XB.out.lt
      rw [HS.out.t] at e0
      have ZR := hide (HS.out.z.below HB.out (Nat.le_refl _))
      have hsz := HB.out.size
      clear hb' hb HA
      go_wp2_with fail
      refine (Era.check_any X.T s.z.A s.z.n s.z.c w.heap.size X.Z b' _ ZR.out hsz HB').mono ?_
      rintro e u1 ⟨rfl, hu1⟩
      have HB2 := hide (Pool.next_call HB.out (Nat.le_refl _) hu1)
      clear hu1 e0 e1 hl hsz HB'
      go_wp2
      go_ret
      exact ⟨by rw [E.out]; rfl, HB2.out⟩

set_option maxHeartbeats 4000000 in
theorem rcheck_any (s : Sh) (X : SL) (b : Bool) (w : World) (S : Sees w s X) (F : Few X) (hb : Hid (b = true ↔ OkS X)) :
    Calls Try.prog 15 #[s.val] w (Drew (.int .i64 (chk b)) w) := by
  have X0 := hide (SBox.new w s)
  have B0 := hide ((Below.refl w.heap.size w).alloc (Nat.le_refl _) (.cells s.cs 31))
  have HS := hide S
  have HF := hide F
  have HP : Hid (∀ j v, s.ps.toList[j]? = some v → (w.alloc (.cells s.cs 31)).cell? ⟨w.heap.size, 2 + j, none⟩ = some v) := fun j v h => (X0.out.cells _).trans (ps_cells s j v h)
  clear S F
  go_enter Try.func15, Try.ntmps15
  go_wp2_with (refine wpList_load_part rfl 27 (.tmp 5) rfl w.heap.size 2 rfl s.ps HP.out _ Try.underlying27 rfl size27 ?_)
  go_loopw [7] (fun i wr => ∃ k : Nat, k ≤ 3 ∧ i = .int .i64 k ∧ Hid (SBox wr w.heap.size s) ∧ Hid (Below w.heap.size w wr) ∧ Hid (∀ j, j < k → MayBe (X.pl j)))
    (fun i _ => 3 - (intOf i).toNat)
  case atStart => exact ⟨0, by omega, rfl, X0, B0, by intro j hj; omega⟩
  case round =>
    obtain ⟨k, hk, rfl, XB, HB, HA⟩ := hrel
    clear X0 B0 HP
    by_cases hlt : k < 3
    · have hi := ps_at s k hlt
      obtain ⟨b', hb'⟩ := Pool.bool_of (MayBe (X.pl k))
      have HB' := hide hb'
      clear hb'
      have RK := hide ((HS.out.p k hlt).below HB.out (Nat.le_refl _))
      have SK := hide (small_of RK.out (HF.out.p k hlt))
      have XA := hide (XB.out.alloc (.cells (s.pl k).cs 26))
      have HBA := hide (HB.out.alloc HB.out.size (.cells (s.pl k).cs 26))
      have RA := hide (RK.out.below ((Below.refl wr.heap.size wr).alloc (Nat.le_refl _) (.cells (s.pl k).cs 26)) HB.out.size)
      generalize hp : s.pl k = p at hi RK SK XA HBA RA
      have hsz := HB.out.size
      clear hp
      go_wp2_with fail
      refine (Pool.rcheck_any p (X.pl k) w.heap.size b' _ RA.out (by simp; omega) SK.out HB').mono ?_
      rintro e u1 ⟨rfl, hu1⟩
      have X2 := hide (XA.out.step hu1)
      have HB2 := hide (Pool.next_call HBA.out (Nat.le_refl _) hu1)
      clear hu1 hi RK RA XA HBA SK
      cases b' with
      | true =>
        have HA' : Hid (∀ j, j < k + 1 → MayBe (X.pl j)) := fun j hj => by
          rcases Nat.lt_or_ge j k with h | h
          · exact HA.out j h
          · obtain rfl : j = k := by omega
            exact HB'.out.1 rfl
        clear HB'
        go_wp2
        go_roundw
        case rel => exact ⟨k + 1, by omega, by go_num, X2, HB2, HA'⟩
        case measure => simp [intOf]; omega
      | false =>
        have E : Hid (b = false) := by
          show _ = _
          cases b with
          | false => rfl
          | true => exact absurd (HB'.out.2 ((hb.out.1 rfl).1 k hlt)) (by simp)
        clear HB' hb
        go_wp2
        go_ret
        exact ⟨by rw [E.out]; rfl, HB2.out⟩
    · obtain ⟨b', hb'⟩ := Pool.bool_of (Era.Ok X.T X.Z)
      have E : Hid (b = b') := by
        show _ = _
        rw [Bool.eq_iff_iff, hb.out, hb']
        exact ⟨fun h => h.2, fun h => ⟨fun j hj => HA.out j (by omega), h⟩⟩
      have HB' := hide hb'
      have et := XB.out.era
      obtain ⟨e0, e1⟩ := et
      have hl := XB.out.lt
      rw [HS.out.t] at e0
      have ZR := hide (HS.out.z.below HB.out (Nat.le_refl _))
      have hsz := HB.out.size
      clear hb' hb HA
      go_wp2_with fail
      refine (Era.rcheck_any X.T s.z.A s.z.n s.z.c w.heap.size X.Z b' _ ZR.out hsz HB').mono ?_
      rintro e u1 ⟨rfl, hu1⟩
      have HB2 := hide (Pool.next_call HB.out (Nat.le_refl _) hu1)
      clear hu1 e0 e1 hl hsz HB'
      go_wp2
      go_ret
      exact ⟨by rw [E.out]; rfl, HB2.out⟩

end Go.Proofs.Ythficfmakbblkaa

/- What fresh tells: what is shared, with pools and pins of its own. -/
namespace Go.Proofs.Ythficfmakbblkaa
open Go.RowKit
open Pool (Pl PL MayBe noP noPl Drew Told4 Row)
set_option linter.unusedVariables false
set_option maxRecDepth 100000

section
variable {u u' : World} {B g : Nat} {q : Pl} {Q : PL}
theorem told_cell (h : Told4 u B q Q) (hk : g < B) (i : Nat) (x : Value) : Told4 (u.setCell ⟨g, i, none⟩ x) B q Q :=
  ⟨h.g.free hk i x, h.s.free hk i x, h.t.free hk i x, h.f.free hk i x, h.zg, h.zs, h.zt, h.zf⟩
theorem row_has {A : Option Addr} {n : Nat} {zs : List Int} (h : Row u B A n zs) {b : Nat} (hb : InA A n b) : B ≤ b := by
  obtain ⟨hn, a, ha, rfl⟩ := hb
  obtain ⟨g, off, cs, e, hB, _⟩ := h.2 hn
  rw [e] at ha
  cases ha
  exact hB
theorem told_has (h : Told4 u B q Q) {b : Nat} (hb : HasP q b) : B ≤ b := by
  rcases hb with hb | hb | hb | hb
  · exact row_has h.g hb
  · exact row_has h.s hb
  · exact row_has h.t hb
  · exact row_has h.f hb
end

/-- The four cells of the pool at place k of a box are written. -/
theorem set_pl (s : Sh) (k : Nat) (hk : k < 3) (q : Pl) : (((s.cs.setIfInBounds (2 + k * 4) (.slice q.A0 q.n0 q.c0)).setIfInBounds (2 + k * 4 + 1) (.slice q.A1 q.n1 q.c1)).setIfInBounds (2 + k * 4 + 2) (.slice q.A2 q.n2 q.c2)).setIfInBounds (2 + k * 4 + 3) (.slice q.A3 q.n3 q.c3) = (s.setPl k q).cs :=
  three (P := fun k => (((s.cs.setIfInBounds (2 + k * 4) (.slice q.A0 q.n0 q.c0)).setIfInBounds (2 + k * 4 + 1) (.slice q.A1 q.n1 q.c1)).setIfInBounds (2 + k * 4 + 2) (.slice q.A2 q.n2 q.c2)).setIfInBounds (2 + k * 4 + 3) (.slice q.A3 q.n3 q.c3) = (s.setPl k q).cs)
    (by kernel_rfl) (by kernel_rfl) (by kernel_rfl) k hk
theorem SBox.setPl {u : World} {g k : Nat} {s : Sh} (h : SBox u g s) (hk : k < 3) (q : Pl) :
    SBox ((((u.setCell ⟨g, 2 + k * 4, none⟩ (.slice q.A0 q.n0 q.c0)).setCell ⟨g, 2 + k * 4 + 1, none⟩ (.slice q.A1 q.n1 q.c1)).setCell ⟨g, 2 + k * 4 + 2, none⟩ (.slice q.A2 q.n2 q.c2)).setCell ⟨g, 2 + k * 4 + 3, none⟩ (.slice q.A3 q.n3 q.c3)) g (s.setPl k q) := by
  unfold SBox
  rw [← set_pl s k hk q]
  exact heap_setCell_same _ g _ _ 31 _ (heap_setCell_same _ g _ _ 31 _ (heap_setCell_same _ g _ _ 31 _ (heap_setCell_same u g _ _ 31 _ h)))
theorem setPl_pl (s : Sh) {k j : Nat} (hk : k < 3) (hj : j < 3) (q : Pl) : (s.setPl k q).pl j = if j = k then q else s.pl j := by
  match k, hk, j, hj with
  | 0, _, 0, _ | 0, _, 1, _ | 0, _, 2, _ | 1, _, 0, _ | 1, _, 1, _ | 1, _, 2, _ | 2, _, 0, _ | 2, _, 1, _ | 2, _, 2, _ => rfl
theorem setPL_pl (X : SL) {k j : Nat} (hk : k < 3) (hj : j < 3) (Q : PL) : (X.setPl k Q).pl j = if j = k then Q else X.pl j := by
  match k, hk, j, hj with
  | 0, _, 0, _ | 0, _, 1, _ | 0, _, 2, _ | 1, _, 0, _ | 1, _, 1, _ | 1, _, 2, _ | 2, _, 0, _ | 2, _, 1, _ | 2, _, 2, _ => rfl
theorem setPl_rest (s : Sh) (k : Nat) (q : Pl) : (s.setPl k q).m = s.m ∧ (s.setPl k q).l = s.l ∧ (s.setPl k q).t = s.t ∧ (s.setPl k q).z = s.z := by
  unfold Sh.setPl
  split <;> exact ⟨rfl, rfl, rfl, rfl⟩
theorem setPL_rest (X : SL) (k : Nat) (Q : PL) : (X.setPl k Q).M = X.M ∧ (X.setPl k Q).L = X.L ∧ (X.setPl k Q).T = X.T ∧ (X.setPl k Q).Z = X.Z := by
  unfold SL.setPl
  split <;> exact ⟨rfl, rfl, rfl, rfl⟩

/-- While the pools of q, in the box behind two others, are made anew: k of them are. -/
structure Fr (w u : World) (s : Sh) (X : SL) (q : Sh) (k : Nat) : Prop where
  bel : Below w.heap.size w u
  box : SBox u w.heap.size s
  res : SBox u (w.heap.size + 1) noSh
  own : SBox u (w.heap.size + 2) q
  told : ∀ j, j < k → Told4 u (w.heap.size + 3) (q.pl j) (X.pl j)
  rest : q.m = s.m ∧ q.l = s.l ∧ q.t = s.t ∧ q.z = s.z

section
variable {w u u' : World} {s q : Sh} {X : SL} {k : Nat}
theorem Fr.step (h : Fr w u s X q k) (hb : Below u.heap.size u u') : Fr w u' s X q k :=
  ⟨Pool.next_call h.bel (Nat.le_refl _) hb, h.box.step hb, h.res.step hb, h.own.step hb, fun j hj => (h.told j hj).below hb, h.rest⟩
theorem Fr.alloc (h : Fr w u s X q k) (o : Obj) : Fr w (u.alloc o) s X q k := h.step ((Below.refl _ _).alloc (Nat.le_refl _) _)
end

theorem heap3 (w : World) (A B C : Obj) : (((w.alloc A).alloc B).alloc C).heap[w.heap.size + 1 + 1]? = some C := by
  have h := heap_alloc_new ((w.alloc A).alloc B) C
  have e : ((w.alloc A).alloc B).heap.size = w.heap.size + 1 + 1 := by simp
  rwa [e] at h
theorem Fr.first (w : World) (s : Sh) (X : SL) : Fr w ((((w.alloc (.cells s.cs 31)).alloc (.cells zeros16 31)).alloc (.cells zeros16 31)).setRow (w.heap.size + 1 + 1) s.cs) s X s 0 :=
  ⟨below_setRow ((((Below.refl _ _).alloc (Nat.le_refl _) _).alloc (by simp) _).alloc (by simp; omega) _) (by omega) _,
    (((SBox.new w s).alloc _).alloc _).far (by omega) _,
    SBox.far (SBox.alloc (s := noSh) (heap_alloc2_new w _ _) _) (by omega) _,
    setRow_heap _ _ _ _ 31 (0, 0) (heap3 w _ _ _), fun j hj => absurd hj (by omega), rfl, rfl, rfl, rfl⟩

/-- A pool whose four lists were copied, one behind the other. -/
theorem told_clones {u0 uG uS uT uF : World} {P : PL} {A0 A1 A2 A3 : Option Addr} {n0 n1 n2 n3 c0 c1 c2 c3 : Nat}
    (oG : uG.ownsRow u0.heap.size 3 1 (.slice A0 n0 c0) n0 (Pool.ints P.G)) (bG : Below u0.heap.size u0 uG) (zG : A0 = none → c0 = 0)
    (oS : uS.ownsRow uG.heap.size 3 1 (.slice A1 n1 c1) n1 (Pool.ints P.S)) (bS : Below uG.heap.size uG uS) (zS : A1 = none → c1 = 0)
    (oT : uT.ownsRow uS.heap.size 3 1 (.slice A2 n2 c2) n2 (Pool.ints P.W)) (bT : Below uS.heap.size uS uT) (zT : A2 = none → c2 = 0)
    (oF : uF.ownsRow uT.heap.size 3 1 (.slice A3 n3 c3) n3 (Pool.ints P.F)) (bF : Below uT.heap.size uT uF) (zF : A3 = none → c3 = 0) :
    Told4 uF u0.heap.size ⟨A0, A1, A2, A3, n0, n1, n2, n3, c0, c1, c2, c3⟩ P := by
  have s1 := bG.size
  have s2 := bS.size
  have s3 := bT.size
  exact ⟨Pool.row_of_own (Pool.own_below (Pool.own_below (Pool.own_below oG bS) bT) bF), (Pool.row_of_own (Pool.own_below (Pool.own_below oS bT) bF)).less s1, (Pool.row_of_own (Pool.own_below oT bF)).less (by omega), (Pool.row_of_own oF).less (by omega), zG, zS, zT, zF⟩

section
variable {w u u' : World} {s q : Sh} {X : SL} {k : Nat}
theorem Fr.put (h : Fr w u s X q k) (hk : k < 3) {p : Pl} {B : Nat} (hp : Told4 u B p (X.pl k)) (hB : w.heap.size + 3 ≤ B) :
    Fr w ((((u.setCell ⟨w.heap.size + 1 + 1, 2 + k * 4, none⟩ (.slice p.A0 p.n0 p.c0)).setCell ⟨w.heap.size + 1 + 1, 2 + k * 4 + 1, none⟩ (.slice p.A1 p.n1 p.c1)).setCell ⟨w.heap.size + 1 + 1, 2 + k * 4 + 2, none⟩ (.slice p.A2 p.n2 p.c2)).setCell ⟨w.heap.size + 1 + 1, 2 + k * 4 + 3, none⟩ (.slice p.A3 p.n3 p.c3)) s X (q.setPl k p) (k + 1) := by
  obtain ⟨r1, r2, r3, r4⟩ := setPl_rest q k p
  refine ⟨(((h.bel.setCell (p := ⟨w.heap.size + 1 + 1, 2 + k * 4, none⟩) (by show _ ≤ w.heap.size + 1 + 1; omega) _).setCell (p := ⟨w.heap.size + 1 + 1, 2 + k * 4 + 1, none⟩) (by show _ ≤ w.heap.size + 1 + 1; omega) _).setCell (p := ⟨w.heap.size + 1 + 1, 2 + k * 4 + 2, none⟩) (by show _ ≤ w.heap.size + 1 + 1; omega) _).setCell (p := ⟨w.heap.size + 1 + 1, 2 + k * 4 + 3, none⟩) (by show _ ≤ w.heap.size + 1 + 1; omega) _,
    (((h.box.other (by omega) _ _).other (by omega) _ _).other (by omega) _ _).other (by omega) _ _, (((h.res.other (by omega) _ _).other (by omega) _ _).other (by omega) _ _).other (by omega) _ _,
    h.own.setPl hk p, fun j hj => ?_, r1.trans h.rest.1, r2.trans h.rest.2.1, r3.trans h.rest.2.2.1, r4.trans h.rest.2.2.2⟩
  have hf : ∀ {Y : Pl} {Q : PL}, Told4 u (w.heap.size + 3) Y Q → Told4 ((((u.setCell ⟨w.heap.size + 1 + 1, 2 + k * 4, none⟩ (.slice p.A0 p.n0 p.c0)).setCell ⟨w.heap.size + 1 + 1, 2 + k * 4 + 1, none⟩ (.slice p.A1 p.n1 p.c1)).setCell ⟨w.heap.size + 1 + 1, 2 + k * 4 + 2, none⟩ (.slice p.A2 p.n2 p.c2)).setCell ⟨w.heap.size + 1 + 1, 2 + k * 4 + 3, none⟩ (.slice p.A3 p.n3 p.c3)) (w.heap.size + 3) Y Q :=
    fun t => told_cell (told_cell (told_cell (told_cell t (by omega) _ _) (by omega) _ _) (by omega) _ _) (by omega) _ _
  rw [setPl_pl q hk (by omega) p]
  by_cases e : j = k
  · subst e
    rw [if_pos rfl]
    exact hf (hp.less hB)
  · rw [if_neg e]
    exact hf (h.told j (by omega))
/-- The cells that are written. -/
theorem pool_room {g : Nat} (h : SBox u g q) (hk : k < 3) : ∃ y0 y1 y2 y3, u.cell? ⟨g, 2 + k * 4, none⟩ = some y0 ∧ u.frozen? ⟨g, 2 + k * 4, none⟩ = false ∧ u.cell? ⟨g, 2 + k * 4 + 1, none⟩ = some y1 ∧ u.frozen? ⟨g, 2 + k * 4 + 1, none⟩ = false ∧
    u.cell? ⟨g, 2 + k * 4 + 2, none⟩ = some y2 ∧ u.frozen? ⟨g, 2 + k * 4 + 2, none⟩ = false ∧ u.cell? ⟨g, 2 + k * 4 + 3, none⟩ = some y3 ∧ u.frozen? ⟨g, 2 + k * 4 + 3, none⟩ = false := by
  obtain ⟨h0, h1, h2, h3⟩ := h.pool hk
  exact ⟨_, _, _, _, h0, h.frozen _, h1, h.frozen _, h2, h.frozen _, h3, h.frozen _⟩
theorem SBox.setZ {g : Nat} (h : SBox u g q) (A : Option Addr) (n c : Nat) : SBox (u.setCell ⟨g, 15, none⟩ (.slice A n c)) g { q with z := ⟨A, n, c⟩ } :=
  heap_setCell_same u g 15 _ 31 _ h
end

/-- What is kept while lists are copied. -/
def Kf (w u : World) (h : Nat) (p : Pl) : Prop := Below w.heap.size w u ∧ Pool.PBox u h p.cs ∧ w.heap.size + 2 < h
theorem Kf.step {w u u' : World} {h : Nat} {p : Pl} (x : Kf w u h p) (hb : Below u.heap.size u u') : Kf w u' h p := ⟨Pool.next_call x.1 (Nat.le_refl _) hb, x.2.1.step hb, x.2.2⟩
theorem Kf.cell {w u : World} {h : Nat} {p : Pl} (x : Kf w u h p) (i : Nat) (v : Value) : Kf w (u.setCell ⟨w.heap.size + 1 + 1, i, none⟩ v) h p := ⟨x.1.setCell (p := ⟨w.heap.size + 1 + 1, i, none⟩) (by show _ ≤ w.heap.size + 1 + 1; omega) _, x.2.1.other (by have := x.2.2; omega) _, x.2.2⟩
theorem Kf.put {w u : World} {h k : Nat} {p : Pl} (x : Kf w u h p) (a b c d : Value) : Kf w ((((u.setCell ⟨w.heap.size + 1 + 1, 2 + k * 4, none⟩ a).setCell ⟨w.heap.size + 1 + 1, 2 + k * 4 + 1, none⟩ b).setCell ⟨w.heap.size + 1 + 1, 2 + k * 4 + 2, none⟩ c).setCell ⟨w.heap.size + 1 + 1, 2 + k * 4 + 3, none⟩ d) h p :=
  (((x.cell _ a).cell _ b).cell _ c).cell _ d

/-- What is told: s' reads as X', and leads to what is new, or to what s leads to. -/
def TellV (w : World) (s : Sh) (X' : SL) (e : Ending) (w' : World) : Prop := ∃ s' : Sh, e = .returned s'.val ∧ Sees w' s' X' ∧ Kin w s s' ∧ Below w.heap.size w w'

theorem inA_row {u : World} {B n c : Nat} {A : Option Addr} {zs : List Int} (h : Era.Row u B A n c zs) {b : Nat} (hb : InA A n b) : B ≤ b := by
  obtain ⟨hn, a, ha, rfl⟩ := hb
  exact (Era.own_addr h.1 a ha).1
theorem setZ_pl (q : Sh) (x : Sl) (k : Nat) : ({ q with z := x } : Sh).pl k = q.pl k := by unfold Sh.pl; split <;> rfl
theorem fresh_told {w u : World} {s q : Sh} {X : SL} {B n c : Nat} {A : Option Addr} (HS : Sees w s X) (F : Fr w u s X q 3) (rz : Era.Row u B A n c X.Z) (hB : w.heap.size + 3 ≤ B) :
    SBox (u.setCell ⟨w.heap.size + 1 + 1, 15, none⟩ (.slice A n c)) (w.heap.size + 1 + 1) { q with z := ⟨A, n, c⟩ } ∧
    (u.setCell ⟨w.heap.size + 1 + 1, 15, none⟩ (.slice A n c)).heap[w.heap.size + 1]? = some (.cells noSh.cs 31 (0, 0)) ∧
    SBox ((u.setCell ⟨w.heap.size + 1 + 1, 15, none⟩ (.slice A n c)).setRow (w.heap.size + 1) ({ q with z := ⟨A, n, c⟩ } : Sh).cs) (w.heap.size + 1) { q with z := ⟨A, n, c⟩ } ∧
    TellV w s X (.returned ({ q with z := ⟨A, n, c⟩ } : Sh).val) ((u.setCell ⟨w.heap.size + 1 + 1, 15, none⟩ (.slice A n c)).setRow (w.heap.size + 1) ({ q with z := ⟨A, n, c⟩ } : Sh).cs) := by
  have h1 := F.own.setZ A n c
  have h2 : SBox (u.setCell ⟨w.heap.size + 1 + 1, 15, none⟩ (.slice A n c)) (w.heap.size + 1) noSh := F.res.other (by omega) _ _
  have hb : Below w.heap.size w ((u.setCell ⟨w.heap.size + 1 + 1, 15, none⟩ (.slice A n c)).setRow (w.heap.size + 1) ({ q with z := ⟨A, n, c⟩ } : Sh).cs) :=
    below_setRow (F.bel.setCell (p := ⟨w.heap.size + 1 + 1, 15, none⟩) (by show _ ≤ w.heap.size + 1 + 1; omega) _) (by omega) _
  have hk : ∀ b, ({ q with z := ⟨A, n, c⟩ } : Sh).Has b → w.heap.size + 3 ≤ b ∨ s.Has b := by
    intro b hb
    rcases hb with hb | hb | hb | ⟨k, hk, hb⟩
    · exact .inr (.inl (by rw [← F.rest.1]; exact hb))
    · exact .inr (.inr (.inl (by rw [← F.rest.2.1]; exact hb)))
    · exact .inl (Nat.le_trans hB (inA_row rz hb))
    · rw [setZ_pl] at hb
      exact .inl (told_has (F.told k hk) hb)
  have hn : ∀ b, w.heap.size ≤ b → b < w.heap.size + 3 → ¬ ({ q with z := ⟨A, n, c⟩ } : Sh).Has b := fun b h1 h2 hb => by
    rcases hk b hb with h | h
    · omega
    · have := HS.lt h; omega
  have S1 : Sees u { q with z := ⟨A, n, c⟩ } X :=
    ⟨by show Pool.Nums _ _ _ q.m.A q.m.n _; rw [F.rest.1]; exact (HS.m.below F.bel (Nat.le_refl _)).more F.bel.size, by show Pool.Nums _ _ _ q.l.A q.l.n _; rw [F.rest.2.1]; exact (HS.l.below F.bel (Nat.le_refl _)).more F.bel.size,
      fun k hk => by rw [setZ_pl]; exact (F.told k hk).reads, F.rest.2.2.1.trans HS.t, rz.reads⟩
  exact ⟨h1, h2, h2.put _, _, rfl, (S1.cell (hn _ (by omega) (by omega)) _ _).row (hn _ (by omega) (by omega)) _, fun b hb => by
    rcases hk b hb with h | h
    · exact .inl (by omega)
    · exact .inr h, hb⟩

set_option maxHeartbeats 4000000 in
theorem fresh_any (s : Sh) (X : SL) (w : World) (S : Sees w s X) (F : Few X) :
    Calls Try.prog 73 #[s.val] w (TellV w s X) := by
  have X0 := hide (SBox.new w s)
  have F0 := hide (Fr.first w s X)
  have HS := hide S
  have HF := hide F
  have HP : Hid (∀ j v, s.ps.toList[j]? = some v → ((((w.alloc (.cells s.cs 31)).alloc (.cells zeros16 31)).alloc (.cells zeros16 31)).setRow (w.heap.size + 1 + 1) s.cs).cell? ⟨w.heap.size, 2 + j, none⟩ = some v) := fun j v h => (F0.out.box.cells _).trans (ps_cells s j v h)
  clear S F
  go_enter Try.func73, Try.ntmps73
  go_wp2_with (first | refine wpList_load_row rfl 31 (.tmp 1) rfl w.heap.size rfl 31 s.cs (0, 0) _ (X0.out.alloc _) Try.underlying31 rfl (cs_info s) ?_ | refine wpList_store_row rfl 31 (.tmp 3) (.tmp 6) rfl (w.heap.size + 1 + 1) s.cs rfl rfl 31 zeros16 (heap3 _ _ _ _) (cs_info s) rfl (cs_one s) ?_ | refine wpList_load_part rfl 27 (.tmp 7) rfl w.heap.size 2 rfl s.ps HP.out _ Try.underlying27 rfl size27 ?_)
  go_loopw [9] (fun i wr => ∃ (k : Nat) (q : Sh), k ≤ 3 ∧ i = .int .i64 k ∧ Hid (Fr w wr s X q k)) (fun i _ => 3 - (intOf i).toNat)
  case atStart => exact ⟨0, s, by omega, rfl, F0⟩
  case round =>
    obtain ⟨k, q, hk, rfl, FR⟩ := hrel
    clear X0 F0 HP
    have hsz := FR.out.own.lt
    by_cases hlt : k < 3
    · have hi := ps_at s k hlt
      have RK := hide (HS.out.p k hlt)
      have SK := hide (small_of RK.out (HF.out.p k hlt))
      have FA := hide (FR.out.alloc (.cells (s.pl k).cs 26))
      have D0 : Hid (Kf w (wr.alloc (.cells (s.pl k).cs 26)).drew wr.heap.size (s.pl k)) := ⟨(FR.out.bel.alloc FR.out.bel.size _).drew, Pool.PBox.new wr _, by omega⟩
      generalize hp : s.pl k = p at hi RK SK FA D0
      obtain ⟨A0, A1, A2, A3, n0, n1, n2, n3, c0, c1, c2, c3⟩ := p
      have HCG : Hid (∀ u, Hid (Kf w u wr.heap.size ⟨A0, A1, A2, A3, n0, n1, n2, n3, c0, c1, c2, c3⟩) → Calls Try.prog 88 #[.slice A0 n0 c0] u (Pool.Tell u n0 (X.pl k).G)) := fun u hu => Pool.clone_any _ _ _ w.heap.size _ _ (RK.out.g.below hu.out.1 (Nat.le_refl _)) RK.out.zg hu.out.1.size SK.out.n0
      have HCS : Hid (∀ u, Hid (Kf w u wr.heap.size ⟨A0, A1, A2, A3, n0, n1, n2, n3, c0, c1, c2, c3⟩) → Calls Try.prog 88 #[.slice A1 n1 c1] u (Pool.Tell u n1 (X.pl k).S)) := fun u hu => Pool.clone_any _ _ _ w.heap.size _ _ (RK.out.s.below hu.out.1 (Nat.le_refl _)) RK.out.zs hu.out.1.size SK.out.n1
      have HCT : Hid (∀ u, Hid (Kf w u wr.heap.size ⟨A0, A1, A2, A3, n0, n1, n2, n3, c0, c1, c2, c3⟩) → Calls Try.prog 88 #[.slice A2 n2 c2] u (Pool.Tell u n2 (X.pl k).W)) := fun u hu => Pool.clone_any _ _ _ w.heap.size _ _ (RK.out.t.below hu.out.1 (Nat.le_refl _)) RK.out.zw hu.out.1.size SK.out.n2
      have HCF : Hid (∀ u, Hid (Kf w u wr.heap.size ⟨A0, A1, A2, A3, n0, n1, n2, n3, c0, c1, c2, c3⟩) → Calls Try.prog 88 #[.slice A3 n3 c3] u (Pool.Tell u n3 (X.pl k).F)) := fun u hu => Pool.clone_any _ _ _ w.heap.size _ _ (RK.out.f.below hu.out.1 (Nat.le_refl _)) RK.out.zf hu.out.1.size SK.out.n3
      have hN : Hid (∀ u, Hid (Kf w u wr.heap.size ⟨A0, A1, A2, A3, n0, n1, n2, n3, c0, c1, c2, c3⟩) → (u.cell? ⟨wr.heap.size, 0, none⟩ = some (.slice A0 n0 c0) ∧ u.cell? ⟨wr.heap.size, 1, none⟩ = some (.slice A1 n1 c1) ∧ u.cell? ⟨wr.heap.size, 2, none⟩ = some (.slice A2 n2 c2) ∧ u.cell? ⟨wr.heap.size, 3, none⟩ = some (.slice A3 n3 c3) ∧ Hid (Kf w u wr.heap.size ⟨A0, A1, A2, A3, n0, n1, n2, n3, c0, c1, c2, c3⟩))) :=
        fun u hu => ⟨hu.out.2.1.cells 0, hu.out.2.1.cells 1, hu.out.2.1.cells 2, hu.out.2.1.cells 3, hu⟩
      clear hp RK SK
      go_wp2_with fail
      go_region_held3 (fun u => u.cell? ⟨wr.heap.size, 0, none⟩ = some (.slice A0 n0 c0) ∧ u.cell? ⟨wr.heap.size, 1, none⟩ = some (.slice A1 n1 c1) ∧ u.cell? ⟨wr.heap.size, 2, none⟩ = some (.slice A2 n2 c2) ∧ u.cell? ⟨wr.heap.size, 3, none⟩ = some (.slice A3 n3 c3) ∧ Hid (Kf w u wr.heap.size ⟨A0, A1, A2, A3, n0, n1, n2, n3, c0, c1, c2, c3⟩))
        (first | exact hN.out _ D0 | exact hN.out _ (by assumption) | exact hN.out _ (hide (Kf.put (Hid.out (by assumption)) _ _ _ _)))
        (first | (go_at_call 88; refine (HCG.out _ ?_).mono ?_; (exact (by assumption)); rintro e uG ⟨AG, cG, rfl, zG, oG, bG⟩; have KG := hide (Kf.step (Hid.out (by assumption)) bG)) | (go_at_call 88; refine (HCS.out _ ?_).mono ?_; (exact (by assumption)); rintro e uS ⟨AS, cS, rfl, zS, oS, bS⟩; have KS := hide (Kf.step (Hid.out (by assumption)) bS)) | (go_at_call 88; refine (HCT.out _ ?_).mono ?_; (exact (by assumption)); rintro e uT ⟨AT, cT, rfl, zT, oT, bT⟩; have KT := hide (Kf.step (Hid.out (by assumption)) bT)) | (go_at_call 88; refine (HCF.out _ ?_).mono ?_; (exact (by assumption)); rintro e uF ⟨AF, cF, rfl, zF, oF, bF⟩; have KF := hide (Kf.step (Hid.out (by assumption)) bF); have FF := hide (((((Fr.step FA.out (Below.refl _ _).drew).step bG).step bS).step bT).step bF); obtain ⟨v0, v1, v2, v3, y0, f0, y1, f1, y2, f2, y3, f3⟩ := pool_room FF.out.own hlt))
      clear y0 f0 y1 f1 y2 f2 y3 f3
      have FN := hide (FF.out.put (p := ⟨AG, AS, AT, AF, n0, n1, n2, n3, cG, cS, cT, cF⟩) hlt (told_clones (P := X.pl k) oG bG zG oS bS zS oT bT zT oF bF zF) (by show _ ≤ (wr.alloc _).heap.size; simp; omega))
      clear FF KF KG KS KT oG oS oT oF bG bS bT bF zG zS zT zF HCG HCS HCT HCF hN D0 FA hi
      go_wp2
      go_roundw
      case rel => exact ⟨k + 1, _, by omega, by go_num, FN⟩
      case measure => simp [intOf]; omega
    · obtain rfl : k = 3 := by omega
      obtain ⟨e0, e1⟩ := FR.out.box.era
      have hl := FR.out.box.lt
      have CZ := hide (Era.clone_any s.z.A s.z.n s.z.c w.heap.size X.Z wr (HS.out.z.below FR.out.bel (Nat.le_refl _)) FR.out.bel.size (by rw [← HS.out.z.len]; exact HF.out.z))
      go_wp2_with fail
      refine CZ.out.mono ?_
      rintro e u1 ⟨A, n, c, rfl, rz, b1⟩
      have F1 := hide (FR.out.step b1)
      have y5 := F1.out.own.cells 15
      have f5 := F1.out.own.frozen 15
      have HE := hide (fresh_told HS.out F1.out rz (by have := FR.out.own.lt; omega))
      have hl1 := F1.out.own.lt
      clear b1 e0 e1 hl CZ FR rz
      go_wp2_with (first | refine wpList_load_row rfl 31 (.tmp 3) rfl (w.heap.size + 1 + 1) rfl 31 _ (0, 0) _ HE.out.1 Try.underlying31 rfl (cs_info _) ?_ | refine wpList_store_row rfl 31 (.tmp 2) (.tmp 36) rfl (w.heap.size + 1) _ rfl rfl 31 _ HE.out.2.1 (cs_info _) rfl (cs_one _) ?_)
      exact bodyPost_ret (results_cell_row rfl _ _ (w.heap.size + 1) 31 _ (0, 0) _ rfl HE.out.2.2.1 Try.underlying31 rfl (cs_info _)) rfl HE.out.2.2.2

end Go.Proofs.Ythficfmakbblkaa

/- What is shared is loaded whole, stored whole; its pools are loaded. No conditions. -/
namespace Go.Proofs.Ythficfmakbblkaa
open Go.RowKit
set_option linter.unusedVariables false

section
variable {ops : Array Oper} {rest : List Oper} {a : Act} {w : World} {Q : Exit → Act → World → Prop} {dst : Option Tmp} {ty : TypeId} {pos : String} {af : Array Edge}
/-- What is shared is loaded whole, stored whole, its pools are loaded. -/
theorem ld31 (x : Operand) (g : Nat) (hx : a.eval x = .pointer (some ⟨g, 0, none⟩)) (s : Sh) (HG : SBox w g s) (h : wpList Try.prog ops Q rest (a.put dst (.agg s.cs)) w) :
    wpList Try.prog ops Q (⟨dst, .load 31 x, ty, pos, af, none⟩ :: rest) a w :=
  wpList_load_row rfl 31 x rfl g hx 31 s.cs (0, 0) _ HG Try.underlying31 rfl (cs_info s) h
theorem st31 (x y : Operand) (g : Nat) (hx : a.eval x = .pointer (some ⟨g, 0, none⟩)) (s : Sh) (hy : a.eval y = .agg s.cs) (q : Sh) (HG : SBox w g q) (h : wpList Try.prog ops Q rest (a.put dst undef) (w.setRow g s.cs)) :
    wpList Try.prog ops Q (⟨dst, .store 31 x y, ty, pos, af, none⟩ :: rest) a w :=
  wpList_store_row rfl 31 x y rfl g s.cs hx hy 31 q.cs HG (cs_info s) ((cs_size q).trans (cs_size s).symm) (cs_one s) h
theorem ld27 (x : Operand) (g : Nat) (hx : a.eval x = .pointer (some ⟨g, 2, none⟩)) (s : Sh) (HG : SBox w g s) (h : wpList Try.prog ops Q rest (a.put dst (.agg s.ps)) w) :
    wpList Try.prog ops Q (⟨dst, .load 27 x, ty, pos, af, none⟩ :: rest) a w :=
  wpList_load_part rfl 27 x rfl g 2 hx s.ps (fun j v hj => (HG.cells _).trans (ps_cells s j v hj)) _ Try.underlying27 rfl size27 h
end

end Go.Proofs.Ythficfmakbblkaa

/- What placeOf, checkKind, withPool and withEra tell. -/
namespace Go.Proofs.Ythficfmakbblkaa
open Go.RowKit
open Pool (Pl PL MayBe noP noPl Drew Told4 Row)
set_option linter.unusedVariables false
set_option maxRecDepth 100000

section
variable {w W u u' : World} {s s' q0 : Sh} {X X' : SL} {k r : Nat} {p : Pl} {P : PL}
theorem pl_lt (h : Pool.Reads u r p P) {b : Nat} (hb : HasP p b) : b < r := by
  rcases hb with hb | hb | hb | hb
  · exact nums_lt h.g hb
  · exact nums_lt h.s hb
  · exact nums_lt h.t hb
  · exact nums_lt h.f hb
theorem Sees.setPl (S : Sees u s X) (R : Pool.Reads u u.heap.size p P) (hk : k < 3) : Sees u (s.setPl k p) (X.setPl k P) := by
  obtain ⟨r1, r2, r3, r4⟩ := setPl_rest s k p
  obtain ⟨e1, e2, e3, e4⟩ := setPL_rest X k P
  refine ⟨by rw [r1, e1]; exact S.m, by rw [r2, e2]; exact S.l, fun j hj => ?_, by rw [r3, e3]; exact S.t, by rw [r4, e4]; exact S.z⟩
  rw [setPl_pl s hk hj, setPL_pl X hk hj]
  split
  · exact R
  · exact S.p j hj
theorem has_setPl (hk : k < 3) {b : Nat} (h : (s.setPl k p).Has b) : s.Has b ∨ HasP p b := by
  obtain ⟨r1, r2, r3, r4⟩ := setPl_rest s k p
  rcases h with h | h | h | ⟨j, hj, h⟩
  · rw [r1] at h; exact .inl (.inl h)
  · rw [r2] at h; exact .inl (.inr (.inl h))
  · rw [r4] at h; exact .inl (.inr (.inr (.inl h)))
  · rw [setPl_pl s hk hj] at h
    split at h
    · exact .inr h
    · exact .inl (.inr (.inr (.inr ⟨j, hj, h⟩)))
theorem setEra_pl (s : Sh) (t : Int) (z : Sl) (k : Nat) : (s.setEra t z).pl k = s.pl k := by unfold Sh.pl; split <;> rfl
theorem setERA_pl (X : SL) (t : Int) (z : List Int) (k : Nat) : (X.setEra t z).pl k = X.pl k := by unfold SL.pl; split <;> rfl
theorem Sees.setEra {t : Int} {z : Sl} {zs : List Int} (S : Sees u s X) (R : Era.Reads u u.heap.size z.A z.n z.c zs) : Sees u (s.setEra t z) (X.setEra t zs) :=
  ⟨S.m, S.l, fun j hj => by rw [setEra_pl, setERA_pl]; exact S.p j hj, rfl, R⟩
theorem has_setEra {t : Int} {z : Sl} {b : Nat} (h : (s.setEra t z).Has b) : s.Has b ∨ InA z.A z.n b := by
  rcases h with h | h | h | ⟨j, hj, h⟩
  · exact .inl (.inl h)
  · exact .inl (.inr (.inl h))
  · exact .inr h
  · rw [setEra_pl] at h
    exact .inl (.inr (.inr (.inr ⟨j, hj, h⟩)))
theorem not_has (K : Kin W s s') (S : Sees w s X) (h1 : w.heap.size ≤ r) (h2 : r < W.heap.size) : ¬ s'.Has r := fun h => by
  rcases K r h with h | h
  · omega
  · have := S.lt h; omega
/-- What is told is laid into the result's box. -/
theorem tell_row (b : Below w.heap.size w u) (R : SBox u r q0) (hr : w.heap.size ≤ r) (S : Sees u s' X') (hn : ¬ s'.Has r) :
    SBox (u.setRow r s'.cs) r s' ∧ Sees (u.setRow r s'.cs) s' X' ∧ Below w.heap.size w (u.setRow r s'.cs) :=
  ⟨R.put _, S.row hn _, below_setRow b hr _⟩
end

set_option maxHeartbeats 400000 in
theorem placeOf_any (k : Nat) (w : World) (hk : k < 3) : Calls Try.prog 49 #[.int .i64 ((k : Int) + 1)] w fun e w' => e = .returned (.int .i64 (k : Int)) ∧ w = w' := by
  have h1 : wrap64 ((k : Int) + 1 - 1) = (k : Int) := by rw [show (k : Int) + 1 - 1 = (k : Int) by omega]; unfold wrap64; omega
  go_enter Try.func49, Try.ntmps49
  go_wp2
  go_ret
  exact ⟨rfl, rfl⟩

/-- Whether which is a kind's number. -/
def KindOk (which : Int) : Prop := 1 ≤ which ∧ which ≤ 3
def kndE (b : Bool) (which : Int) : Int := if b = true ∧ 1 ≤ which ∧ which ≤ 3 then 0 else 1

set_option maxHeartbeats 1000000 in
theorem checkKind_any (s : Sh) (X : SL) (b : Bool) (which : Int) (w : World) (S : Sees w s X) (F : Few X) (hb : Hid (b = true ↔ OkS X)) :
    Calls Try.prog 47 #[s.val, .int .i64 which] w (Drew (.int .i64 (kndE b which)) w) := by
  have X0 := hide (SBox.new w s)
  have B0 := hide ((Below.refl w.heap.size w).alloc (Nat.le_refl _) (.cells s.cs 31))
  have C0 := hide (check_any s X b (w.alloc (.cells s.cs 31)) (S.alloc _) F hb)
  clear S F hb
  go_enter Try.func47, Try.ntmps47
  go_wp2_with (refine wpList_load_row rfl 31 (.tmp 2) rfl w.heap.size rfl 31 s.cs (0, 0) _ X0.out Try.underlying31 rfl (cs_info s) ?_)
  refine C0.out.mono ?_
  rintro e u1 ⟨rfl, b1⟩
  have B1 := hide (Pool.next_call B0.out (Nat.le_refl _) b1)
  clear b1 C0 B0 X0
  cases b with
  | false =>
    go_wp2
    go_ret
    exact ⟨rfl, B1.out⟩
  | true =>
    by_cases h1 : which < 1
    · have E : Hid (kndE true which = 1) := by show _ = _; unfold kndE; rw [if_neg]; omega
      have t1 : decide (which < 1) = true := by simpa using h1
      go_wp2
      go_ret
      exact ⟨by rw [E.out]; rfl, B1.out⟩
    · have t1 : decide (which < 1) = false := by simpa using h1
      by_cases h2 : 3 < which
      · have E : Hid (kndE true which = 1) := by show _ = _; unfold kndE; rw [if_neg]; omega
        have t2 : decide (3 < which) = true := by simpa using h2
        go_wp2
        go_ret
        exact ⟨by rw [E.out]; rfl, B1.out⟩
      · have E : Hid (kndE true which = 0) := by show _ = _; unfold kndE; rw [if_pos]; exact ⟨rfl, by omega, by omega⟩
        have t2 : decide (3 < which) = false := by simpa using h2
        go_wp2
        go_ret
        exact ⟨by rw [E.out]; rfl, B1.out⟩

/-- Behind fresh: what was copied stands in a box of its own, at h. -/
structure Wt (w u : World) (s : Sh) (X : SL) (s1 : Sh) (h r : Nat) : Prop where
  bel : Below w.heap.size w u
  res : SBox u r noSh
  ge : w.heap.size ≤ r
  lt : r < h
  own : SBox u h s1
  sees : Sees u s1 X
  kin : ∀ b, s1.Has b → r < b ∧ b ≠ h ∨ s.Has b
theorem Wt.first {w W u : World} {s s1 : Sh} {X : SL} {r : Nat} (bW : Below w.heap.size w W) (R : SBox W r noSh) (hr : w.heap.size ≤ r) (S : Sees u s1 X) (K : Kin W s s1) (b : Below W.heap.size W u) :
    Wt w ((u.alloc (.cells zeros16 31)).setRow u.heap.size s1.cs) s X s1 u.heap.size r := by
  have h0 := R.lt
  have h1 := b.size
  have hn : ¬ s1.Has u.heap.size := fun h => by have := S.lt h; omega
  refine ⟨below_setRow ((Pool.next_call bW (Nat.le_refl _) b).alloc (Nat.le_trans bW.size b.size) _) (Nat.le_trans bW.size b.size) _, ((R.step b).alloc _).far (by omega) _, hr, by omega, setRow_heap _ _ _ _ 31 (0, 0) (heap_alloc_new _ _), (S.alloc _).row hn _, fun c hc => ?_⟩
  rcases K c hc with h | h
  · exact .inl ⟨by omega, fun e => hn (e ▸ hc)⟩
  · exact .inr h

/-- What withPool, withEra tell. -/
def TellW (w : World) (s : Sh) (X' : SL) (H : Nat → Prop) (e : Ending) (w' : World) : Prop := ∃ s' : Sh, e = .returned s'.val ∧ Sees w' s' X' ∧ (∀ b, s'.Has b → w.heap.size ≤ b ∨ s.Has b ∨ H b) ∧ Below w.heap.size w w'

theorem cells4 {u : World} {h : Nat} {p : Pl} (B : Pool.PBox u h p.cs) : u.cell? ⟨h, 0, none⟩ = some (.slice p.A0 p.n0 p.c0) ∧ u.cell? ⟨h, 1, none⟩ = some (.slice p.A1 p.n1 p.c1) ∧ u.cell? ⟨h, 2, none⟩ = some (.slice p.A2 p.n2 p.c2) ∧ u.cell? ⟨h, 3, none⟩ = some (.slice p.A3 p.n3 p.c3) :=
  ⟨B.cells 0, B.cells 1, B.cells 2, B.cells 3⟩

/-- The end of withPool. -/
theorem Wt.pool {w u : World} {s s1 : Sh} {X : SL} {h r k : Nat} {p : Pl} {P : PL} (T : Wt w u s X s1 h r) (S : Sees w s X) (R : Pool.Reads w w.heap.size p P) (hk : k < 3) :
    SBox ((((u.setCell ⟨h, 2 + k * 4, none⟩ (.slice p.A0 p.n0 p.c0)).setCell ⟨h, 2 + k * 4 + 1, none⟩ (.slice p.A1 p.n1 p.c1)).setCell ⟨h, 2 + k * 4 + 2, none⟩ (.slice p.A2 p.n2 p.c2)).setCell ⟨h, 2 + k * 4 + 3, none⟩ (.slice p.A3 p.n3 p.c3)) h (s1.setPl k p) ∧
    SBox ((((u.setCell ⟨h, 2 + k * 4, none⟩ (.slice p.A0 p.n0 p.c0)).setCell ⟨h, 2 + k * 4 + 1, none⟩ (.slice p.A1 p.n1 p.c1)).setCell ⟨h, 2 + k * 4 + 2, none⟩ (.slice p.A2 p.n2 p.c2)).setCell ⟨h, 2 + k * 4 + 3, none⟩ (.slice p.A3 p.n3 p.c3)) r noSh ∧
    SBox (((((u.setCell ⟨h, 2 + k * 4, none⟩ (.slice p.A0 p.n0 p.c0)).setCell ⟨h, 2 + k * 4 + 1, none⟩ (.slice p.A1 p.n1 p.c1)).setCell ⟨h, 2 + k * 4 + 2, none⟩ (.slice p.A2 p.n2 p.c2)).setCell ⟨h, 2 + k * 4 + 3, none⟩ (.slice p.A3 p.n3 p.c3)).setRow r (s1.setPl k p).cs) r (s1.setPl k p) ∧
    TellW w s (X.setPl k P) (HasP p) (.returned (s1.setPl k p).val) (((((u.setCell ⟨h, 2 + k * 4, none⟩ (.slice p.A0 p.n0 p.c0)).setCell ⟨h, 2 + k * 4 + 1, none⟩ (.slice p.A1 p.n1 p.c1)).setCell ⟨h, 2 + k * 4 + 2, none⟩ (.slice p.A2 p.n2 p.c2)).setCell ⟨h, 2 + k * 4 + 3, none⟩ (.slice p.A3 p.n3 p.c3)).setRow r (s1.setPl k p).cs) := by
  have e1 := T.ge
  have e2 := T.lt
  have hc : ∀ b, (s1.setPl k p).Has b → r < b ∧ b ≠ h ∨ s.Has b ∨ HasP p b := fun b hb => by
    rcases has_setPl hk hb with x | x
    · rcases T.kin b x with y | y
      · exact .inl y
      · exact .inr (.inl y)
    · exact .inr (.inr x)
  have hn : ∀ b, w.heap.size ≤ b → b ≤ r ∨ b = h → ¬ (s1.setPl k p).Has b := fun b h1 h2 hb => by
    rcases hc b hb with x | x | x
    · omega
    · have := S.lt x; omega
    · have := pl_lt R x; omega
  have r0 : SBox ((((u.setCell ⟨h, 2 + k * 4, none⟩ (.slice p.A0 p.n0 p.c0)).setCell ⟨h, 2 + k * 4 + 1, none⟩ (.slice p.A1 p.n1 p.c1)).setCell ⟨h, 2 + k * 4 + 2, none⟩ (.slice p.A2 p.n2 p.c2)).setCell ⟨h, 2 + k * 4 + 3, none⟩ (.slice p.A3 p.n3 p.c3)) r noSh := (((T.res.other (by omega) _ _).other (by omega) _ _).other (by omega) _ _).other (by omega) _ _
  have S1 : Sees u (s1.setPl k p) (X.setPl k P) := T.sees.setPl ((R.below T.bel (Nat.le_refl _)).more T.bel.size) hk
  have S2 := (((S1.cell (hn h (by omega) (.inr rfl)) (2 + k * 4) (.slice p.A0 p.n0 p.c0)).cell (hn h (by omega) (.inr rfl)) (2 + k * 4 + 1) (.slice p.A1 p.n1 p.c1)).cell (hn h (by omega) (.inr rfl)) (2 + k * 4 + 2) (.slice p.A2 p.n2 p.c2)).cell (hn h (by omega) (.inr rfl)) (2 + k * 4 + 3) (.slice p.A3 p.n3 p.c3)
  have hb := (((T.bel.setCell (p := ⟨h, 2 + k * 4, none⟩) (by show _ ≤ h; omega) (.slice p.A0 p.n0 p.c0)).setCell (p := ⟨h, 2 + k * 4 + 1, none⟩) (by show _ ≤ h; omega) (.slice p.A1 p.n1 p.c1)).setCell (p := ⟨h, 2 + k * 4 + 2, none⟩) (by show _ ≤ h; omega) (.slice p.A2 p.n2 p.c2)).setCell (p := ⟨h, 2 + k * 4 + 3, none⟩) (by show _ ≤ h; omega) (.slice p.A3 p.n3 p.c3)
  obtain ⟨x1, x2, x3⟩ := tell_row hb r0 e1 S2 (hn r e1 (.inl (Nat.le_refl _)))
  refine ⟨T.own.setPl hk p, r0, x1, _, rfl, x2, fun b hb => ?_, x3⟩
  rcases hc b hb with x | x | x
  · exact .inl (by omega)
  · exact .inr (.inl x)
  · exact .inr (.inr x)
/-- .. and of withEra. -/
theorem Wt.era {w u : World} {s s1 : Sh} {X : SL} {h r n c : Nat} {t : Int} {A : Option Addr} {zs : List Int} (T : Wt w u s X s1 h r) (S : Sees w s X) (R : Era.Reads w w.heap.size A n c zs) :
    SBox ((u.setCell ⟨h, 14, none⟩ (.int .i64 t)).setCell ⟨h, 15, none⟩ (.slice A n c)) h (s1.setEra t ⟨A, n, c⟩) ∧
    SBox ((u.setCell ⟨h, 14, none⟩ (.int .i64 t)).setCell ⟨h, 15, none⟩ (.slice A n c)) r noSh ∧
    SBox (((u.setCell ⟨h, 14, none⟩ (.int .i64 t)).setCell ⟨h, 15, none⟩ (.slice A n c)).setRow r (s1.setEra t ⟨A, n, c⟩).cs) r (s1.setEra t ⟨A, n, c⟩) ∧
    TellW w s (X.setEra t zs) (InA A n) (.returned (s1.setEra t ⟨A, n, c⟩).val) (((u.setCell ⟨h, 14, none⟩ (.int .i64 t)).setCell ⟨h, 15, none⟩ (.slice A n c)).setRow r (s1.setEra t ⟨A, n, c⟩).cs) := by
  have e1 := T.ge
  have e2 := T.lt
  have hc : ∀ b, (s1.setEra t ⟨A, n, c⟩).Has b → r < b ∧ b ≠ h ∨ s.Has b ∨ InA A n b := fun b hb => by
    rcases has_setEra hb with x | x
    · rcases T.kin b x with y | y
      · exact .inl y
      · exact .inr (.inl y)
    · exact .inr (.inr x)
  have hn : ∀ b, w.heap.size ≤ b → b ≤ r ∨ b = h → ¬ (s1.setEra t ⟨A, n, c⟩).Has b := fun b h1 h2 hb => by
    rcases hc b hb with x | x | x
    · omega
    · have := S.lt x; omega
    · have : b < w.heap.size := nums_lt (zs := zs) R.1 x; omega
  have r0 : SBox ((u.setCell ⟨h, 14, none⟩ (.int .i64 t)).setCell ⟨h, 15, none⟩ (.slice A n c)) r noSh := (T.res.other (by omega) _ _).other (by omega) _ _
  have S1 : Sees u (s1.setEra t ⟨A, n, c⟩) (X.setEra t zs) := T.sees.setEra ((R.below T.bel (Nat.le_refl _)).more T.bel.size)
  have S2 := (S1.cell (hn h (by omega) (.inr rfl)) 14 (.int .i64 t)).cell (hn h (by omega) (.inr rfl)) 15 (.slice A n c)
  have hb := (T.bel.setCell (p := ⟨h, 14, none⟩) (by show _ ≤ h; omega) (.int .i64 t)).setCell (p := ⟨h, 15, none⟩) (by show _ ≤ h; omega) (.slice A n c)
  obtain ⟨x1, x2, x3⟩ := tell_row hb r0 e1 S2 (hn r e1 (.inl (Nat.le_refl _)))
  refine ⟨heap_setCell_same _ h 15 _ 31 _ (heap_setCell_same u h 14 _ 31 _ T.own), r0, x1, _, rfl, x2, fun b hb => ?_, x3⟩
  rcases hc b hb with x | x | x
  · exact .inl (by omega)
  · exact .inr (.inl x)
  · exact .inr (.inr x)

set_option maxHeartbeats 4000000 in
theorem withEra_any (s : Sh) (X : SL) (t : Int) (A : Option Addr) (n c : Nat) (zs : List Int) (w : World) (S : Sees w s X) (F : Few X) (R : Era.Reads w w.heap.size A n c zs) :
    Calls Try.prog 57 #[s.val, Era.V2 t A n c] w (TellW w s (X.setEra t zs) (InA A n)) := by
  have HB := hide ((((Below.refl w.heap.size w).alloc (Nat.le_refl _) (.cells s.cs 31)).alloc (by simp) (.cells (Era.C2 t A n c) 29)).alloc (by simp; omega) (.cells zeros16 31))
  have X0 := hide (((SBox.new w s).alloc (.cells (Era.C2 t A n c) 29)).alloc (.cells zeros16 31))
  have E0 : Hid (Era.EBox (((w.alloc (.cells s.cs 31)).alloc (.cells (Era.C2 t A n c) 29)).alloc (.cells zeros16 31)) (w.heap.size + 1) (Era.C2 t A n c)) := Era.EBox.alloc (heap_alloc2_new w _ _) _
  have R0 : Hid (SBox (((w.alloc (.cells s.cs 31)).alloc (.cells (Era.C2 t A n c) 29)).alloc (.cells zeros16 31)) (w.heap.size + 1 + 1) noSh) := heap3 w _ _ _
  have C0 := hide (fresh_any s X _ (((S.alloc (.cells s.cs 31)).alloc (.cells (Era.C2 t A n c) 29)).alloc (.cells zeros16 31)) F)
  have HS := hide S
  have HR := hide R
  clear S F R
  go_enter Try.func57, Try.ntmps57
  go_wp2_with ((with_reducible refine ld31 (.tmp 2) w.heap.size ?_ s ?_ ?_); (exact rfl); (exact X0.out))
  refine C0.out.mono ?_
  rintro e u1 ⟨s1, rfl, S1, K1, b1⟩
  have T1 := hide (Wt.first HB.out R0.out (by omega) S1 K1 b1)
  have E1 : Hid (Era.EBox ((u1.alloc (.cells zeros16 31)).setRow u1.heap.size s1.cs) (w.heap.size + 1) (Era.C2 t A n c)) := (setRow_other _ _ _ _ (by have := (E0.out.step b1).lt; omega)).trans ((E0.out.step b1).alloc _)
  have HE := hide (T1.out.era (t := t) HS.out HR.out)
  have hl := E1.out.lt
  have hc := E1.out.cells
  have ho := T1.out.own.lt
  obtain ⟨y4, y5⟩ := T1.out.own.era
  have f4 := T1.out.own.frozen 14
  have f5 := T1.out.own.frozen 15
  clear S1 K1 b1 C0 X0 E0 R0 HB HS HR
  go_wp2_with (first | ((with_reducible refine st31 (.tmp 5) (.tmp 7) u1.heap.size ?_ s1 ?_ noSh ?_ ?_); (exact rfl); (exact rfl); (exact heap_alloc_new _ _)) | ((with_reducible refine ld31 (.tmp 5) u1.heap.size ?_ (s1.setEra t ⟨A, n, c⟩) ?_ ?_); (exact rfl); (exact HE.out.1)) | ((with_reducible refine st31 (.tmp 4) (.tmp 10) (w.heap.size + 1 + 1) ?_ (s1.setEra t ⟨A, n, c⟩) ?_ noSh ?_ ?_); (exact rfl); (exact rfl); (exact HE.out.2.1)))
  exact bodyPost_ret (results_cell_row rfl _ _ (w.heap.size + 1 + 1) 31 _ (0, 0) _ rfl HE.out.2.2.1 Try.underlying31 rfl (cs_info _)) rfl HE.out.2.2.2

end Go.Proofs.Ythficfmakbblkaa

/- What withPool tells. -/
namespace Go.Proofs.Ythficfmakbblkaa
open Go.RowKit
open Pool (Pl PL MayBe noP noPl Drew Told4 Row)
set_option linter.unusedVariables false
set_option maxRecDepth 100000

theorem pbox_put {u : World} {g h i0 i1 i2 i3 : Nat} {cs : Array Value} (B : Pool.PBox u g cs) (hh : h ≠ g) (a b c d : Value) : Pool.PBox ((((u.setCell ⟨h, i0, none⟩ a).setCell ⟨h, i1, none⟩ b).setCell ⟨h, i2, none⟩ c).setCell ⟨h, i3, none⟩ d) g cs :=
  (((B.other hh a).other hh b).other hh c).other hh d

theorem Sees.drew {u : World} {s : Sh} {X : SL} (h : Sees u s X) : Sees u.drew s X := h.same (Nat.le_refl _) fun _ _ _ => rfl
theorem tellW_drew {w u : World} {s : Sh} {X : SL} {H : Nat → Prop} {e : Ending} {r : Nat} {cs : Array Value} (h : TellW w s X H e (u.setRow r cs)) : TellW w s X H e (u.drew.setRow r cs) := by
  obtain ⟨s', e1, S, K, b⟩ := h
  exact ⟨s', e1, S.drew, K, b.drew⟩

set_option maxHeartbeats 4000000 in
theorem withPool_any (s : Sh) (X : SL) (k : Nat) (p : Pl) (P : PL) (w : World) (S : Sees w s X) (F : Few X) (hk : k < 3) (R : Pool.Reads w w.heap.size p P) :
    Calls Try.prog 50 #[s.val, .int .i64 ((k : Int) + 1), p.val] w (TellW w s (X.setPl k P) (HasP p)) := by
  have HB := hide ((((Below.refl w.heap.size w).alloc (Nat.le_refl _) (.cells s.cs 31)).alloc (by simp) (.cells p.cs 26)).alloc (by simp; omega) (.cells zeros16 31))
  have X0 := hide (((SBox.new w s).alloc (.cells p.cs 26)).alloc (.cells zeros16 31))
  have E0 : Hid (Pool.PBox (((w.alloc (.cells s.cs 31)).alloc (.cells p.cs 26)).alloc (.cells zeros16 31)) (w.heap.size + 1) p.cs) := Pool.PBox.alloc (heap_alloc2_new w _ _) _
  have R0 : Hid (SBox (((w.alloc (.cells s.cs 31)).alloc (.cells p.cs 26)).alloc (.cells zeros16 31)) (w.heap.size + 1 + 1) noSh) := heap3 w _ _ _
  have C0 := hide (fresh_any s X _ (((S.alloc (.cells s.cs 31)).alloc (.cells p.cs 26)).alloc (.cells zeros16 31)) F)
  have HS := hide S
  have HR := hide R
  clear S F R
  go_enter Try.func50, Try.ntmps50
  go_wp2_with ((with_reducible refine ld31 (.tmp 3) w.heap.size ?_ s ?_ ?_); (exact rfl); (exact X0.out))
  refine C0.out.mono ?_
  rintro e u1 ⟨s1, rfl, S1, K1, b1⟩
  have T1 := hide (Wt.first HB.out R0.out (by omega) S1 K1 b1)
  have E1 : Hid (Pool.PBox ((u1.alloc (.cells zeros16 31)).setRow u1.heap.size s1.cs) (w.heap.size + 1) p.cs) := (setRow_other _ _ _ _ (by have := (E0.out.step b1).lt; omega)).trans ((E0.out.step b1).alloc _)
  have ne1 : u1.heap.size ≠ w.heap.size + 1 := by have := (E0.out.step b1).lt; omega
  clear S1 K1 b1 C0 X0 E0 R0 HB
  go_wp2_with ((with_reducible refine st31 (.tmp 7) (.tmp 9) u1.heap.size ?_ s1 ?_ noSh ?_ ?_); (exact rfl); (exact rfl); (exact heap_alloc_new _ _))
  obtain ⟨V, hV⟩ : ∃ V, Hid ((u1.alloc (.cells zeros16 31)).setRow u1.heap.size s1.cs = V) := ⟨_, rfl⟩
  obtain ⟨h, hh⟩ : ∃ h, Hid (u1.heap.size = h) := ⟨_, rfl⟩
  have hV' : (u1.alloc (.cells zeros16 31)).setRow u1.heap.size s1.cs = V := hV.out
  rw [hV', hh.out]
  have T2 : Hid (Wt w V s X s1 h (w.heap.size + 1 + 1)) := by show Wt _ _ _ _ _ _ _; rw [← hh.out, ← hV']; exact T1.out
  have E2 : Hid (Pool.PBox V (w.heap.size + 1) p.cs) := by show Pool.PBox _ _ _; rw [← hV']; exact E1.out
  have ne2 : h ≠ w.heap.size + 1 := by rw [← hh.out]; exact ne1
  clear hV' T1 E1 ne1 hV hh
  have HE := hide (T2.out.pool HS.out HR.out hk)
  have HPL : Hid (∀ u, Calls Try.prog 49 #[.int .i64 ((k : Int) + 1)] u fun e w' => e = .returned (.int .i64 (k : Int)) ∧ u = w') := fun u => placeOf_any k u hk
  obtain ⟨v0, v1, v2, v3, y0, f0, y1, f1, y2, f2, y3, f3⟩ := pool_room T2.out.own hk
  obtain ⟨q0, q1, q2, q3⟩ := cells4 E2.out
  clear T2 HS HR
  have hi0 : (0 : Int) ≤ (k : Int) := by omega
  have hi1 : (k : Int) < 3 := by omega
  have hi2 : decide ((k : Int) < 3) = true := by simpa using hi1
  go_region_with (first | (go_at_call 49; refine (HPL.out _).mono ?_; rintro e w' ⟨rfl, rfl⟩))
  all_goals clear y0 f0 y1 f1 y2 f2 y3 f3 q0 q1 q2 q3 HPL E2
  all_goals go_wp2_with (first | ((with_reducible refine ld31 (.tmp 7) h ?_ (s1.setPl k p) ?_ ?_); (exact rfl); (exact HE.out.1)) | ((with_reducible refine st31 (.tmp 6) (.tmp 15) (w.heap.size + 1 + 1) ?_ (s1.setPl k p) ?_ noSh ?_ ?_); (exact rfl); (exact rfl); (exact HE.out.2.1)))
  all_goals exact bodyPost_ret (results_cell_row rfl _ _ (w.heap.size + 1 + 1) 31 _ (0, 0) _ rfl HE.out.2.2.1 Try.underlying31 rfl (cs_info _)) rfl (tellW_drew HE.out.2.2.2)

end Go.Proofs.Ythficfmakbblkaa

/- Words: what stands at the start of a call over what is shared; how it is told; what Take, Retire, Gen, Pin, Turn and End come to, as functions. -/
namespace Go.Proofs.Ythficfmakbblkaa
open Go.RowKit
open Pool (Pl PL MayBe noP noPl Drew Told4 Row)
set_option linter.unusedVariables false

/-- The argument's box, the result's, still empty, and what the argument reads as. -/
structure Tw (w u : World) (s : Sh) (X : SL) : Prop where
  bel : Below w.heap.size w u
  box : SBox u w.heap.size s
  res : SBox u (w.heap.size + 1) noSh
  sees : Sees u s X
  was : Sees w s X

/-- What a call tells. -/
def TellS (w : World) (s : Sh) (X' : SL) (mk : Value → Value) (e : Ending) (w' : World) : Prop := ∃ s' : Sh, e = .returned (mk s'.val) ∧ Sees w' s' X' ∧ Kin w s s' ∧ Below w.heap.size w w'

section
variable {w u u' : World} {s s' : Sh} {X X' : SL}
theorem Tw.first (S : Sees w s X) : Tw w ((w.alloc (.cells s.cs 31)).alloc (.cells zeros16 31)) s X :=
  ⟨((Below.refl _ _).alloc (Nat.le_refl _) _).alloc (by simp) _, (SBox.new w s).alloc _, heap_alloc2_new w _ _, (S.alloc _).alloc _, S⟩
theorem Tw.step (h : Tw w u s X) (b : Below u.heap.size u u') : Tw w u' s X := ⟨Pool.next_call h.bel (Nat.le_refl _) b, h.box.step b, h.res.step b, h.sees.step b, h.was⟩
theorem Tw.alloc (h : Tw w u s X) (o : Obj) : Tw w (u.alloc o) s X := h.step ((Below.refl _ _).alloc (Nat.le_refl _) _)
theorem Tw.size (h : Tw w u s X) : w.heap.size + 2 ≤ u.heap.size := by have := h.res.lt; omega
theorem Tw.drew (h : Tw w u s X) : Tw w u.drew s X := ⟨h.bel.drew, h.box, h.res, h.sees.drew, h.was⟩
theorem Tw.tell (h : Tw w u s X) (S' : Sees u s' X') (K : ∀ b, s'.Has b → w.heap.size + 2 ≤ b ∨ s.Has b) :
    SBox (u.setRow (w.heap.size + 1) s'.cs) (w.heap.size + 1) s' ∧ Sees (u.setRow (w.heap.size + 1) s'.cs) s' X' ∧ Kin w s s' ∧ Below w.heap.size w (u.setRow (w.heap.size + 1) s'.cs) := by
  have hn : ¬ s'.Has (w.heap.size + 1) := fun hb => by
    rcases K _ hb with x | x
    · omega
    · have := h.was.lt x; omega
  obtain ⟨x1, x2, x3⟩ := tell_row h.bel h.res (by omega) S' hn
  exact ⟨x1, x2, fun b hb => by rcases K b hb with x | x; (exact .inl (by omega)); exact .inr x, x3⟩
theorem Tw.zero (h : Tw w u s X) :
    SBox (u.setRow (w.heap.size + 1) noSh.cs) (w.heap.size + 1) noSh ∧ Sees (u.setRow (w.heap.size + 1) noSh.cs) noSh noS ∧ Kin w s noSh ∧ Below w.heap.size w (u.setRow (w.heap.size + 1) noSh.cs) :=
  h.tell (noSh_sees u) fun b hb => (noSh_has hb).elim
/-- The argument's own box is written: a pool, the era. -/
theorem Tw.setPl {k : Nat} {p : Pl} {P : PL} (h : Tw w u s X) (hk : k < 3) (R : Pool.Reads u u.heap.size p P) (hp : ∀ b, HasP p b → w.heap.size + 2 ≤ b) :
    SBox ((((u.setCell ⟨w.heap.size, 2 + k * 4, none⟩ (.slice p.A0 p.n0 p.c0)).setCell ⟨w.heap.size, 2 + k * 4 + 1, none⟩ (.slice p.A1 p.n1 p.c1)).setCell ⟨w.heap.size, 2 + k * 4 + 2, none⟩ (.slice p.A2 p.n2 p.c2)).setCell ⟨w.heap.size, 2 + k * 4 + 3, none⟩ (.slice p.A3 p.n3 p.c3)) w.heap.size (s.setPl k p) ∧
    SBox ((((u.setCell ⟨w.heap.size, 2 + k * 4, none⟩ (.slice p.A0 p.n0 p.c0)).setCell ⟨w.heap.size, 2 + k * 4 + 1, none⟩ (.slice p.A1 p.n1 p.c1)).setCell ⟨w.heap.size, 2 + k * 4 + 2, none⟩ (.slice p.A2 p.n2 p.c2)).setCell ⟨w.heap.size, 2 + k * 4 + 3, none⟩ (.slice p.A3 p.n3 p.c3)) (w.heap.size + 1) noSh ∧
    Sees ((((u.setCell ⟨w.heap.size, 2 + k * 4, none⟩ (.slice p.A0 p.n0 p.c0)).setCell ⟨w.heap.size, 2 + k * 4 + 1, none⟩ (.slice p.A1 p.n1 p.c1)).setCell ⟨w.heap.size, 2 + k * 4 + 2, none⟩ (.slice p.A2 p.n2 p.c2)).setCell ⟨w.heap.size, 2 + k * 4 + 3, none⟩ (.slice p.A3 p.n3 p.c3)) (s.setPl k p) (X.setPl k P) ∧
    (∀ b, (s.setPl k p).Has b → w.heap.size + 2 ≤ b ∨ s.Has b) ∧
    Below w.heap.size w ((((u.setCell ⟨w.heap.size, 2 + k * 4, none⟩ (.slice p.A0 p.n0 p.c0)).setCell ⟨w.heap.size, 2 + k * 4 + 1, none⟩ (.slice p.A1 p.n1 p.c1)).setCell ⟨w.heap.size, 2 + k * 4 + 2, none⟩ (.slice p.A2 p.n2 p.c2)).setCell ⟨w.heap.size, 2 + k * 4 + 3, none⟩ (.slice p.A3 p.n3 p.c3)) := by
  have K : ∀ b, (s.setPl k p).Has b → w.heap.size + 2 ≤ b ∨ s.Has b := fun b hb => by
    rcases has_setPl hk hb with x | x
    · exact .inr x
    · exact .inl (hp b x)
  have hn : ¬ (s.setPl k p).Has w.heap.size := fun hb => by
    rcases K _ hb with x | x
    · omega
    · have := h.was.lt x; omega
  exact ⟨h.box.setPl hk p, (((h.res.other (by omega) _ _).other (by omega) _ _).other (by omega) _ _).other (by omega) _ _,
    ((((h.sees.setPl R hk).cell hn _ _).cell hn _ _).cell hn _ _).cell hn _ _, K,
    (((h.bel.setCell (p := ⟨w.heap.size, 2 + k * 4, none⟩) (Nat.le_refl _) _).setCell (p := ⟨w.heap.size, 2 + k * 4 + 1, none⟩) (Nat.le_refl _) _).setCell (p := ⟨w.heap.size, 2 + k * 4 + 2, none⟩) (Nat.le_refl _) _).setCell (p := ⟨w.heap.size, 2 + k * 4 + 3, none⟩) (Nat.le_refl _) _⟩
theorem Tw.setEra {t : Int} {A : Option Addr} {n c : Nat} {zs : List Int} (h : Tw w u s X) (R : Era.Reads u u.heap.size A n c zs) (hp : ∀ b, InA A n b → w.heap.size + 2 ≤ b) :
    SBox ((u.setCell ⟨w.heap.size, 14, none⟩ (.int .i64 t)).setCell ⟨w.heap.size, 15, none⟩ (.slice A n c)) w.heap.size (s.setEra t ⟨A, n, c⟩) ∧
    SBox ((u.setCell ⟨w.heap.size, 14, none⟩ (.int .i64 t)).setCell ⟨w.heap.size, 15, none⟩ (.slice A n c)) (w.heap.size + 1) noSh ∧
    Sees ((u.setCell ⟨w.heap.size, 14, none⟩ (.int .i64 t)).setCell ⟨w.heap.size, 15, none⟩ (.slice A n c)) (s.setEra t ⟨A, n, c⟩) (X.setEra t zs) ∧
    (∀ b, (s.setEra t ⟨A, n, c⟩).Has b → w.heap.size + 2 ≤ b ∨ s.Has b) ∧
    Below w.heap.size w ((u.setCell ⟨w.heap.size, 14, none⟩ (.int .i64 t)).setCell ⟨w.heap.size, 15, none⟩ (.slice A n c)) := by
  have K : ∀ b, (s.setEra t ⟨A, n, c⟩).Has b → w.heap.size + 2 ≤ b ∨ s.Has b := fun b hb => by
    rcases has_setEra hb with x | x
    · exact .inr x
    · exact .inl (hp b x)
  have hn : ¬ (s.setEra t ⟨A, n, c⟩).Has w.heap.size := fun hb => by
    rcases K _ hb with x | x
    · omega
    · have := h.was.lt x; omega
  exact ⟨heap_setCell_same _ _ 15 _ 31 _ (heap_setCell_same u _ 14 _ 31 _ h.box), (h.res.other (by omega) _ _).other (by omega) _ _,
    ((h.sees.setEra R).cell hn _ _).cell hn _ _, K,
    (h.bel.setCell (p := ⟨w.heap.size, 14, none⟩) (Nat.le_refl _) _).setCell (p := ⟨w.heap.size, 15, none⟩) (Nat.le_refl _) _⟩
/-- .. and then told. -/
theorem tell_own {q : Sh} (b : Below w.heap.size w u) (r : SBox u (w.heap.size + 1) q) (S : Sees w s X) (S' : Sees u s' X') (K : ∀ b, s'.Has b → w.heap.size + 2 ≤ b ∨ s.Has b) :
    SBox (u.setRow (w.heap.size + 1) s'.cs) (w.heap.size + 1) s' ∧ Sees (u.setRow (w.heap.size + 1) s'.cs) s' X' ∧ Kin w s s' ∧ Below w.heap.size w (u.setRow (w.heap.size + 1) s'.cs) := by
  have hn : ¬ s'.Has (w.heap.size + 1) := fun hb => by
    rcases K _ hb with x | x
    · omega
    · have := S.lt x; omega
  obtain ⟨x1, x2, x3⟩ := tell_row b r (by omega) S' hn
  exact ⟨x1, x2, fun b hb => by rcases K b hb with x | x; (exact .inl (by omega)); exact .inr x, x3⟩
theorem TellS.drew {mk : Value → Value} {e : Ending} (h : TellS w s X mk e u) : TellS w s X mk e u.drew := by
  obtain ⟨s', e1, S, K, b⟩ := h
  exact ⟨s', e1, S.drew, K, b.drew⟩
end

/-- The place of a kind. -/
def at_ (which : Int) : Nat := (which - 1).toNat
theorem kind_cases (b : Bool) (which : Int) : kndE b which = 1 ∨ (kndE b which = 0 ∧ b = true ∧ ∃ k : Nat, k < 3 ∧ which = (k : Int) + 1 ∧ at_ which = k) := by
  unfold kndE
  split
  · rename_i h
    refine .inr ⟨rfl, h.1, (which - 1).toNat, by omega, by omega, rfl⟩
  · exact .inl rfl

/-- What Take tells. -/
def tkE (b : Bool) (X : SL) (which : Int) : Int := if kndE b which = 0 then Pool.takeE true (X.pl (at_ which)) else 1
def tkX (b : Bool) (X : SL) (which : Int) : SL := if tkE b X which = 0 then X.setPl (at_ which) (Pool.takeQ true (X.pl (at_ which))) else noS
def tkR (b : Bool) (X : SL) (which : Int) : Int := if tkE b X which = 0 then Pool.takeR true (X.pl (at_ which)) else 0
/-- What Retire tells. -/
def rtE (b : Bool) (X : SL) (which r : Int) : Int := if kndE b which = 0 then Pool.retE true (X.pl (at_ which)) r else 1
def rtX (b : Bool) (X : SL) (which r : Int) : SL := if rtE b X which r = 0 then X.setPl (at_ which) (Pool.retQ true (X.pl (at_ which)) r X.T) else noS
/-- What Gen tells. -/
def gnE (b : Bool) (X : SL) (which r : Int) : Int := if kndE b which = 0 ∧ 1 ≤ r ∧ r ≤ 1125899906842624 ∧ (r - 1) % 1024 < ((X.pl (at_ which)).G.length : Int) then 0 else 1
def gnG (b : Bool) (X : SL) (which r : Int) : Int := if gnE b X which r = 0 then (X.pl (at_ which)).G.getD ((r - 1) % 1024).toNat 0 else 0
def gnS (b : Bool) (X : SL) (which r : Int) : Int := if gnE b X which r = 0 then (X.pl (at_ which)).S.getD ((r - 1) % 1024).toNat 0 else 0
/-- What Pin tells. -/
def pnE (b : Bool) (X : SL) (t : Int) : Int := Era.pinE b X.Z t
def pnX (b : Bool) (X : SL) (t : Int) : SL := if pnE b X t = 0 then X.setEra X.T (X.Z.set t.toNat X.T) else noS
/-- What Turn tells: b whether all may be, q whether all are in step. -/
def trB (b q : Bool) (X : SL) : Bool := Era.turnB b q X.T
def recX (X : SL) (upto : Int) (k : Nat) : SL := ⟨X.M, X.L, if 0 < k then Pool.recQ true X.P0 upto else X.P0, if 1 < k then Pool.recQ true X.P1 upto else X.P1, if 2 < k then Pool.recQ true X.P2 upto else X.P2, X.T, X.Z⟩
def trX (b q : Bool) (X : SL) : SL := if b then (if trB b q X then recX (X.setEra (X.T + 1) X.Z) (X.T - 1) 3 else X) else noS
end Go.Proofs.Ythficfmakbblkaa
