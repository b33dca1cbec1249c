/- Words for layer 12: results, events and calls as values and in memory. No conditions. -/
import Derived.Test.YtfefkdedgceomaaWords
import Derived.Test.YtfefkdedgceomaaHMath
import Derived.Test.YtfefkdedgceomaaProg
import Derived.BigFrame
import Derived.WalkKit
namespace Go.Proofs.Ytfefkdedgceomaa
open Go.RowKit
set_option linter.unusedVariables false

structure Sl where
  A : Option Addr
  n : Nat
  c : Nat
def noSl : Sl := ⟨none, 0, 0⟩
abbrev Sl.val (s : Sl) : Value := .slice s.A s.n s.c
/-- The slices of a result. -/
structure S3 where
  (P O I : Sl)
def noS3 : S3 := ⟨noSl, noSl, noSl⟩

/-- The cells of an operation, of a result, an event, a call. -/
def oc (o : O5) : Array Value := #[.int .i64 o.k, .int .i64 o.a, .int .i64 o.b, .int .i64 o.q, .int .i64 o.v]
def rc (r : RL) (s : S3) : Array Value := #[.int .i64 r.er, .int .i64 r.id, .slice s.P.A s.P.n s.P.c, .slice s.O.A s.O.n s.O.c, .slice s.I.A s.I.n s.I.c]
def ec (x : Ev) (s : S3) : Array Value := #[.int .i64 x.t, .bool x.d, .int .i64 x.o.k, .int .i64 x.o.a, .int .i64 x.o.b, .int .i64 x.o.q, .int .i64 x.o.v, .int .i64 x.r.er, .int .i64 x.r.id, .slice s.P.A s.P.n s.P.c, .slice s.O.A s.O.n s.O.c, .slice s.I.A s.I.n s.I.c]
def cc (c : Cl) (s : S3) : Array Value := #[.int .i64 c.t, .int .i64 c.o.k, .int .i64 c.o.a, .int .i64 c.o.b, .int .i64 c.o.q, .int .i64 c.o.v, .int .i64 c.f, .int .i64 c.e, .int .i64 c.r.er, .int .i64 c.r.id, .slice s.P.A s.P.n s.P.c, .slice s.O.A s.O.n s.O.c, .slice s.I.A s.I.n s.I.c]
theorem oc_size (o : O5) : (oc o).size = 5 := rfl
theorem rc_size (r : RL) (s : S3) : (rc r s).size = 5 := rfl
theorem ec_size (x : Ev) (s : S3) : (ec x s).size = 12 := rfl
theorem cc_size (c : Cl) (s : S3) : (cc c s).size = 13 := rfl
theorem rc_one (r : RL) (s : S3) : (rc r s).all (·.oneCell') = true := by kernel_rfl
theorem ec_one (x : Ev) (s : S3) : (ec x s).all (·.oneCell') = true := by kernel_rfl
theorem cc_one (c : Cl) (s : S3) : (cc c s).all (·.oneCell') = true := by kernel_rfl
set_option maxRecDepth 100000 in
theorem size33 : (Try.prog.info? 33).map (·.size) = some 5 := by kernel_rfl
set_option maxRecDepth 100000 in
theorem size37 : (Try.prog.info? 37).map (·.size) = some 5 := by kernel_rfl
set_option maxRecDepth 100000 in
theorem size39 : (Try.prog.info? 39).map (·.size) = some 13 := by kernel_rfl
set_option maxRecDepth 100000 in
theorem size45 : (Try.prog.info? 45).map (·.size) = some 12 := by kernel_rfl
/-- An event's, a call's parts. -/
theorem ec_o (x : Ev) (s : S3) (j : Nat) (v : Value) (h : (oc x.o).toList[j]? = some v) : (ec x s)[2 + j]? = some v := by
  have hj : j < 5 := (List.getElem?_eq_some_iff.1 h).1
  rw [← h]
  match j, hj with
  | 0, _ | 1, _ | 2, _ | 3, _ | 4, _ => rfl
theorem ec_r (x : Ev) (s : S3) (j : Nat) (v : Value) (h : (rc x.r s).toList[j]? = some v) : (ec x s)[7 + j]? = some v := by
  have hj : j < 5 := (List.getElem?_eq_some_iff.1 h).1
  rw [← h]
  match j, hj with
  | 0, _ | 1, _ | 2, _ | 3, _ | 4, _ => rfl
theorem cc_o (c : Cl) (s : S3) (j : Nat) (v : Value) (h : (oc c.o).toList[j]? = some v) : (cc c s)[1 + j]? = some v := by
  have hj : j < 5 := (List.getElem?_eq_some_iff.1 h).1
  rw [← h]
  match j, hj with
  | 0, _ | 1, _ | 2, _ | 3, _ | 4, _ => rfl
theorem cc_r (c : Cl) (s : S3) (j : Nat) (v : Value) (h : (rc c.r s).toList[j]? = some v) : (cc c s)[8 + j]? = some v := by
  have hj : j < 5 := (List.getElem?_eq_some_iff.1 h).1
  rw [← h]
  match j, hj with
  | 0, _ | 1, _ | 2, _ | 3, _ | 4, _ => rfl

/-- The pairs at h read as l. -/
def Props (w : World) (B : Nat) (h : Sl) (l : List Pr) : Prop := Nums w B 2 h.A h.n (flat2 l) ∧ (h.A = none → h.c = 0)
/-- The slices s read as those of the result r. -/
def RSee (w : World) (B : Nat) (s : S3) (r : RL) : Prop := Props w B s.P r.P ∧ Props w B s.O r.O ∧ Props w B s.I r.I
/-- Values lie from a place on. -/
def Lies (w : World) (b o : Nat) (cs : Array Value) : Prop := ∀ j v, cs.toList[j]? = some v → w.cell? ⟨b, o + j, none⟩ = some v
/-- The events at s read as L; the calls at s read as C. -/
def Evs (w : World) (B : Nat) (s : Sl) (L : List Ev) : Prop :=
  L.length = s.n ∧ (s.A = none → s.c = 0) ∧ (0 < s.n → ∃ b off, s.A = some ⟨b, off, none⟩ ∧ b < B ∧ ∀ i, i < s.n → ∃ q, Lies w b (off + i * 12) (ec (L.getD i noEv) q) ∧ RSee w B q (L.getD i noEv).r)
def Cls (w : World) (B : Nat) (s : Sl) (C : List Cl) : Prop :=
  C.length = s.n ∧ (s.A = none → s.c = 0) ∧ (0 < s.n → ∃ b off, s.A = some ⟨b, off, none⟩ ∧ b < B ∧ ∀ i, i < s.n → ∃ q, Lies w b (off + i * 13) (cc (C.getD i noCl) q) ∧ RSee w B q (C.getD i noCl).r)

section
variable {w w' u u' : World} {B B' b o g : Nat} {h s : Sl} {q : S3} {r : RL} {l : List Pr} {L : List Ev} {C : List Cl} {cs : Array Value}
theorem Props.below (p : Props w B h l) (hb : Below B' w w') (hB : B ≤ B') : Props w' B h l := ⟨p.1.below hb hB, p.2⟩
theorem Props.more (p : Props w B h l) (hB : B ≤ B') : Props w B' h l := ⟨p.1.more hB, p.2⟩
theorem Props.len (p : Props w B h l) : h.n = l.length := by have := p.1.1; rw [flat2_len] at this; omega
theorem Props.nil (w : World) (B : Nat) : Props w B noSl [] := ⟨Nums.nil, fun _ => rfl⟩
theorem Props.at_ {k : Nat} (p : Props w B h l) (hk : k < h.n) : ∃ b off, h.A = some ⟨b, off, Option.none⟩ ∧ b < B ∧ w.cell? ⟨b, off + k * 2, Option.none⟩ = some (.int .i64 (l.getD k (0, 0)).1) ∧ w.cell? ⟨b, off + k * 2 + 1, Option.none⟩ = some (.int .i64 (l.getD k (0, 0)).2) := by
  have hl := p.len
  obtain ⟨b, off, e, hlt, hc⟩ := p.1.2 (by omega)
  obtain ⟨e1, e2⟩ := flat2_at l k (by omega)
  exact ⟨b, off, e, hlt, by rw [hc _ (by omega), e1], by rw [Nat.add_assoc, hc _ (by omega), e2]⟩
theorem RSee.below (p : RSee w B q r) (hb : Below B' w w') (hB : B ≤ B') : RSee w' B q r := ⟨p.1.below hb hB, p.2.1.below hb hB, p.2.2.below hb hB⟩
theorem RSee.more (p : RSee w B q r) (hB : B ≤ B') : RSee w B' q r := ⟨p.1.more hB, p.2.1.more hB, p.2.2.more hB⟩
theorem RSee.step (p : RSee u u.heap.size q r) (hb : Below u.heap.size u u') : RSee u' u'.heap.size q r := (p.below hb (Nat.le_refl _)).more hb.size
theorem RSee.nil (w : World) (B : Nat) : RSee w B noS3 noR := ⟨Props.nil w B, Props.nil w B, Props.nil w B⟩
theorem Lies.below (p : Lies w b o cs) (hb : Below B w w') (h : b < B) : Lies w' b o cs := fun j v hv => (hb.cell (p := ⟨b, _, none⟩) h).trans (p j v hv)
theorem Lies.at_ (p : Lies w b o cs) (j : Nat) {v : Value} (hv : cs[j]? = some v) : w.cell? ⟨b, o + j, none⟩ = some v := p j v (by simpa using hv)
theorem Evs.below (p : Evs w B s L) (hb : Below B' w w') (hB : B ≤ B') : Evs w' B s L :=
  ⟨p.1, p.2.1, fun hn => by
    obtain ⟨b, off, e, hlt, hc⟩ := p.2.2 hn
    refine ⟨b, off, e, hlt, fun i hi => ?_⟩
    obtain ⟨q, h1, h2⟩ := hc i hi
    exact ⟨q, h1.below hb (by omega), h2.below hb hB⟩⟩
theorem Evs.more (p : Evs w B s L) (hB : B ≤ B') : Evs w B' s L :=
  ⟨p.1, p.2.1, fun hn => by
    obtain ⟨b, off, e, hlt, hc⟩ := p.2.2 hn
    refine ⟨b, off, e, by omega, fun i hi => ?_⟩
    obtain ⟨q, h1, h2⟩ := hc i hi
    exact ⟨q, h1, h2.more hB⟩⟩
theorem Evs.step (p : Evs u u.heap.size s L) (hb : Below u.heap.size u u') : Evs u' u'.heap.size s L := (p.below hb (Nat.le_refl _)).more hb.size
theorem Evs.at_ {k : Nat} (p : Evs w B s L) (hk : k < s.n) : ∃ b off q, s.A = some ⟨b, off, none⟩ ∧ b < B ∧ Lies w b (off + k * 12) (ec (L.getD k noEv) q) ∧ RSee w B q (L.getD k noEv).r := by
  obtain ⟨b, off, e, hlt, hc⟩ := p.2.2 (by omega)
  obtain ⟨q, h1, h2⟩ := hc k hk
  exact ⟨b, off, q, e, hlt, h1, h2⟩
theorem Cls.below (p : Cls w B s C) (hb : Below B' w w') (hB : B ≤ B') : Cls w' B s C :=
  ⟨p.1, p.2.1, fun hn => by
    obtain ⟨b, off, e, hlt, hc⟩ := p.2.2 hn
    refine ⟨b, off, e, hlt, fun i hi => ?_⟩
    obtain ⟨q, h1, h2⟩ := hc i hi
    exact ⟨q, h1.below hb (by omega), h2.below hb hB⟩⟩
theorem Cls.more (p : Cls w B s C) (hB : B ≤ B') : Cls w B' s C :=
  ⟨p.1, p.2.1, fun hn => by
    obtain ⟨b, off, e, hlt, hc⟩ := p.2.2 hn
    refine ⟨b, off, e, by omega, fun i hi => ?_⟩
    obtain ⟨q, h1, h2⟩ := hc i hi
    exact ⟨q, h1, h2.more hB⟩⟩
theorem Cls.step (p : Cls u u.heap.size s C) (hb : Below u.heap.size u u') : Cls u' u'.heap.size s C := (p.below hb (Nat.le_refl _)).more hb.size
theorem Cls.at_ {k : Nat} (p : Cls w B s C) (hk : k < s.n) : ∃ b off q, s.A = some ⟨b, off, none⟩ ∧ b < B ∧ Lies w b (off + k * 13) (cc (C.getD k noCl) q) ∧ RSee w B q (C.getD k noCl).r := by
  obtain ⟨b, off, e, hlt, hc⟩ := p.2.2 (by omega)
  obtain ⟨q, h1, h2⟩ := hc k hk
  exact ⟨b, off, q, e, hlt, h1, h2⟩
theorem Cls.nil (w : World) (B : Nat) : Cls w B noSl [] := ⟨rfl, fun _ => rfl, fun h => by cases h⟩

/-! Boxes. -/
def Bx (u : World) (g : Nat) (cs : Array Value) (t : TypeId) : Prop := u.heap[g]? = some (.cells cs t (0, 0))
variable {t : TypeId}
theorem Bx.lt (h : Bx u g cs t) : g < u.heap.size := (Array.getElem?_eq_some_iff.1 h).1
theorem Bx.step (h : Bx u g cs t) (hb : Below u.heap.size u u') : Bx u' g cs t := (hb.block g h.lt).trans h
theorem Bx.below (h : Bx u g cs t) (hb : Below B u u') (hg : g < B) : Bx u' g cs t := (hb.block g hg).trans h
theorem Bx.alloc (h : Bx u g cs t) (o : Obj) : Bx (u.alloc o) g cs t := (Below.heap_alloc u o g h.lt).trans h
theorem Bx.new (u : World) (cs : Array Value) (t : TypeId) : Bx (u.alloc (.cells cs t)) u.heap.size cs t := heap_alloc_new u _
theorem Bx.cells (h : Bx u g cs t) (i : Nat) : u.cell? ⟨g, i, none⟩ = cs[i]? := cell_of_row u g i _ t (0, 0) h
theorem Bx.frozen (h : Bx u g cs t) (i : Nat) : u.frozen? ⟨g, i, none⟩ = false := frozen_of_row u g i _ t h
theorem Bx.other (h : Bx u g cs t) {k : Nat} (hk : g ≠ k) (i : Nat) (v : Value) : Bx (u.setCell ⟨k, i, none⟩ v) g cs t := (heap_setCell_other u ⟨k, i, none⟩ g v hk).trans h
theorem Bx.far (h : Bx u g cs t) {k : Nat} (hk : g ≠ k) (ds : Array Value) : Bx (u.setRow k ds) g cs t := (setRow_other u k g ds hk).trans h
theorem Bx.put (h : Bx u g cs t) (ds : Array Value) : Bx (u.setRow g ds) g ds t := setRow_heap u g _ _ t (0, 0) h
theorem Bx.lies (h : Bx u g cs t) : Lies u g 0 cs := fun j v hv => by rw [Nat.zero_add, h.cells]; simpa using hv
/-- The fields of an event's box, of a call's box. -/
theorem Bx.e0 {x : Ev} (h : Bx u g (ec x q) t) : u.cell? ⟨g, 0, none⟩ = some (.int .i64 x.t) := h.cells 0
theorem Bx.e1 {x : Ev} (h : Bx u g (ec x q) t) : u.cell? ⟨g, 1, none⟩ = some (.bool x.d) := h.cells 1
theorem Bx.eo {x : Ev} (h : Bx u g (ec x q) t) : Lies u g 2 (oc x.o) := fun j v hv => (h.cells _).trans (ec_o x q j v hv)
theorem Bx.er {x : Ev} (h : Bx u g (ec x q) t) : Lies u g 7 (rc x.r q) := fun j v hv => (h.cells _).trans (ec_r x q j v hv)
theorem Bx.c0 {x : Cl} (h : Bx u g (cc x q) t) : u.cell? ⟨g, 0, none⟩ = some (.int .i64 x.t) := h.cells 0
theorem Bx.c6 {x : Cl} (h : Bx u g (cc x q) t) : u.cell? ⟨g, 6, none⟩ = some (.int .i64 x.f) := h.cells 6
theorem Bx.c7 {x : Cl} (h : Bx u g (cc x q) t) : u.cell? ⟨g, 7, none⟩ = some (.int .i64 x.e) := h.cells 7
theorem Bx.co {x : Cl} (h : Bx u g (cc x q) t) : Lies u g 1 (oc x.o) := fun j v hv => (h.cells _).trans (cc_o x q j v hv)
theorem Bx.cr {x : Cl} (h : Bx u g (cc x q) t) : Lies u g 8 (rc x.r q) := fun j v hv => (h.cells _).trans (cc_r x q j v hv)
theorem Lies.e0 {x : Ev} (h : Lies u b o (ec x q)) : u.cell? ⟨b, o, none⟩ = some (.int .i64 x.t) := h.at_ 0 rfl
theorem Lies.e1 {x : Ev} (h : Lies u b o (ec x q)) : u.cell? ⟨b, o + 1, none⟩ = some (.bool x.d) := h.at_ 1 rfl
theorem Lies.eo {x : Ev} (h : Lies u b o (ec x q)) : Lies u b (o + 2) (oc x.o) := fun j v hv => by rw [Nat.add_assoc]; exact h.at_ _ (ec_o x q j v hv)
theorem Lies.er {x : Ev} (h : Lies u b o (ec x q)) : Lies u b (o + 7) (rc x.r q) := fun j v hv => by rw [Nat.add_assoc]; exact h.at_ _ (ec_r x q j v hv)
theorem Lies.c6 {x : Cl} (h : Lies u b o (cc x q)) : u.cell? ⟨b, o + 6, none⟩ = some (.int .i64 x.f) := h.at_ 6 rfl
theorem Lies.c7 {x : Cl} (h : Lies u b o (cc x q)) : u.cell? ⟨b, o + 7, none⟩ = some (.int .i64 x.e) := h.at_ 7 rfl
end

/-- A part of a block is loaded. -/
theorem wpList_load_part {P : Program} {ops : Array Oper} {rest : List Oper} {o : Oper} {a : Act} {w : World} {Q : Exit → Act → World → Prop} (hw : Region.wanted o (yielded ops a.tmps) = true) (ty : TypeId) (x : Operand) (ho : o.op = .load ty x)
    (g off : Nat) (hx : a.eval x = .pointer (some ⟨g, off, none⟩)) (cs : Array Value) (hc : Lies w g off cs) (d : TypeDesc)
    (hu : P.underlying ty = some d) (hd : (match d with | .struct _ | .array _ _ => true | _ => false) = true) (hi : (P.info? ty).map (·.size) = some cs.size)
    (h : wpList P ops Q rest (a.put o.dst (.agg cs)) w) : wpList P ops Q (o :: rest) a w := by
  have hl : (loadCells ⟨g, off, none⟩ cs.toList.length).run P w = .ok cs.toList.toArray w :=
    run_loadCells_list (P := P) w ⟨g, off, none⟩ cs.toList (fun j v hv => by
      have hadd : (⟨g, off, none⟩ : Addr).add j = ⟨g, off + j, none⟩ := by unfold Addr.add; split <;> simp_all
      rw [hadd]
      exact hc j v hv)
  have hr : (loadVar ty ⟨g, off, none⟩).run P w = .ok (.agg cs) w := by
    cases hq : P.info? ty with
    | none => simp [hq] at hi
    | some i =>
      have hs : i.size = cs.size := by simpa [hq] using hi
      have hagg : (isAgg ty).run P w = .ok true w := by
        unfold isAgg
        rw [Sem.run_bind, run_underlying hu w]
        cases d <;> simp_all
      simp only [Array.length_toList, Array.toArray_toList] at hl
      simp [loadVar, Sem.run_bind, hagg, sizeOf, typeInfo, hq, hs, hl]
  refine BigFrame.wpList_want hw fun _ hK => ?_
  unfold Oper.wp execOp
  simp only [ho, hx, Instr.loadAt, Instr.sureAddr, Sem.run_bind, Sem.run_pure, Result.andThen_ok, hr]
  exact hK _ _ h

section
variable {ops : Array Oper} {rest : List Oper} {a : Act} {w : World} {Q : Exit → Act → World → Prop} {dst : Option Tmp} {ty : TypeId} {pos : String} {af : Array Edge} {gd : Option (Nat × Bool)}
/-- Loads of an operation, a result, an event, a call. -/
theorem ld33 (x : Operand) (g off : Nat) (hw : Region.wanted ⟨dst, .load 33 x, ty, pos, af, gd⟩ (yielded ops a.tmps) = true) (hx : a.eval x = .pointer (some ⟨g, off, none⟩)) (o : O5) (HG : Lies w g off (oc o)) (h : wpList Try.prog ops Q rest (a.put dst (.agg (oc o))) w) :
    wpList Try.prog ops Q (⟨dst, .load 33 x, ty, pos, af, gd⟩ :: rest) a w :=
  wpList_load_part hw 33 x rfl g off hx _ HG _ Try.underlying33 rfl size33 h
theorem ld37 (x : Operand) (g off : Nat) (hw : Region.wanted ⟨dst, .load 37 x, ty, pos, af, gd⟩ (yielded ops a.tmps) = true) (hx : a.eval x = .pointer (some ⟨g, off, none⟩)) (r : RL) (s : S3) (HG : Lies w g off (rc r s)) (h : wpList Try.prog ops Q rest (a.put dst (.agg (rc r s))) w) :
    wpList Try.prog ops Q (⟨dst, .load 37 x, ty, pos, af, gd⟩ :: rest) a w :=
  wpList_load_part hw 37 x rfl g off hx _ HG _ Try.underlying37 rfl size37 h
theorem ld45 (x : Operand) (g off : Nat) (hw : Region.wanted ⟨dst, .load 45 x, ty, pos, af, gd⟩ (yielded ops a.tmps) = true) (hx : a.eval x = .pointer (some ⟨g, off, none⟩)) (e : Ev) (s : S3) (HG : Lies w g off (ec e s)) (h : wpList Try.prog ops Q rest (a.put dst (.agg (ec e s))) w) :
    wpList Try.prog ops Q (⟨dst, .load 45 x, ty, pos, af, gd⟩ :: rest) a w :=
  wpList_load_part hw 45 x rfl g off hx _ HG _ Try.underlying45 rfl size45 h
theorem ld39 (x : Operand) (g off : Nat) (hw : Region.wanted ⟨dst, .load 39 x, ty, pos, af, gd⟩ (yielded ops a.tmps) = true) (hx : a.eval x = .pointer (some ⟨g, off, none⟩)) (c : Cl) (s : S3) (HG : Lies w g off (cc c s)) (h : wpList Try.prog ops Q rest (a.put dst (.agg (cc c s))) w) :
    wpList Try.prog ops Q (⟨dst, .load 39 x, ty, pos, af, gd⟩ :: rest) a w :=
  wpList_load_part hw 39 x rfl g off hx _ HG _ Try.underlying39 rfl size39 h
/-- Stores into a box. -/
theorem st45 (x y : Operand) (g : Nat) (hx : a.eval x = .pointer (some ⟨g, 0, none⟩)) (e : Ev) (s : S3) (hy : a.eval y = .agg (ec e s)) (cs : Array Value) (HG : Bx w g cs 45) (hcs : cs.size = 12) (h : wpList Try.prog ops Q rest (a.put dst undef) (w.setRow g (ec e s))) :
    wpList Try.prog ops Q (⟨dst, .store 45 x y, ty, pos, af, none⟩ :: rest) a w :=
  wpList_store_row rfl 45 x y rfl g _ hx hy 45 cs HG size45 (hcs.trans rfl) (ec_one e s) h
theorem st39 (x y : Operand) (g : Nat) (hx : a.eval x = .pointer (some ⟨g, 0, none⟩)) (e : Cl) (s : S3) (hy : a.eval y = .agg (cc e s)) (cs : Array Value) (HG : Bx w g cs 39) (hcs : cs.size = 13) (h : wpList Try.prog ops Q rest (a.put dst undef) (w.setRow g (cc e s))) :
    wpList Try.prog ops Q (⟨dst, .store 39 x y, ty, pos, af, none⟩ :: rest) a w :=
  wpList_store_row rfl 39 x y rfl g _ hx hy 39 cs HG size39 (hcs.trans rfl) (cc_one e s) h
theorem st37 (x y : Operand) (g : Nat) (hx : a.eval x = .pointer (some ⟨g, 0, none⟩)) (e : RL) (s : S3) (hy : a.eval y = .agg (rc e s)) (cs : Array Value) (HG : Bx w g cs 37) (hcs : cs.size = 5) (h : wpList Try.prog ops Q rest (a.put dst undef) (w.setRow g (rc e s))) :
    wpList Try.prog ops Q (⟨dst, .store 37 x y, ty, pos, af, none⟩ :: rest) a w :=
  wpList_store_row rfl 37 x y rfl g _ hx hy 37 cs HG size37 (hcs.trans rfl) (rc_one e s) h
end
end Go.Proofs.Ytfefkdedgceomaa
