/- Words for layer 11: operations, results and graphs as values and in memory. No conditions. A graph and what is told with it. The map of functions that kinds makes: what it holds for each kind, and nothing else. No conditions. A graph told again in memory of its own: what apply tells of a graph that stays. Conditions: a small graph. The nine functions that kinds makes: what each tells. Conditions: a small graph. An operation done: the code. Conditions: a small graph. -/
import Derived.Test.YtiiadkjiofkonaaGreatAB1
import Derived.Test.YtiiadkjiofkonaaGreatCFin
import Derived.Test.YtiiadkjiofkonaaGreatGAdd
import Derived.WalkKit
import Derived.Below
import Derived.Deep.QuietTactic
import Derived.BigQuiet
import Derived.Deep.AppendLies
import Derived.Deep.RegionHeld3
import Derived.Deep.DeepCutAuto
import Derived.Shelf.Abstract
import Derived.Test.YtiiadkjiofkonaaGreatProg
import Derived.BigFrame
import Derived.Maps.OwnOps
import Derived.Maps.OwnSet
import Derived.Test.YtiiadkjiofkonaaGreatGEach
import Derived.Test.YtiiadkjiofkonaaGreatGNodes
import Derived.Test.YtiiadkjiofkonaaGreatGSet
import Derived.Test.YtiiadkjiofkonaaGreatGFresh
import Derived.Lib.Walk
import Derived.Lib.SliceRun
import Derived.Laws.Rows
import Derived.Test.YtiiadkjiofkonaaGreatGLink
import Derived.Test.YtiiadkjiofkonaaGreatGCut
import Derived.Test.YtiiadkjiofkonaaGreatGNear
import Derived.Test.YtiiadkjiofkonaaGreatGFuse
namespace Go.Proofs.YtiiadkjiofkonaaGreat
open Go.RowKit
set_option linter.unusedVariables false
set_option maxRecDepth 100000

/-- The slices of a result. -/
structure S3 where
  P : Sl
  O : Sl
  I : Sl
def noS3 : S3 := ⟨noSl, noSl, noSl⟩
/-- The cells of an operation, a result, a graph, a configuration. -/
def oc (o : O5) : Array Value := #[.int .i64 o.k, .int .i64 o.a, .int .i64 o.b, .int .i64 o.q, .int .i64 o.v]
def rc (r : RL) (s : S3) : Array Value := #[.int .i64 r.er, .int .i64 r.id, .slice s.P.A s.P.n s.P.c, .slice s.O.A s.O.n s.O.c, .slice s.I.A s.I.n s.I.c]
def gc (v : Gv) : Array Value := #[.slice v.N.A v.N.n v.N.c, .slice v.E.A v.E.n v.E.c, .int .i64 v.x, .int .i64 v.y]
def fc (c0 c1 c2 c3 c4 : Int) : Array Value := #[.int .i64 c0, .int .i64 c1, .int .i64 c2, .int .i64 c3, .int .i64 c4]
theorem oc_one (o : O5) : (oc o).all (·.oneCell') = true := by kernel_rfl
theorem rc_one (r : RL) (s : S3) : (rc r s).all (·.oneCell') = true := by kernel_rfl
theorem gc_one (v : Gv) : (gc v).all (·.oneCell') = true := by kernel_rfl
theorem fc_one (c0 c1 c2 c3 c4 : Int) : (fc c0 c1 c2 c3 c4).all (·.oneCell') = true := by kernel_rfl
theorem gc_val (v : Gv) : (Value.agg (gc v)) = v.val := rfl
theorem asize23 : (Tryz.prog.info? 23).map (·.size) = some 5 := by kernel_rfl
theorem asize29 : (Tryz.prog.info? 29).map (·.size) = some 5 := by kernel_rfl
theorem asize37 : (Tryz.prog.info? 37).map (·.size) = some 5 := by kernel_rfl
theorem asize27 : (Tryz.prog.info? 27).map (·.size) = some 4 := by kernel_rfl

/-- Values lie from a place on; a box. -/
def Lies (w : World) (b o : Nat) (cs : Array Value) : Prop := ∀ j v, cs.toList[j]? = some v → w.cell? ⟨b, o + j, none⟩ = some v
def Bx (u : World) (g : Nat) (cs : Array Value) (t : TypeId) : Prop := u.heap[g]? = some (.cells cs t (0, 0))
/-- The slices s read as those of the result r. -/
def RSee (w : World) (B : Nat) (s : S3) (r : RL) : Prop := Props w B s.P r.P ∧ Props w B s.O r.O ∧ Props w B s.I r.I
section
variable {w w' u u' : World} {B B' b o g : Nat} {q : S3} {r : RL} {cs : Array Value} {t : TypeId}
theorem Props.nil (w : World) (B : Nat) : Props w B noSl [] := ⟨Nums.nil, fun _ => rfl⟩
theorem RSee.below (p : RSee w B q r) (hb : Below B' w w') (hB : B ≤ B') : RSee w' B q r := ⟨p.1.below hb hB, p.2.1.below hb hB, p.2.2.below hb hB⟩
theorem RSee.more (p : RSee w B q r) (hB : B ≤ B') : RSee w B' q r := ⟨p.1.more hB, p.2.1.more hB, p.2.2.more hB⟩
theorem RSee.step (p : RSee u u.heap.size q r) (hb : Below u.heap.size u u') : RSee u' u'.heap.size q r := (p.below hb (Nat.le_refl _)).more hb.size
theorem RSee.nil (w : World) (B : Nat) : RSee w B noS3 noR := ⟨Props.nil w B, Props.nil w B, Props.nil w B⟩
theorem Lies.below (p : Lies w b o cs) (hb : Below B w w') (h : b < B) : Lies w' b o cs := fun j v hv => (hb.cell (p := ⟨b, _, none⟩) h).trans (p j v hv)
theorem Lies.at_ (p : Lies w b o cs) (j : Nat) {v : Value} (hv : cs[j]? = some v) : w.cell? ⟨b, o + j, none⟩ = some v := p j v (by simpa using hv)
theorem Bx.lt (h : Bx u g cs t) : g < u.heap.size := (Array.getElem?_eq_some_iff.1 h).1
theorem Bx.step (h : Bx u g cs t) (hb : Below u.heap.size u u') : Bx u' g cs t := (hb.block g h.lt).trans h
theorem Bx.below (h : Bx u g cs t) (hb : Below B u u') (hg : g < B) : Bx u' g cs t := (hb.block g hg).trans h
theorem Bx.alloc (h : Bx u g cs t) (o : Obj) : Bx (u.alloc o) g cs t := (Below.heap_alloc u o g h.lt).trans h
theorem Bx.new (u : World) (cs : Array Value) (t : TypeId) : Bx (u.alloc (.cells cs t)) u.heap.size cs t := heap_alloc_new u _
theorem Bx.cells (h : Bx u g cs t) (i : Nat) : u.cell? ⟨g, i, none⟩ = cs[i]? := cell_of_row u g i _ t (0, 0) h
theorem Bx.frozen (h : Bx u g cs t) (i : Nat) : u.frozen? ⟨g, i, none⟩ = false := frozen_of_row u g i _ t h
theorem Bx.other (h : Bx u g cs t) {k : Nat} (hk : g ≠ k) (i : Nat) (v : Value) : Bx (u.setCell ⟨k, i, none⟩ v) g cs t := (heap_setCell_other u ⟨k, i, none⟩ g v hk).trans h
theorem Bx.far (h : Bx u g cs t) {k : Nat} (hk : g ≠ k) (ds : Array Value) : Bx (u.setRow k ds) g cs t := (setRow_other u k g ds hk).trans h
theorem Bx.put (h : Bx u g cs t) (ds : Array Value) : Bx (u.setRow g ds) g ds t := setRow_heap u g _ _ t (0, 0) h
theorem Bx.lies (h : Bx u g cs t) : Lies u g 0 cs := fun j v hv => by rw [Nat.zero_add, h.cells]; simpa using hv
theorem Bx.o0 {o : O5} (h : Bx u g (oc o) t) : u.cell? ⟨g, 0, none⟩ = some (.int .i64 o.k) := h.cells 0
theorem Bx.o1 {o : O5} (h : Bx u g (oc o) t) : u.cell? ⟨g, 1, none⟩ = some (.int .i64 o.a) := h.cells 1
theorem Bx.o2 {o : O5} (h : Bx u g (oc o) t) : u.cell? ⟨g, 2, none⟩ = some (.int .i64 o.b) := h.cells 2
theorem Bx.o3 {o : O5} (h : Bx u g (oc o) t) : u.cell? ⟨g, 3, none⟩ = some (.int .i64 o.q) := h.cells 3
theorem Bx.o4 {o : O5} (h : Bx u g (oc o) t) : u.cell? ⟨g, 4, none⟩ = some (.int .i64 o.v) := h.cells 4
theorem Bx.r0 (h : Bx u g (rc r q) t) : u.cell? ⟨g, 0, none⟩ = some (.int .i64 r.er) := h.cells 0
theorem Bx.r1 (h : Bx u g (rc r q) t) : u.cell? ⟨g, 1, none⟩ = some (.int .i64 r.id) := h.cells 1
theorem Bx.r2 (h : Bx u g (rc r q) t) : u.cell? ⟨g, 2, none⟩ = some (.slice q.P.A q.P.n q.P.c) := h.cells 2
theorem Bx.r3 (h : Bx u g (rc r q) t) : u.cell? ⟨g, 3, none⟩ = some (.slice q.O.A q.O.n q.O.c) := h.cells 3
theorem Bx.r4 (h : Bx u g (rc r q) t) : u.cell? ⟨g, 4, none⟩ = some (.slice q.I.A q.I.n q.I.c) := h.cells 4
theorem Bx.g0 {v : Gv} (h : Bx u g (gc v) t) : u.cell? ⟨g, 0, none⟩ = some (.slice v.N.A v.N.n v.N.c) := h.cells 0
theorem Bx.g1 {v : Gv} (h : Bx u g (gc v) t) : u.cell? ⟨g, 1, none⟩ = some (.slice v.E.A v.E.n v.E.c) := h.cells 1
theorem Bx.g2 {v : Gv} (h : Bx u g (gc v) t) : u.cell? ⟨g, 2, none⟩ = some (.int .i64 v.x) := h.cells 2
theorem Bx.g3 {v : Gv} (h : Bx u g (gc v) t) : u.cell? ⟨g, 3, none⟩ = some (.int .i64 v.y) := h.cells 3
theorem row_below {B : Nat} {w u : World} {g : Nat} (h : Below B w u) (hg : B ≤ g) (cs : Array Value) : Below B w (u.setRow g cs) :=
  ⟨h.os, h.tape, h.output, by simpa using h.size, fun k hk => (setRow_other u g k cs (by omega)).trans (h.block k hk)⟩
end
/-- A part of a block is loaded. -/
theorem wpList_load_part {P : Program} {ops : Array Oper} {rest : List Oper} {o : Oper} {a : Act} {w : World} {Q : Exit → Act → World → Prop} (hw : Region.wanted o (yielded ops a.tmps) = true) (ty : TypeId) (x : Operand) (ho : o.op = .load ty x)
    (g off : Nat) (hx : a.eval x = .pointer (some ⟨g, off, none⟩)) (cs : Array Value) (hc : Lies w g off cs) (d : TypeDesc)
    (hu : P.underlying ty = some d) (hd : (match d with | .struct _ | .array _ _ => true | _ => false) = true) (hi : (P.info? ty).map (·.size) = some cs.size)
    (h : wpList P ops Q rest (a.put o.dst (.agg cs)) w) : wpList P ops Q (o :: rest) a w := by
  have hl : (loadCells ⟨g, off, none⟩ cs.toList.length).run P w = .ok cs.toList.toArray w :=
    run_loadCells_list (P := P) w ⟨g, off, none⟩ cs.toList (fun j v hv => by
      have hadd : (⟨g, off, none⟩ : Addr).add j = ⟨g, off + j, none⟩ := by unfold Addr.add; split <;> simp_all
      rw [hadd]
      exact hc j v hv)
  have hr : (loadVar ty ⟨g, off, none⟩).run P w = .ok (.agg cs) w := by
    cases hq : P.info? ty with
    | none => simp [hq] at hi
    | some i =>
      have hs : i.size = cs.size := by simpa [hq] using hi
      have hagg : (isAgg ty).run P w = .ok true w := by
        unfold isAgg
        rw [Sem.run_bind, run_underlying hu w]
        cases d <;> simp_all
      simp only [Array.length_toList, Array.toArray_toList] at hl
      simp [loadVar, Sem.run_bind, hagg, sizeOf, typeInfo, hq, hs, hl]
  refine BigFrame.wpList_want hw fun _ hK => ?_
  unfold Oper.wp execOp
  simp only [ho, hx, Instr.loadAt, Instr.sureAddr, Sem.run_bind, Sem.run_pure, Result.andThen_ok, hr]
  exact hK _ _ h
/-- .. the load alone. -/
theorem exec_load_part {P : Program} {o : Oper} {a : Act} {w : World} (ty : TypeId) (x : Operand) (ho : o.op = .load ty x) (g off : Nat) (hx : a.eval x = .pointer (some ⟨g, off, none⟩)) (cs : Array Value) (hc : Lies w g off cs) (d : TypeDesc)
    (hu : P.underlying ty = some d) (hd : (match d with | .struct _ | .array _ _ => true | _ => false) = true) (hi : (P.info? ty).map (·.size) = some cs.size) : (execOp a.eval o).run P w = .ok (.value (.agg cs)) w := by
  have hl : (loadCells ⟨g, off, none⟩ cs.toList.length).run P w = .ok cs.toList.toArray w :=
    run_loadCells_list (P := P) w ⟨g, off, none⟩ cs.toList (fun j v hv => by
      have hadd : (⟨g, off, none⟩ : Addr).add j = ⟨g, off + j, none⟩ := by unfold Addr.add; split <;> simp_all
      rw [hadd]
      exact hc j v hv)
  have hr : (loadVar ty ⟨g, off, none⟩).run P w = .ok (.agg cs) w := by
    cases hq : P.info? ty with
    | none => simp [hq] at hi
    | some i =>
      have hs : i.size = cs.size := by simpa [hq] using hi
      have hagg : (isAgg ty).run P w = .ok true w := by
        unfold isAgg
        rw [Sem.run_bind, run_underlying hu w]
        cases d <;> simp_all
      simp only [Array.length_toList, Array.toArray_toList] at hl
      simp [loadVar, Sem.run_bind, hagg, sizeOf, typeInfo, hq, hs, hl]
  unfold execOp
  simp only [ho, hx, Instr.loadAt, Instr.sureAddr, Sem.run_bind, Sem.run_pure, Result.andThen_ok, hr]
section
variable {ops : Array Oper} {rest : List Oper} {a : Act} {w : World} {Q : Exit → Act → World → Prop} {dst : Option Tmp} {ty : TypeId} {pos : String} {af : Array Edge} {gd : Option (Nat × Bool)}
theorem ldC (x : Operand) (g off : Nat) (hw : Region.wanted ⟨dst, .load 23 x, ty, pos, af, gd⟩ (yielded ops a.tmps) = true) (hx : a.eval x = .pointer (some ⟨g, off, none⟩)) (c0 c1 c2 c3 c4 : Int) (HG : Lies w g off (fc c0 c1 c2 c3 c4)) (h : wpList Tryz.prog ops Q rest (a.put dst (.agg (fc c0 c1 c2 c3 c4))) w) :
    wpList Tryz.prog ops Q (⟨dst, .load 23 x, ty, pos, af, gd⟩ :: rest) a w :=
  wpList_load_part hw 23 x rfl g off hx _ HG _ Tryz.underlying23 rfl asize23 h
theorem xlC (x : Operand) (g off : Nat) (hx : a.eval x = .pointer (some ⟨g, off, none⟩)) (c0 c1 c2 c3 c4 : Int) (HG : Lies w g off (fc c0 c1 c2 c3 c4)) : (execOp a.eval ⟨dst, .load 23 x, ty, pos, af, gd⟩).run Tryz.prog w = .ok (.value (.agg (fc c0 c1 c2 c3 c4))) w :=
  exec_load_part 23 x rfl g off hx _ HG _ Tryz.underlying23 rfl asize23
theorem stC (x y : Operand) (g : Nat) (hx : a.eval x = .pointer (some ⟨g, 0, none⟩)) (c0 c1 c2 c3 c4 : Int) (hy : a.eval y = .agg (fc c0 c1 c2 c3 c4)) (ds : Array Value) (HG : Bx w g ds 23) (hcs : ds.size = (fc c0 c1 c2 c3 c4).size) (h : wpList Tryz.prog ops Q rest (a.put dst undef) (w.setRow g (fc c0 c1 c2 c3 c4))) :
    wpList Tryz.prog ops Q (⟨dst, .store 23 x y, ty, pos, af, none⟩ :: rest) a w :=
  wpList_store_row rfl 23 x y rfl g _ hx hy 23 ds HG asize23 (hcs.trans rfl) (fc_one c0 c1 c2 c3 c4) h
theorem ldG (x : Operand) (g off : Nat) (hw : Region.wanted ⟨dst, .load 27 x, ty, pos, af, gd⟩ (yielded ops a.tmps) = true) (hx : a.eval x = .pointer (some ⟨g, off, none⟩)) (v : Gv) (HG : Lies w g off (gc v)) (h : wpList Tryz.prog ops Q rest (a.put dst (.agg (gc v))) w) :
    wpList Tryz.prog ops Q (⟨dst, .load 27 x, ty, pos, af, gd⟩ :: rest) a w :=
  wpList_load_part hw 27 x rfl g off hx _ HG _ Tryz.underlying27 rfl asize27 h
theorem xlG (x : Operand) (g off : Nat) (hx : a.eval x = .pointer (some ⟨g, off, none⟩)) (v : Gv) (HG : Lies w g off (gc v)) : (execOp a.eval ⟨dst, .load 27 x, ty, pos, af, gd⟩).run Tryz.prog w = .ok (.value (.agg (gc v))) w :=
  exec_load_part 27 x rfl g off hx _ HG _ Tryz.underlying27 rfl asize27
theorem stG (x y : Operand) (g : Nat) (hx : a.eval x = .pointer (some ⟨g, 0, none⟩)) (v : Gv) (hy : a.eval y = .agg (gc v)) (ds : Array Value) (HG : Bx w g ds 27) (hcs : ds.size = (gc v).size) (h : wpList Tryz.prog ops Q rest (a.put dst undef) (w.setRow g (gc v))) :
    wpList Tryz.prog ops Q (⟨dst, .store 27 x y, ty, pos, af, none⟩ :: rest) a w :=
  wpList_store_row rfl 27 x y rfl g _ hx hy 27 ds HG asize27 (hcs.trans rfl) (gc_one v) h
theorem ldO (x : Operand) (g off : Nat) (hw : Region.wanted ⟨dst, .load 29 x, ty, pos, af, gd⟩ (yielded ops a.tmps) = true) (hx : a.eval x = .pointer (some ⟨g, off, none⟩)) (o : O5) (HG : Lies w g off (oc o)) (h : wpList Tryz.prog ops Q rest (a.put dst (.agg (oc o))) w) :
    wpList Tryz.prog ops Q (⟨dst, .load 29 x, ty, pos, af, gd⟩ :: rest) a w :=
  wpList_load_part hw 29 x rfl g off hx _ HG _ Tryz.underlying29 rfl asize29 h
theorem xlO (x : Operand) (g off : Nat) (hx : a.eval x = .pointer (some ⟨g, off, none⟩)) (o : O5) (HG : Lies w g off (oc o)) : (execOp a.eval ⟨dst, .load 29 x, ty, pos, af, gd⟩).run Tryz.prog w = .ok (.value (.agg (oc o))) w :=
  exec_load_part 29 x rfl g off hx _ HG _ Tryz.underlying29 rfl asize29
theorem stO (x y : Operand) (g : Nat) (hx : a.eval x = .pointer (some ⟨g, 0, none⟩)) (o : O5) (hy : a.eval y = .agg (oc o)) (ds : Array Value) (HG : Bx w g ds 29) (hcs : ds.size = (oc o).size) (h : wpList Tryz.prog ops Q rest (a.put dst undef) (w.setRow g (oc o))) :
    wpList Tryz.prog ops Q (⟨dst, .store 29 x y, ty, pos, af, none⟩ :: rest) a w :=
  wpList_store_row rfl 29 x y rfl g _ hx hy 29 ds HG asize29 (hcs.trans rfl) (oc_one o) h
theorem ldR (x : Operand) (g off : Nat) (hw : Region.wanted ⟨dst, .load 37 x, ty, pos, af, gd⟩ (yielded ops a.tmps) = true) (hx : a.eval x = .pointer (some ⟨g, off, none⟩)) (r : RL) (s : S3) (HG : Lies w g off (rc r s)) (h : wpList Tryz.prog ops Q rest (a.put dst (.agg (rc r s))) w) :
    wpList Tryz.prog ops Q (⟨dst, .load 37 x, ty, pos, af, gd⟩ :: rest) a w :=
  wpList_load_part hw 37 x rfl g off hx _ HG _ Tryz.underlying37 rfl asize37 h
theorem xlR (x : Operand) (g off : Nat) (hx : a.eval x = .pointer (some ⟨g, off, none⟩)) (r : RL) (s : S3) (HG : Lies w g off (rc r s)) : (execOp a.eval ⟨dst, .load 37 x, ty, pos, af, gd⟩).run Tryz.prog w = .ok (.value (.agg (rc r s))) w :=
  exec_load_part 37 x rfl g off hx _ HG _ Tryz.underlying37 rfl asize37
theorem stR (x y : Operand) (g : Nat) (hx : a.eval x = .pointer (some ⟨g, 0, none⟩)) (r : RL) (s : S3) (hy : a.eval y = .agg (rc r s)) (ds : Array Value) (HG : Bx w g ds 37) (hcs : ds.size = (rc r s).size) (h : wpList Tryz.prog ops Q rest (a.put dst undef) (w.setRow g (rc r s))) :
    wpList Tryz.prog ops Q (⟨dst, .store 37 x y, ty, pos, af, none⟩ :: rest) a w :=
  wpList_store_row rfl 37 x y rfl g _ hx hy 37 ds HG asize37 (hcs.trans rfl) (rc_one r s) h
end
theorem results_gr {fn : Func} {p q : Tmp} (h : fn.results = #[.cell p 27, .cell q 37]) (tmps : Array Value) (w : World) (g k : Nat) (v : Gv) (r : RL) (s : S3)
    (hp : tmps.getD p undef = .pointer (some ⟨g, 0, none⟩)) (hq : tmps.getD q undef = .pointer (some ⟨k, 0, none⟩)) (HG : Bx w g (gc v) 27) (HR : Bx w k (rc r s) 37) :
    (results fn tmps).run Tryz.prog w = .ok (.tuple #[.agg (gc v), .agg (rc r s)]) w := by
  have hp' : tmps[p]?.getD undef = .pointer (some ⟨g, 0, none⟩) := by simpa using hp
  have hq' : tmps[q]?.getD undef = .pointer (some ⟨k, 0, none⟩) := by simpa using hq
  have h1 := run_loadVar_row w g 27 27 (gc v) (0, 0) _ HG Tryz.underlying27 rfl asize27
  have h2 := run_loadVar_row w k 37 37 (rc r s) (0, 0) _ HR Tryz.underlying37 rfl asize37
  simp [results, h, hp', hq', asAddr, h1, h2]
theorem results_g {fn : Func} {p : Tmp} (h : fn.results = #[.cell p 27]) (tmps : Array Value) (w : World) (g : Nat) (v : Gv)
    (hp : tmps.getD p undef = .pointer (some ⟨g, 0, none⟩)) (HG : Bx w g (gc v) 27) :
    (results fn tmps).run Tryz.prog w = .ok (.agg (gc v)) w := by
  have hp' : tmps[p]?.getD undef = .pointer (some ⟨g, 0, none⟩) := by simpa using hp
  have h1 := run_loadVar_row w g 27 27 (gc v) (0, 0) _ HG Tryz.underlying27 rfl asize27
  simp [results, h, hp', asAddr, h1]
/-! A graph that is the call's own, a result that is. -/
section
variable {u u' : World} {B B' g : Nat} {v : Gv} {G : GL} {s : S3} {r : RL} {cs : Array Value} {t : TypeId}
theorem own_row {e sz n : Nat} {w : Value} {xs : List Value} (h : u.ownsRow B e sz w n xs) (hg : Bx u g cs t) (ht : t ≠ e) (ds : Array Value) : (u.setRow g ds).ownsRow B e sz w n xs := by
  refine ⟨h.1, ?_⟩
  rcases h.2 with h0 | ⟨k, cap, cur, hv, hB, hk, r⟩
  · exact .inl h0
  · refine .inr ⟨k, cap, cur, hv, hB, (setRow_other u g k ds fun e => ?_).trans hk, r⟩
    have hg' : u.heap[g]? = some (Obj.cells cs t (0, 0)) := hg
    rw [e, hg'] at hk
    simp only [Option.some.injEq, Obj.cells.injEq] at hk
    exact ht hk.2.1
def Apart (t : TypeId) : Prop := t ≠ 61 ∧ t ≠ 83 ∧ t ≠ 79 ∧ t ≠ 85
theorem apG : Apart 27 := ⟨by decide, by decide, by decide, by decide⟩
theorem apR : Apart 37 := ⟨by decide, by decide, by decide, by decide⟩
theorem apO : Apart 29 := ⟨by decide, by decide, by decide, by decide⟩
def Has (u : World) (B : Nat) (v : Gv) (G : GL) : Prop := ∃ L, Own u B v G L
theorem Has.row (h : Has u B v G) (hg : Bx u g cs t) (ht : Apart t) (ds : Array Value) : Has (u.setRow g ds) B v G := by
  obtain ⟨L, o⟩ := h
  exact ⟨L, own_row o.rows hg ht.1 ds, o.len, o.ids, fun i hi => own_row (o.prs i hi) hg ht.2.1 ds, own_row o.edg hg ht.2.2.1 ds, o.x, o.y⟩
theorem Has.step (h : Has u B v G) (b : Below u.heap.size u u') : Has u' B v G := h.elim fun L o => ⟨L, o.step b⟩
theorem Has.less (h : Has u B v G) (hB : B' ≤ B) : Has u B' v G := h.elim fun L o => ⟨L, o.less hB⟩
theorem Has.sees (h : Has u B v G) : Sees u u.heap.size v G := h.elim fun L o => o.sees
theorem Has.many (h : Has u B v G) : v.N.n = G.N.length := h.elim fun L o => o.many
theorem Has.none : Has u B noGv noG := ⟨[], Own.none _ _⟩
theorem Mine.has {w : World} (h : Mine w u v G) : Has u w.heap.size v G := h
structure ROwn (u : World) (B : Nat) (s : S3) (r : RL) : Prop where
  P : u.ownsRow B 83 2 (.slice s.P.A s.P.n s.P.c) s.P.n (ints (flat2 r.P))
  O : u.ownsRow B 85 2 (.slice s.O.A s.O.n s.O.c) s.O.n (ints (flat2 r.O))
  I : u.ownsRow B 85 2 (.slice s.I.A s.I.n s.I.c) s.I.n (ints (flat2 r.I))
theorem ROwn.row (h : ROwn u B s r) (hg : Bx u g cs t) (ht : Apart t) (ds : Array Value) : ROwn (u.setRow g ds) B s r := ⟨own_row h.P hg ht.2.1 ds, own_row h.O hg ht.2.2.2 ds, own_row h.I hg ht.2.2.2 ds⟩
theorem ROwn.step (h : ROwn u B s r) (b : Below u.heap.size u u') : ROwn u' B s r := ⟨own_below h.P b, own_below h.O b, own_below h.I b⟩
theorem ROwn.less (h : ROwn u B s r) (hB : B' ≤ B) : ROwn u B' s r := ⟨own_less h.P hB, own_less h.O hB, own_less h.I hB⟩
theorem ROwn.sees (h : ROwn u B s r) : RSee u u.heap.size s r := ⟨⟨own_nums h.P, own_nil_cap h.P⟩, ⟨own_nums h.O, own_nil_cap h.O⟩, ⟨own_nums h.I, own_nil_cap h.I⟩⟩
theorem ROwn.nil {er id : Int} : ROwn u B noS3 ⟨er, id, [], [], []⟩ := ⟨World.ownsRow_nil _ _ _ _, World.ownsRow_nil _ _ _ _, World.ownsRow_nil _ _ _ _⟩
end
/-- A graph and a result are told, in memory of the call's own. -/
def Tells (w : World) (R : GL) (r : RL) (e : Ending) (w' : World) : Prop :=
  ∃ v' s, e = .returned (.tuple #[.agg (gc v'), .agg (rc r s)]) ∧ Hid (Has w' w.heap.size v' R) ∧ Hid (ROwn w' w.heap.size s r) ∧ Hid (Below w.heap.size w w')

end Go.Proofs.YtiiadkjiofkonaaGreat

namespace Go.Proofs.YtiiadkjiofkonaaGreat
open Go.RowKit
set_option linter.unusedVariables false
set_option maxRecDepth 100000

set_option maxHeartbeats 2000000 in
theorem numbered_any (v : Gv) (id er : Int) (w : World) : Calls Tryz.prog 54 #[.agg (gc v), .int .i64 id, .int .i64 er] w fun e w' => e = .returned (.tuple #[.agg (gc v), .agg (rc ⟨er, id, [], [], []⟩ noS3)]) ∧ Hid (Below w.heap.size w w') := by
  obtain ⟨W, hW⟩ : ∃ W, Hid (((w.alloc (.cells (gc v) 27)).alloc (.cells (#[.slice none 0 0, .slice none 0 0, .int .i64 0, .int .i64 0]) 27)).alloc (.cells (#[.int .i64 0, .int .i64 0, .slice none 0 0, .slice none 0 0, .slice none 0 0]) 37) = W) := ⟨_, rfl⟩
  have BW : Hid (Below w.heap.size w W) := by show Below _ _ _; rw [← hW.out]; exact ((((Below.refl _ _).alloc (Nat.le_refl _) _).alloc (by simp) _).alloc (by simp; omega) _)
  have Ha : Hid (Bx W (w.heap.size) (gc v) 27) := by
    have h := (((Bx.new w (gc v) 27).alloc (.cells (#[.slice none 0 0, .slice none 0 0, .int .i64 0, .int .i64 0]) 27)).alloc (.cells (#[.int .i64 0, .int .i64 0, .slice none 0 0, .slice none 0 0, .slice none 0 0]) 37))
    show Bx _ _ _ _
    rw [← hW.out]
    simpa using h
  have Hg : Hid (Bx W (w.heap.size + 1) (#[.slice none 0 0, .slice none 0 0, .int .i64 0, .int .i64 0]) 27) := by
    have h := ((Bx.new (w.alloc (.cells (gc v) 27)) (#[.slice none 0 0, .slice none 0 0, .int .i64 0, .int .i64 0]) 27).alloc (.cells (#[.int .i64 0, .int .i64 0, .slice none 0 0, .slice none 0 0, .slice none 0 0]) 37))
    show Bx _ _ _ _
    rw [← hW.out]
    simpa using h
  have Hr : Hid (Bx W (w.heap.size + 2) (#[.int .i64 0, .int .i64 0, .slice none 0 0, .slice none 0 0, .slice none 0 0]) 37) := by
    have h := (Bx.new ((w.alloc (.cells (gc v) 27)).alloc (.cells (#[.slice none 0 0, .slice none 0 0, .int .i64 0, .int .i64 0]) 27)) (#[.int .i64 0, .int .i64 0, .slice none 0 0, .slice none 0 0, .slice none 0 0]) 37)
    show Bx _ _ _ _
    rw [← hW.out]
    simpa using h
  go_enter Tryz.func54, Tryz.ntmps54
  go_upto_region 1 with fail
  have hW' := hW.out
  rw [hW']
  clear hW hW'
  have HX := hide (Hr.out.far (k := w.heap.size + 1) (by omega) (gc v))
  go_wp2_with (first | ((with_reducible refine ldG (.tmp 3) (w.heap.size) (0) ?_ ?_ v ?_ ?_); (exact rfl); (exact rfl); (exact Ha.out.lies)) | ((with_reducible refine stG (.tmp 6) (.tmp 8) (w.heap.size + 1) ?_ v ?_ (#[.slice none 0 0, .slice none 0 0, .int .i64 0, .int .i64 0]) ?_ ?_ ?_); (exact rfl); (exact rfl); (exact Hg.out); (exact rfl)) | ((with_reducible refine stR (.tmp 7) (.tmp 11) (w.heap.size + 2) ?_ ⟨er, id, [], [], []⟩ noS3 ?_ (#[.int .i64 0, .int .i64 0, .slice none 0 0, .slice none 0 0, .slice none 0 0]) ?_ ?_ ?_); (exact rfl); (exact rfl); (exact HX.out); (exact rfl)))
  have HF := hide ((Hg.out.put (gc v)).far (k := w.heap.size + 2) (by omega) (rc ⟨er, id, [], [], []⟩ noS3))
  have HE := hide (HX.out.put (rc ⟨er, id, [], [], []⟩ noS3))
  exact bodyPost_ret (results_gr rfl _ _ (w.heap.size + 1) (w.heap.size + 2) v ⟨er, id, [], [], []⟩ noS3 rfl rfl HF.out HE.out) rfl ⟨rfl, row_below (row_below BW.out (by omega) _) (by omega) _⟩

set_option maxHeartbeats 2000000 in
theorem changed_any (v : Gv) (er : Int) (w : World) : Calls Tryz.prog 59 #[.agg (gc v), .int .i64 er] w fun e w' => e = .returned (.tuple #[.agg (gc v), .agg (rc ⟨er, 0, [], [], []⟩ noS3)]) ∧ Hid (Below w.heap.size w w') := by
  obtain ⟨W, hW⟩ : ∃ W, Hid (((w.alloc (.cells (gc v) 27)).alloc (.cells (#[.slice none 0 0, .slice none 0 0, .int .i64 0, .int .i64 0]) 27)).alloc (.cells (#[.int .i64 0, .int .i64 0, .slice none 0 0, .slice none 0 0, .slice none 0 0]) 37) = W) := ⟨_, rfl⟩
  have BW : Hid (Below w.heap.size w W) := by show Below _ _ _; rw [← hW.out]; exact ((((Below.refl _ _).alloc (Nat.le_refl _) _).alloc (by simp) _).alloc (by simp; omega) _)
  have Ha : Hid (Bx W (w.heap.size) (gc v) 27) := by
    have h := (((Bx.new w (gc v) 27).alloc (.cells (#[.slice none 0 0, .slice none 0 0, .int .i64 0, .int .i64 0]) 27)).alloc (.cells (#[.int .i64 0, .int .i64 0, .slice none 0 0, .slice none 0 0, .slice none 0 0]) 37))
    show Bx _ _ _ _
    rw [← hW.out]
    simpa using h
  have Hg : Hid (Bx W (w.heap.size + 1) (#[.slice none 0 0, .slice none 0 0, .int .i64 0, .int .i64 0]) 27) := by
    have h := ((Bx.new (w.alloc (.cells (gc v) 27)) (#[.slice none 0 0, .slice none 0 0, .int .i64 0, .int .i64 0]) 27).alloc (.cells (#[.int .i64 0, .int .i64 0, .slice none 0 0, .slice none 0 0, .slice none 0 0]) 37))
    show Bx _ _ _ _
    rw [← hW.out]
    simpa using h
  have Hr : Hid (Bx W (w.heap.size + 2) (#[.int .i64 0, .int .i64 0, .slice none 0 0, .slice none 0 0, .slice none 0 0]) 37) := by
    have h := (Bx.new ((w.alloc (.cells (gc v) 27)).alloc (.cells (#[.slice none 0 0, .slice none 0 0, .int .i64 0, .int .i64 0]) 27)) (#[.int .i64 0, .int .i64 0, .slice none 0 0, .slice none 0 0, .slice none 0 0]) 37)
    show Bx _ _ _ _
    rw [← hW.out]
    simpa using h
  go_enter Tryz.func59, Tryz.ntmps59
  go_upto_region 1 with fail
  have hW' := hW.out
  rw [hW']
  clear hW hW'
  have HX := hide (Hr.out.far (k := w.heap.size + 1) (by omega) (gc v))
  go_wp2_with (first | ((with_reducible refine ldG (.tmp 2) (w.heap.size) (0) ?_ ?_ v ?_ ?_); (exact rfl); (exact rfl); (exact Ha.out.lies)) | ((with_reducible refine stG (.tmp 4) (.tmp 6) (w.heap.size + 1) ?_ v ?_ (#[.slice none 0 0, .slice none 0 0, .int .i64 0, .int .i64 0]) ?_ ?_ ?_); (exact rfl); (exact rfl); (exact Hg.out); (exact rfl)) | ((with_reducible refine stR (.tmp 5) (.tmp 8) (w.heap.size + 2) ?_ ⟨er, 0, [], [], []⟩ noS3 ?_ (#[.int .i64 0, .int .i64 0, .slice none 0 0, .slice none 0 0, .slice none 0 0]) ?_ ?_ ?_); (exact rfl); (exact rfl); (exact HX.out); (exact rfl)))
  have HF := hide ((Hg.out.put (gc v)).far (k := w.heap.size + 2) (by omega) (rc ⟨er, 0, [], [], []⟩ noS3))
  have HE := hide (HX.out.put (rc ⟨er, 0, [], [], []⟩ noS3))
  exact bodyPost_ret (results_gr rfl _ _ (w.heap.size + 1) (w.heap.size + 2) v ⟨er, 0, [], [], []⟩ noS3 rfl rfl HF.out HE.out) rfl ⟨rfl, row_below (row_below BW.out (by omega) _) (by omega) _⟩

end Go.Proofs.YtiiadkjiofkonaaGreat

namespace Go.Proofs.YtiiadkjiofkonaaGreat
open Go.RowKit Go.Maps
set_option linter.unusedVariables false
set_option maxRecDepth 100000

/-- A value is read as itself. -/
def fnR (v : Value) : Option (DataW Value × List MemPlace) := some (.held v, [])
abbrev key (x : Int) : Lit := .int .i64 x
theorem key_ne {x y : Int} (h : x ≠ y) : key x ≠ key y := fun e => h (by simpa using e)
theorem lawI : Keyed Tryz.prog 3 := int_keyed Tryz.underlying3
theorem zeroF : ∃ z, ∀ w, (zeroValue 62).run Tryz.prog w = .ok z w := ⟨_, fun _ => rfl⟩
abbrev pt (b : Nat) : Value := .pointer (some ⟨b, 0, none⟩)
def fv (b : Nat) : Nat → Value
  | 1 => .func (.func 53) #[] #[pt b, pt (b + 1)]
  | 2 => .func (.func 56) #[] #[pt b, pt (b + 1), pt (b + 2)]
  | 3 => .func (.func 58) #[] #[pt (b + 1), pt (b + 2)]
  | 4 => .func (.func 61) #[] #[pt (b + 1), pt (b + 2)]
  | 5 => .func (.func 63) #[] #[pt (b + 1), pt (b + 2)]
  | 6 => .func (.func 65) #[] #[pt (b + 1), pt (b + 2)]
  | 7 => .func (.func 67) #[] #[pt (b + 1), pt (b + 2)]
  | 8 => .func (.func 69) #[] #[pt (b + 1), pt (b + 2)]
  | 9 => .func (.func 71) #[] #[pt (b + 1), pt (b + 2)]
  | _ => undef
def Dn (b : Nat) : Nat → DataW Value
  | 0 => .map []
  | n + 1 => (Dn b n).put (key ((n + 1 : Nat) : Int)) (.held (fv b (n + 1)))
theorem Dn_map (b : Nat) : ∀ n, IsMap (Dn b n)
  | 0 => ⟨_, rfl⟩
  | n + 1 => by obtain ⟨es, h⟩ := Dn_map b n; show IsMap ((Dn b n).put _ _); rw [h]; exact ⟨_, rfl⟩
theorem Dn_has (b : Nat) (z : DataW Value) : ∀ n i, 1 ≤ i → i ≤ n → has (Dn b n) (key (i : Int)) = true ∧ (Dn b n).atKey (key (i : Int)) z = .held (fv b i)
  | 0, i, h1, h2 => by omega
  | n + 1, i, h1, h2 => by
    by_cases e : i = n + 1
    · subst e
      exact ⟨has_put_same (Dn_map b n) (show WideAt.IsKeyLit (key _) from trivial) _, atKey_put_same (Dn_map b n) (show WideAt.IsKeyLit (key _) from trivial) _ _⟩
    · have hne : (i : Int) ≠ ((n + 1 : Nat) : Int) := by omega
      have h := Dn_has b z n i h1 (by omega)
      exact ⟨(has_put_other (key_ne hne) _).trans h.1, (atKey_put_other (key_ne hne) _ _).trans h.2⟩
theorem Dn_no (b : Nat) (x : Int) : ∀ n : Nat, (x < 1 ∨ (n : Int) < x) → has (Dn b n) (key x) = false
  | 0, h => rfl
  | n + 1, h => by
    have hne : x ≠ ((n + 1 : Nat) : Int) := by omega
    exact (has_put_other (key_ne hne) _).trans (Dn_no b x n (by omega))

/-- The boxes and the map as they stand when n functions are in. -/
structure KSt (w u : World) (c0 c1 c2 c3 c4 : Int) (v : Gv) (o : O5) (n : Nat) : Prop where
  C : Bx u w.heap.size (fc c0 c1 c2 c3 c4) 23
  G : Bx u (w.heap.size + 1) (gc v) 27
  O : Bx u (w.heap.size + 2) (oc o) 29
  bel : Below w.heap.size w u
  own : u.ownsMap Tryz.prog 3 fnR (w.heap.size + 3) n (Dn w.heap.size n)
section
variable {w u u' : World} {c0 c1 c2 c3 c4 : Int} {v : Gv} {o : O5} {n : Nat}
theorem Bx.grown {g t : Nat} {cs : Array Value} (h : Bx u g cs t) {row : Option Nat} (hg : u.grownBy u' row) (hr : some g ≠ row) : Bx u' g cs t := (hg.block g h.lt hr).trans h
theorem map_step {b n : Nat} {D : DataW Value} (h : u.ownsMap Tryz.prog 3 fnR b n D) (hb : Below u.heap.size u u') : u'.ownsMap Tryz.prog 3 fnR b n D := by
  have hlt := h.lt
  obtain ⟨es, clock, h1, r⟩ := h
  exact ⟨es, clock, (hb.block b hlt).trans h1, r⟩
theorem KSt.step (k : KSt w u c0 c1 c2 c3 c4 v o n) (hb : Below u.heap.size u u') : KSt w u' c0 c1 c2 c3 c4 v o n := ⟨k.C.step hb, k.G.step hb, k.O.step hb, k.bel.trans (hb.mono k.bel.size), map_step k.own hb⟩
theorem kst_zero : KSt w ((((w.alloc (.cells (fc c0 c1 c2 c3 c4) 23)).alloc (.cells (gc v) 27)).alloc (.cells (oc o) 29)).alloc (.map #[] 0)) c0 c1 c2 c3 c4 v o 0 := by
  have h1 := Bx.new w (fc c0 c1 c2 c3 c4) 23
  have h2 := Bx.new (w.alloc (.cells (fc c0 c1 c2 c3 c4) 23)) (gc v) 27
  have h3 := Bx.new ((w.alloc (.cells (fc c0 c1 c2 c3 c4) 23)).alloc (.cells (gc v) 27)) (oc o) 29
  have h4 := World.ownsMap_made (((w.alloc (.cells (fc c0 c1 c2 c3 c4) 23)).alloc (.cells (gc v) 27)).alloc (.cells (oc o) 29)) Tryz.prog 3 fnR
  refine ⟨((h1.alloc _).alloc _).alloc _, by simpa using (h2.alloc _).alloc _, by simpa using h3.alloc _, ?_, by rw [show ((((w.alloc (.cells (fc c0 c1 c2 c3 c4) 23)).alloc (.cells (gc v) 27)).alloc (.cells (oc o) 29)).heap.size) = w.heap.size + 3 by simp] at h4; exact h4⟩
  exact ((((Below.refl _ _).alloc (Nat.le_refl _) _).alloc (by simp) _).alloc (by simp; omega) _).alloc (by simp; omega) _
theorem ins_law {ops : Array Oper} {rest : List Oper} {a : Act} {Q : Exit → Act → World → Prop} {dst : Option Tmp} {ty : TypeId} {pos : String} {af : Array Edge} (t : TypeId) (m x y : Operand) {mv kv yv : Value} (hm : a.eval m = mv) (hx : a.eval x = kv) (hy : a.eval y = yv)
    (hrun : (Instr.mapUpdate t mv kv yv).run Tryz.prog u = .ok () u') (h : wpList Tryz.prog ops Q rest (a.put dst undef) u') : wpList Tryz.prog ops Q (⟨dst, .insert t m x y, ty, pos, af, none⟩ :: rest) a u := by
  refine wpList_plain rfl fun K' hK' => ?_
  unfold Oper.wp
  simp [execOp, hm, hx, hy, hrun, Result.andThen]
  exact hK' _ _ h
theorem insK {ops : Array Oper} {rest : List Oper} {a : Act} {Q : Exit → Act → World → Prop} {dst : Option Tmp} {ty : TypeId} {pos : String} {af : Array Edge} (m x y : Operand) (k : KSt w u c0 c1 c2 c3 c4 v o n) (hn : n < 20)
    (hm : a.eval m = .map (some (w.heap.size + 3))) (hx : a.eval x = .int .i64 ((n + 1 : Nat) : Int)) (hy : a.eval y = fv w.heap.size (n + 1))
    (hK : ∀ u', KSt w u' c0 c1 c2 c3 c4 v o (n + 1) → wpList Tryz.prog ops Q rest (a.put dst undef) u') :
    wpList Tryz.prog ops Q (⟨dst, .insert 64 m x y, ty, pos, af, none⟩ :: rest) a u := by
  have hwf : (Lit.int .i64 ((n + 1 : Nat) : Int)).wf = true := by
    have : n = 0 ∨ n = 1 ∨ n = 2 ∨ n = 3 ∨ n = 4 ∨ n = 5 ∨ n = 6 ∨ n = 7 ∨ n = 8 ∨ n = 9 ∨ n = 10 ∨ n = 11 ∨ n = 12 ∨ n = 13 ∨ n = 14 ∨ n = 15 ∨ n = 16 ∨ n = 17 ∨ n = 18 ∨ n = 19 := by omega
    rcases this with h | h | h | h | h | h | h | h | h | h | h | h | h | h | h | h | h | h | h | h <;> (rw [h]; decide)
  obtain ⟨w', hrun, r1, r2⟩ := k.own.update (t := 64) (e := 62) lawI Tryz.underlying64 (by unfold maxLen; omega) (keyOf_int_mk Tryz.underlying3 hwf) (show fnR (fv w.heap.size (n + 1)) = some (.held (fv w.heap.size (n + 1)), []) from rfl)
  have h3 : w.heap.size + 3 < u.heap.size := k.own.lt
  have ne : ∀ j, j < 3 → some (w.heap.size + j) ≠ some (w.heap.size + 3) := fun j hj e => by injection e with e; omega
  exact ins_law 64 m x y hm hx hy hrun (hK w' ⟨k.C.grown r2 (ne 0 (by omega)), k.G.grown r2 (ne 1 (by omega)), k.O.grown r2 (ne 2 (by omega)), k.bel.grown r2 k.bel.size (fun j e => by injection e with e; omega), r1⟩)
/-- What is looked up. -/
theorem look_in (k : KSt w u c0 c1 c2 c3 c4 v o 9) (i : Nat) (h1 : 1 ≤ i) (h2 : i ≤ 9) (hb : Below u.heap.size u u') : (Instr.lookup 64 (.map (some (w.heap.size + 3))) (.int .i64 (i : Int)) true).run Tryz.prog u' = .ok (.tuple #[fv w.heap.size i, .bool true]) u' := by
  have hwf : (Lit.int .i64 (i : Int)).wf = true := by
    have : i = 1 ∨ i = 2 ∨ i = 3 ∨ i = 4 ∨ i = 5 ∨ i = 6 ∨ i = 7 ∨ i = 8 ∨ i = 9 := by omega
    rcases this with h | h | h | h | h | h | h | h | h <;> (rw [h]; decide)
  obtain ⟨z, hz⟩ := zeroF
  obtain ⟨x, ps, hrun, hv⟩ := (k.step hb).own.look_ok (t := 64) (e := 62) lawI Tryz.underlying64 (hz u') (show fnR z = some (.held z, []) from rfl) (keyOf_int_mk Tryz.underlying3 hwf)
  obtain ⟨e1, e2⟩ := Dn_has w.heap.size (.held z) 9 i h1 h2
  rw [e1] at hrun
  rw [e2] at hv
  simp only [fnR, Option.some.injEq, Prod.mk.injEq, DataW.held.injEq] at hv
  rw [hrun, hv.1]
theorem look_no (k : KSt w u c0 c1 c2 c3 c4 v o 9) (x : Int) (hx : x < 1 ∨ 9 < x) (hwf : (Lit.int .i64 x).wf = true) : ∃ y, ∀ u', Below u.heap.size u u' → (Instr.lookup 64 (.map (some (w.heap.size + 3))) (.int .i64 x) true).run Tryz.prog u' = .ok (.tuple #[y, .bool false]) u' := by
  obtain ⟨z, hz⟩ := zeroF
  have e1 := Dn_no w.heap.size x 9 hx
  refine ⟨z, fun u' hb => ?_⟩
  obtain ⟨y, ps, hrun, hv⟩ := (k.step hb).own.look_ok (t := 64) (e := 62) lawI Tryz.underlying64 (hz u') (show fnR z = some (.held z, []) from rfl) (keyOf_int_mk Tryz.underlying3 hwf)
  have e2 : (Dn w.heap.size 9).atKey (key x) (.held z) = .held z := atKey_of_not_has e1 _
  rw [e1] at hrun
  rw [e2] at hv
  simp only [fnR, Option.some.injEq, Prod.mk.injEq, DataW.held.injEq] at hv
  rw [hrun, hv.1]
end

set_option maxHeartbeats 4000000 in
theorem kinds_any (c0 c1 c2 c3 c4 : Int) (v : Gv) (o : O5) (w : World) : Calls Tryz.prog 30 #[.agg (fc c0 c1 c2 c3 c4), .agg (gc v), .agg (oc o)] w fun e u => e = .returned (.map (some (w.heap.size + 3))) ∧ Hid (KSt w u c0 c1 c2 c3 c4 v o 9) := by
  have hmm := @run_makeMap Tryz.prog
  have hmf : ∀ (fn : Fn) (first cap : Array Value) (w : World), (Instr.makeFunc fn first cap).run Tryz.prog w = .ok (.func fn first cap) w := fun _ _ _ _ => rfl
  have hk := hide (kst_zero (w := w) (c0 := c0) (c1 := c1) (c2 := c2) (c3 := c3) (c4 := c4) (v := v) (o := o))
  go_enter Tryz.func30, Tryz.ntmps30
  go_wp2_with ((refine insK (.tmp 7) _ _ hk.out (by decide) ?_ ?_ ?_ ?_); (exact rfl); (exact rfl); (exact rfl); (intro u1 hk1; have hk := hide hk1; clear hk1))
  go_ret
  exact ⟨rfl, hk⟩

end Go.Proofs.YtiiadkjiofkonaaGreat

namespace Go.Proofs.YtiiadkjiofkonaaGreat
open Go.RowKit
set_option linter.unusedVariables false
set_option maxRecDepth 100000

theorem ainfoN : (Tryz.prog.info? 61).map (fun i => (i.zero, i.size, i.bytes)) = some (some (.agg #[.int .i64 0, .slice none 0 0]), 2, 32) := by kernel_rfl
/-- The nodes at s, as a list of what their cells hold. -/
theorem nodes_list {w : World} {B : Nat} {s : Sl} {N : List Nd} (p : Nodes w B s N) : ∃ L : List (Int × Sl), L.length = N.length ∧ (∀ i, i < N.length → (L.getD i (0, noSl)).1 = (N.getD i (0, [])).1 ∧ Props w B (L.getD i (0, noSl)).2 (N.getD i (0, [])).2) ∧
    ∀ ad, s.A = some ad → ∀ j u, (cellsN L)[j]? = some u → w.cell? (ad.add j) = some u := by
  obtain ⟨hl, hc, hn⟩ := p
  by_cases h0 : 0 < s.n
  · obtain ⟨b, off, e, hb, h⟩ := hn h0
    obtain ⟨h, hh⟩ : ∃ h : Nat → Sl, ∀ i, i < s.n → w.cell? ⟨b, off + i * 2 + 1, none⟩ = some (.slice (h i).A (h i).n (h i).c) ∧ Props w B (h i) (N.getD i (0, [])).2 := by
      refine ⟨fun i => if hi : i < s.n then Classical.choose (h i hi).2 else noSl, fun i hi => ?_⟩
      have e2 : (if hi : i < s.n then Classical.choose (h i hi).2 else noSl) = Classical.choose (h i hi).2 := dif_pos hi
      dsimp only
      rw [e2]
      exact Classical.choose_spec (h i hi).2
    rename_i h2
    have ge : ∀ i, i < s.n → ((List.range s.n).map fun i => ((N.getD i (0, [])).1, h i)).getD i (0, noSl) = ((N.getD i (0, [])).1, h i) := fun i hi => by simp [List.getD_eq_getElem?_getD, hi]
    refine ⟨(List.range s.n).map fun i => ((N.getD i (0, [])).1, h i), by simp [hl], fun i hi => ?_, fun ad ea j u hj => ?_⟩
    · rw [ge i (by omega)]
      exact ⟨rfl, (hh i (by omega)).2⟩
    · rw [e] at ea
      injection ea with ea
      subst ea
      have hjl : j < s.n * 2 := by
        have := (List.getElem?_eq_some_iff.1 hj).1
        rw [cellsN_len] at this
        simpa using this
      have hi : j / 2 < s.n := by omega
      have ca := cellsN_at ((List.range s.n).map fun i => ((N.getD i (0, [])).1, h i)) (j / 2) (by simpa using hi)
      rw [ge _ hi] at ca
      have hadd : (⟨b, off, none⟩ : Addr).add j = ⟨b, off + j, none⟩ := by unfold Addr.add; split <;> simp_all
      rw [hadd]
      rcases Nat.mod_two_eq_zero_or_one j with hm | hm
      · have ej : j = j / 2 * 2 := by omega
        rw [ej] at hj ⊢
        rw [ca.1] at hj
        rw [← hj]
        exact (h2 _ hi).1
      · have ej : j = j / 2 * 2 + 1 := by omega
        rw [ej] at hj ⊢
        rw [ca.2] at hj
        rw [← hj]
        exact (hh _ hi).1
  · have e0 : N = [] := List.length_eq_zero_iff.1 (by omega)
    subst e0
    exact ⟨[], rfl, (fun i hi => by simp at hi), (fun ad ea j u hj => by simp [cellsN] at hj)⟩
theorem cellsN_one (L : List (Int × Sl)) : ∀ u ∈ cellsN L, u.oneCell' = true := by
  intro u hu
  unfold cellsN at hu
  obtain ⟨p, _, hp⟩ := List.mem_flatMap.1 hu
  simp only [List.mem_cons, List.not_mem_nil, or_false] at hp
  rcases hp with rfl | rfl <;> rfl

set_option maxHeartbeats 4000000 in
theorem cloneN_any (s : Sl) (N : List Nd) (w : World) (hN : Nodes w w.heap.size s N) (hn : s.n ≤ 1000) :
    Calls Tryz.prog 74 #[.slice s.A s.n s.c] w fun e w' => ∃ (A : Option Addr) (c : Nat) (L : List (Int × Sl)), e = .returned (.slice A s.n c) ∧ Hid (w'.ownsRow w.heap.size 61 2 (.slice A s.n c) s.n (cellsN L)) ∧
      Hid (L.length = N.length ∧ ∀ i, i < N.length → (L.getD i (0, noSl)).1 = (N.getD i (0, [])).1) ∧ Hid (Below w.heap.size w w') := by
  obtain ⟨L, hl, hL, hcs⟩ := nodes_list hN
  obtain ⟨A, n, c⟩ := s
  have hm := hN.1
  have hA := hN.2.1
  have hp := hN.2.2
  dsimp only at hn hm hA hp hcs ⊢
  have HL := hide hl
  have HI : Hid (∀ i, i < N.length → (L.getD i (0, noSl)).1 = (N.getD i (0, [])).1) := fun i hi => (hL i hi).1
  have HM := hide hm
  have HC := hide hcs
  clear hN hl hL hm hcs
  obtain ⟨i0, hi0, hz0, hz1, hz2⟩ := info_parts ainfoN
  have H1 := hide hi0
  have H2 := hide hz0
  have H3 := hide hz1
  have H4 := hide hz2
  clear hi0 hz0 hz1 hz2
  have q0 : ∀ (w : World) (a : Option Addr) (n c n' c' : Nat), (binOp .eql 24 (.slice a n c) (.slice none n' c')).run Tryz.prog w = .ok (.bool a.isNone) w := fun w a n c n' c' => Lib.run_eql_slice_nil w _ _ a n c n' c' Tryz.underlying24
  rcases A with _ | ad
  · obtain rfl := hA rfl
    obtain rfl : n = 0 := by
      rcases Nat.eq_zero_or_pos n with h | h
      · exact h
      · obtain ⟨b, off, e, _⟩ := hp h
        cases e
    clear hA hp
    have h0 : L = [] := List.length_eq_zero_iff.1 (by rw [HL.out, HM.out])
    subst h0
    go_enter Tryz.func74, Tryz.ntmps74
    go_wp2
    go_ret
    exact ⟨none, 0, [], rfl, World.ownsRow_nil _ _ _ _, ⟨HL.out, HI.out⟩, Below.refl _ _⟩
  · clear hA hp
    go_enter Tryz.func74, Tryz.ntmps74
    go_wp2_with (at_builtin; refine wpList_append_own _ rfl _ _ 24 rfl w.heap.size 61 i0 (.agg #[.int .i64 0, .slice none 0 0]) 2 32 Tryz.underlying24 H1.out H2.out H3.out H4.out rfl (by decide) _ _ _ rfl (World.ownsRow_made w #[] 0 (Nat.le_refl _) (Nat.zero_le _) (by simp)) ad n c (cellsN L) rfl (by rw [cellsN_len, HL.out, HM.out]) (fun j u hj => Lib.cell?_alloc_some _ (HC.out ad rfl j u hj)) (cellsN_one L) (by simp only [maxLen]; omega) (by omega) (by simp) ?_)
    intro v' w1 hown hgrow _
    have HB := hide (((Below.refl _ w).alloc (Nat.le_refl _) _).grown hgrow (by simp) (by intro k hk; simp [Value.ownBlock] at hk; omega))
    obtain ⟨A2, c2, rfl, hA2⟩ := own_form hown
    have HO := hide hown
    clear hown hgrow
    go_wp2
    go_ret
    exact ⟨A2, c2, L, by simp, by have h := HO.out; show World.ownsRow _ _ _ _ _ _ _; simpa using h, ⟨HL.out, HI.out⟩, HB⟩

/-- The first k nodes of the copy have properties of their own. -/
structure Half (u : World) (B : Nat) (A : Option Addr) (n c : Nat) (eA : Option Addr) (en ec : Nat) (G : GL) (L : List (Int × Sl)) (k : Nat) : Prop where
  rows : u.ownsRow B 61 2 (.slice A n c) n (cellsN L)
  len : L.length = G.N.length
  ids : ∀ i, i < G.N.length → (L.getD i (0, noSl)).1 = (G.N.getD i (0, [])).1
  prs : ∀ i, i < k → u.ownsRow B 83 2 (.slice (L.getD i (0, noSl)).2.A (L.getD i (0, noSl)).2.n (L.getD i (0, noSl)).2.c) (L.getD i (0, noSl)).2.n (ints (flat2 (G.N.getD i (0, [])).2))
  edg : u.ownsRow B 79 3 (.slice eA en ec) en (ints (flat3 G.E))
section
variable {u u' : World} {B n c en ec k g n' c' : Nat} {A eA A' : Option Addr} {G : GL} {L : List (Int × Sl)}
theorem Half.step (h : Half u B A n c eA en ec G L k) (b : Below u.heap.size u u') : Half u' B A n c eA en ec G L k :=
  ⟨own_below h.rows b, h.len, h.ids, fun i hi => own_below (h.prs i hi) b, own_below h.edg b⟩
theorem Half.done (h : Half u B A n c eA en ec G L k) (hk : k = G.N.length) : Own u B ⟨⟨A, n, c⟩, ⟨eA, en, ec⟩, G.x, G.y⟩ G L :=
  ⟨h.rows, h.len, h.ids, fun i hi => h.prs i (by omega), h.edg, rfl, rfl⟩
theorem Half.at_ (h : Half u B A n c eA en ec G L k) (hn : n = G.N.length) (hk : k < n) : ∃ g, A = some ⟨g, 0, none⟩ ∧ B ≤ g ∧ g < u.heap.size ∧ (∃ cs, Bx u g cs 61) ∧ (∃ v, u.cell? ⟨g, k * 2 + 1, none⟩ = some v) ∧ u.frozen? ⟨g, k * 2 + 1, none⟩ = false := by
  rcases h.rows.2 with ⟨_, h0⟩ | ⟨g, cap, cur, hv, hB, hg, _, _, _, ht⟩
  · omega
  · have hA : A = some ⟨g, 0, none⟩ := by injection hv
    have hL : k < L.length := by rw [h.len]; omega
    obtain ⟨e1, e2⟩ := cellsN_at L k hL
    refine ⟨g, hA, hB, (Array.getElem?_eq_some_iff.1 hg).1, ⟨cur, hg⟩, ⟨(L.getD k (0, noSl)).2.val, ?_⟩, frozen_of_row _ _ _ _ 61 hg⟩
    · rw [cell_of_row u g _ cur 61 (0, 0) hg]
      have h := congrArg (fun l : List Value => l[k * 2 + 1]?) ht
      have hj : k * 2 + 1 < n * 2 := by omega
      simp only [List.getElem?_take, hj, if_true, Array.getElem?_toList] at h
      rw [h, e2]
theorem cellsN_set {i : Nat} {z : Sl} (hi : i < L.length) : (cellsN L).set (i * 2 + 1) (.slice z.A z.n z.c) = cellsN (L.set i ((L.getD i (0, noSl)).1, z)) := by
  induction L generalizing i with
  | nil => cases hi
  | cons p L ih =>
    cases i with
    | zero => simp [cellsN]
    | succ i =>
      have := ih (i := i) (by simpa using hi)
      have e : (i + 1) * 2 + 1 = (i * 2 + 1) + 2 := by omega
      rw [e]
      simpa [cellsN] using this
theorem Half.set (h : Half u B (some ⟨g, 0, none⟩) n c eA en ec G L k) (hk : k < G.N.length) (R : u.ownsRow B 83 2 (.slice A' n' c') n' (ints (flat2 (G.N.getD k (0, [])).2))) :
    Half (u.setCell ⟨g, k * 2 + 1, none⟩ (.slice A' n' c')) B (some ⟨g, 0, none⟩) n c eA en ec G (L.set k ((L.getD k (0, noSl)).1, ⟨A', n', c'⟩)) (k + 1) := by
  have hl := h.len
  obtain ⟨cur, hg⟩ : ∃ cur, u.heap[g]? = some (.cells cur 61 (0, 0)) := by
    rcases h.rows.2 with ⟨h1, _⟩ | ⟨k, cap, cur, hv, _, hk, _⟩
    · cases h1
    · injection hv with e1
      simp only [Option.some.injEq, Addr.mk.injEq, and_true] at e1
      subst e1
      exact ⟨cur, hk⟩
  have h0 := (h.rows.stored (k * 2 + 1) (.slice A' n' c')).1
  have e1 := cellsN_set (L := L) (i := k) (z := ⟨A', n', c'⟩) (by omega)
  dsimp only at e1
  rw [e1] at h0
  refine ⟨h0, by simp [hl], fun j hj => ?_, fun j hj => ?_, own_cell h.edg hg (by decide) _ _⟩
  · have := h.ids j hj
    by_cases e : j = k
    · subst e; simpa [List.getD_eq_getElem?_getD, hl, hj] using this
    · simpa [List.getD_eq_getElem?_getD, Ne.symm e] using this
  · by_cases e : j = k
    · subst e
      have a : (L.set j ((L.getD j (0, noSl)).1, (⟨A', n', c'⟩ : Sl))).getD j (0, noSl) = ((L.getD j (0, noSl)).1, ⟨A', n', c'⟩) := by simp [List.getD_eq_getElem?_getD, hl, hk]
      rw [a]
      exact own_cell R hg (by decide) _ _
    · have a : (L.set k ((L.getD k (0, noSl)).1, (⟨A', n', c'⟩ : Sl))).getD j (0, noSl) = L.getD j (0, noSl) := by simp [List.getD_eq_getElem?_getD, Ne.symm e]
      rw [a]
      exact own_cell (h.prs j (by omega)) hg (by decide) _ _
theorem bx_set {cs : Array Value} {t i : Nat} {x : Value} (h : Bx u g cs t) : Bx (u.setCell ⟨g, i, none⟩ x) g (cs.setIfInBounds i x) t := heap_setCell_same u g i cs t x h
theorem set_below {w : World} {i : Nat} {x : Value} (h : Below B w u) (hg : B ≤ g) : Below B w (u.setCell ⟨g, i, none⟩ x) := h.setCell (p := ⟨g, i, none⟩) hg x
end

set_option maxHeartbeats 8000000 in
theorem afresh_any (v : Gv) (G : GL) (w : World) (S : Sees w w.heap.size v G) (F : Few 140 G) :
    Calls Tryz.prog 31 #[.agg (gc v)] w fun e w' => ∃ v', e = .returned (.agg (gc v')) ∧ Hid (Has w' w.heap.size v' G) ∧ Hid (Below w.heap.size w w') := by
  obtain ⟨⟨nA, nn, nc⟩, ⟨eA, en, ec⟩, x, y⟩ := v
  have SB := hide S
  have HF := hide F
  have LN : Hid (G.N.length = nn) := S.nodes.1
  have LE : Hid (en = G.E.length) := edges_len S.edges
  have EX : Hid (x = G.x) := S.x
  have EY : Hid (y = G.y) := S.y
  have hnn : nn ≤ 1000 := by have := F.n; have := LN.out; omega
  have hen : en ≤ 1000 := by have := F.e; have := LE.out; omega
  clear S F
  have B0 : Hid (Bx ((w.alloc (.cells (gc ⟨⟨nA, nn, nc⟩, ⟨eA, en, ec⟩, x, y⟩) 27)).alloc (.cells (#[.slice none 0 0, .slice none 0 0, .int .i64 0, .int .i64 0]) 27)) w.heap.size (gc ⟨⟨nA, nn, nc⟩, ⟨eA, en, ec⟩, x, y⟩) 27) := (Bx.new w (gc ⟨⟨nA, nn, nc⟩, ⟨eA, en, ec⟩, x, y⟩) 27).alloc _
  have B1 : Hid (Bx ((w.alloc (.cells (gc ⟨⟨nA, nn, nc⟩, ⟨eA, en, ec⟩, x, y⟩) 27)).alloc (.cells (#[.slice none 0 0, .slice none 0 0, .int .i64 0, .int .i64 0]) 27)) (w.heap.size + 1) (#[.slice none 0 0, .slice none 0 0, .int .i64 0, .int .i64 0]) 27) := by have h := Bx.new (w.alloc (.cells (gc ⟨⟨nA, nn, nc⟩, ⟨eA, en, ec⟩, x, y⟩) 27)) (#[.slice none 0 0, .slice none 0 0, .int .i64 0, .int .i64 0]) 27; show Bx _ _ _ _; simpa using h
  have B2 : Hid (Bx (((w.alloc (.cells (gc ⟨⟨nA, nn, nc⟩, ⟨eA, en, ec⟩, x, y⟩) 27)).alloc (.cells (#[.slice none 0 0, .slice none 0 0, .int .i64 0, .int .i64 0]) 27)).alloc (.cells (#[.slice none 0 0, .slice none 0 0, .int .i64 0, .int .i64 0]) 27)) (w.heap.size + 2) (#[.slice none 0 0, .slice none 0 0, .int .i64 0, .int .i64 0]) 27) := by have h := Bx.new ((w.alloc (.cells (gc ⟨⟨nA, nn, nc⟩, ⟨eA, en, ec⟩, x, y⟩) 27)).alloc (.cells (#[.slice none 0 0, .slice none 0 0, .int .i64 0, .int .i64 0]) 27)) (#[.slice none 0 0, .slice none 0 0, .int .i64 0, .int .i64 0]) 27; show Bx _ _ _ _; simpa using h
  have BB : Hid (Below w.heap.size w (((w.alloc (.cells (gc ⟨⟨nA, nn, nc⟩, ⟨eA, en, ec⟩, x, y⟩) 27)).alloc (.cells (#[.slice none 0 0, .slice none 0 0, .int .i64 0, .int .i64 0]) 27)).alloc (.cells (#[.slice none 0 0, .slice none 0 0, .int .i64 0, .int .i64 0]) 27))) := (((Below.refl _ _).alloc (Nat.le_refl _) _).alloc (by simp) _).alloc (by simp; omega) _
  go_enter Tryz.func31, Tryz.ntmps31
  go_upto_region 2 with (first | ((with_reducible refine ldG (.tmp 1) (w.heap.size) (0) ?_ ?_ ⟨⟨nA, nn, nc⟩, ⟨eA, en, ec⟩, x, y⟩ ?_ ?_); (exact rfl); (exact rfl); (exact B0.out.lies)) | ((with_reducible refine stG (.tmp 3) (.tmp 6) (w.heap.size + 2) ?_ ⟨⟨nA, nn, nc⟩, ⟨eA, en, ec⟩, x, y⟩ ?_ (#[.slice none 0 0, .slice none 0 0, .int .i64 0, .int .i64 0]) ?_ ?_ ?_); (exact rfl); (exact rfl); (exact B2.out); (exact rfl)))
  obtain ⟨W, hW⟩ : ∃ W, Hid ((((w.alloc (.cells (gc ⟨⟨nA, nn, nc⟩, ⟨eA, en, ec⟩, x, y⟩) 27)).alloc (.cells (#[.slice none 0 0, .slice none 0 0, .int .i64 0, .int .i64 0]) 27)).alloc (.cells (#[.slice none 0 0, .slice none 0 0, .int .i64 0, .int .i64 0]) 27)).setRow (w.heap.size + 2) (gc ⟨⟨nA, nn, nc⟩, ⟨eA, en, ec⟩, x, y⟩) = W) := ⟨_, rfl⟩
  have BW : Hid (Below w.heap.size w W) := by show Below _ _ _; rw [← hW.out]; exact row_below BB.out (by omega) _
  have Ha : Hid (Bx W w.heap.size (gc ⟨⟨nA, nn, nc⟩, ⟨eA, en, ec⟩, x, y⟩) 27) := by show Bx _ _ _ _; rw [← hW.out]; exact (B0.out.alloc _).far (by omega) _
  have Hg : Hid (Bx W (w.heap.size + 1) (#[.slice none 0 0, .slice none 0 0, .int .i64 0, .int .i64 0]) 27) := by show Bx _ _ _ _; rw [← hW.out]; exact (B1.out.alloc _).far (by omega) _
  have Hd : Hid (Bx W (w.heap.size + 2) (gc ⟨⟨nA, nn, nc⟩, ⟨eA, en, ec⟩, x, y⟩) 27) := by show Bx _ _ _ _; rw [← hW.out]; exact B2.out.put _
  clear B0 B1 B2 BB
  have hW' := hW.out
  rw [hW']
  clear hW hW'
  have k1 := Ha.out.g1
  have l0 := Ha.out.lt
  have l2 := Hd.out.lt
  go_wp2_with fail
  have SW := hide (SB.out.below BW.out (Nat.le_refl _) |>.more BW.out.size)
  refine (cloneE_any eA en ec G.E W SW.out.edges SW.out.cap hen).mono ?_
  rintro e u1 ⟨fA, fn, fc', rfl, hfA, hr, hb⟩
  clear k1 l0 l2 SW
  have OE : Hid (u1.ownsRow w.heap.size 79 3 (.slice fA fn fc') fn (ints (flat3 G.E))) := own_less hr BW.out.size
  clear hr hfA
  have Ha := hide (Ha.out.step hb)
  have Hg := hide (Hg.out.step hb)
  have Hd := hide (Hd.out.step hb)
  have BW := hide (BW.out.trans (hb.mono BW.out.size))
  clear hb
  have k1 := Hd.out.g1
  have f1 := Hd.out.frozen 1
  have l2 := Hd.out.lt
  go_upto_region 3 with fail
  clear k1 f1 l2
  obtain ⟨V1, hV⟩ : ∃ V, Hid (u1.setCell ⟨w.heap.size + 2, 1, none⟩ (.slice fA fn fc') = V) := ⟨_, rfl⟩
  have BW : Hid (Below w.heap.size w V1) := by show Below _ _ _; rw [← hV.out]; exact set_below BW.out (by omega)
  have Ha : Hid (Bx V1 w.heap.size (gc ⟨⟨nA, nn, nc⟩, ⟨eA, en, ec⟩, x, y⟩) 27) := by show Bx _ _ _ _; rw [← hV.out]; exact Ha.out.other (by omega) _ _
  have Hg : Hid (Bx V1 (w.heap.size + 1) (#[.slice none 0 0, .slice none 0 0, .int .i64 0, .int .i64 0]) 27) := by show Bx _ _ _ _; rw [← hV.out]; exact Hg.out.other (by omega) _ _
  have OE : Hid (World.ownsRow V1 w.heap.size 79 3 (.slice fA fn fc') fn (ints (flat3 G.E))) := by rw [← hV.out]; exact own_cell OE.out Hd.out (by decide) _ _
  have Hd : Hid (Bx V1 (w.heap.size + 2) (gc ⟨⟨nA, nn, nc⟩, ⟨fA, fn, fc'⟩, x, y⟩) 27) := by show Bx _ _ _ _; rw [← hV.out]; exact bx_set Hd.out
  have hV' := hV.out
  rw [hV']
  clear hV hV'
  have k0 := Ha.out.g0
  have l0 := Ha.out.lt
  go_wp2_with fail
  have SW := hide (SB.out.below BW.out (Nat.le_refl _) |>.more BW.out.size)
  refine (cloneN_any ⟨nA, nn, nc⟩ G.N V1 SW.out.nodes hnn).mono ?_
  rintro e u2 ⟨oA, oc, L0, rfl, hr, hL, hb⟩
  clear k0 l0 SW
  have ON : Hid (u2.ownsRow w.heap.size 61 2 (.slice oA nn oc) nn (cellsN L0)) := own_less hr.out BW.out.size
  have OE := hide (own_below OE.out hb.out)
  clear hr
  have Ha := hide (Ha.out.step hb.out)
  have Hg := hide (Hg.out.step hb.out)
  have Hd := hide (Hd.out.step hb.out)
  have BW := hide (BW.out.trans (hb.out.mono BW.out.size))
  clear hb
  have k0 := Hd.out.g0
  have f0 := Hd.out.frozen 0
  have l2 := Hd.out.lt
  go_upto_region 4 with fail
  clear k0 f0 l2
  obtain ⟨V2, hV⟩ : ∃ V, Hid (u2.setCell ⟨w.heap.size + 2, 0, none⟩ (.slice oA nn oc) = V) := ⟨_, rfl⟩
  have BW : Hid (Below w.heap.size w V2) := by show Below _ _ _; rw [← hV.out]; exact set_below BW.out (by omega)
  have Ha : Hid (Bx V2 w.heap.size (gc ⟨⟨nA, nn, nc⟩, ⟨eA, en, ec⟩, x, y⟩) 27) := by show Bx _ _ _ _; rw [← hV.out]; exact Ha.out.other (by omega) _ _
  have Hg : Hid (Bx V2 (w.heap.size + 1) (#[.slice none 0 0, .slice none 0 0, .int .i64 0, .int .i64 0]) 27) := by show Bx _ _ _ _; rw [← hV.out]; exact Hg.out.other (by omega) _ _
  have OE : Hid (World.ownsRow V2 w.heap.size 79 3 (.slice fA fn fc') fn (ints (flat3 G.E))) := by rw [← hV.out]; exact own_cell OE.out Hd.out (by decide) _ _
  have ON : Hid (World.ownsRow V2 w.heap.size 61 2 (.slice oA nn oc) nn (cellsN L0)) := by rw [← hV.out]; exact own_cell ON.out Hd.out (by decide) _ _
  have Hd : Hid (Bx V2 (w.heap.size + 2) (gc ⟨⟨oA, nn, oc⟩, ⟨fA, fn, fc'⟩, x, y⟩) 27) := by show Bx _ _ _ _; rw [← hV.out]; exact bx_set Hd.out
  have hV' := hV.out
  rw [hV']
  clear hV hV'
  have HH : Hid (Half V2 w.heap.size oA nn oc fA fn fc' G L0 0) := ⟨ON.out, hL.out.1, hL.out.2, fun i hi => by omega, OE.out⟩
  clear ON OE hL
  have k0 := Ha.out.g0
  have l0 := Ha.out.lt
  go_wp2_with fail
  go_loopw [18] (fun i wr => ∃ (k : Nat) (L : List (Int × Sl)), k ≤ nn ∧ i = .int .i64 k ∧ Hid (Bx wr w.heap.size (gc ⟨⟨nA, nn, nc⟩, ⟨eA, en, ec⟩, x, y⟩) 27) ∧ Hid (Bx wr (w.heap.size + 1) (#[.slice none 0 0, .slice none 0 0, .int .i64 0, .int .i64 0]) 27) ∧ Hid (Bx wr (w.heap.size + 2) (gc ⟨⟨oA, nn, oc⟩, ⟨fA, fn, fc'⟩, x, y⟩) 27) ∧ Hid (Half wr w.heap.size oA nn oc fA fn fc' G L k) ∧ Hid (Below w.heap.size w wr)) (fun i _ => nn - (intOf i).toNat)
  case atStart => exact ⟨0, L0, by omega, rfl, Ha, Hg, Hd, HH, BW⟩
  case round =>
    clear Ha Hg Hd HH BW k0 l0
    obtain ⟨k, L, hk, rfl, Ha, Hg, Hd, HH, BW⟩ := hrel
    by_cases hlt : k < nn
    · obtain ⟨b0, off, e0, hb0, d0, ⟨hA, hh, hcc⟩, d1, hP⟩ := (SB.out.below BW.out (Nat.le_refl _)).nodes.at_ (k := k) hlt
      dsimp only at e0 d0 d1
      subst e0
      have HPR := hide (hP.more BW.out.size)
      have hhb : hh ≤ 1000 := by have h1 := hP.len; have h2 := HF.out.prs k; have h3 : (prsAt G k).length = (G.N.getD k (0, [])).2.length := rfl; dsimp only at h1; omega
      have hb1 := Nat.lt_of_lt_of_le hb0 BW.out.size
      obtain ⟨z, hz⟩ : ∃ z, Hid ((G.N.getD k (0, [])).1 = z) := ⟨_, rfl⟩
      obtain ⟨l, hl⟩ : ∃ l, Hid ((G.N.getD k (0, [])).2 = l) := ⟨_, rfl⟩
      rw [hz.out] at d0
      rw [hl.out] at HPR
      obtain ⟨gN, eN, hN1, hN2, ⟨csN, BN0⟩, -, -⟩ := HH.out.at_ LN.out.symm hlt
      subst eN
      have HgN := hide hN1
      have HN2 := hide hN2
      have ip : (0 : Int) ≤ (k : Int) := by omega
      have jp : (k : Int) < (nn : Int) := by omega
      clear hP hz hN1 hN2 BN0
      go_upto_region 7 with fail
      clear d0 d1 hb1 hb0
      obtain ⟨U, hU⟩ : ∃ U, Hid (wr.alloc (.cells #[.int .i64 z, .slice hA hh hcc] 61) = U) := ⟨_, rfl⟩
      obtain ⟨g5, hg5⟩ : ∃ g, Hid (wr.heap.size = g) := ⟨_, rfl⟩
      have BU : Hid (Below wr.heap.size wr U) := by show Below _ _ _; rw [← hU.out]; exact (Below.refl _ _).alloc (Nat.le_refl _) _
      have H5 : Hid (Bx U g5 #[.int .i64 z, .slice hA hh hcc] 61) := by show Bx _ _ _ _; rw [← hU.out, ← hg5.out]; exact Bx.new wr _ 61
      have hne : gN ≠ g5 := by have := HN2.out; rw [← hg5.out]; omega
      clear HN2
      have hV' := hU.out
      have hg' := hg5.out
      rw [hV', hg']
      clear hU hg5 hV' hg'
      have Ha := hide (Ha.out.step BU.out)
      have Hg := hide (Hg.out.step BU.out)
      have Hd := hide (Hd.out.step BU.out)
      have HH := hide (HH.out.step BU.out)
      have BW := hide (BW.out.trans (BU.out.mono BW.out.size))
      have HPR := hide (⟨HPR.out.1.below BU.out (Nat.le_refl _) |>.more BU.out.size, HPR.out.2⟩ : Props U U.heap.size ⟨hA, hh, hcc⟩ l)
      clear BU
      have D0 := hide ((Below.refl U.heap.size U).drew)
      refine wp_region_held_drew (S := fun u => Bx u g5 #[.int .i64 z, .slice hA hh hcc] 61 ∧ Bx u (w.heap.size + 2) (gc ⟨⟨some ⟨gN, 0, none⟩, nn, oc⟩, ⟨fA, fn, fc'⟩, x, y⟩) 27) (by kernel_rfl) ⟨H5.out.step D0.out, Hd.out.step D0.out⟩ (fun hS => ?_)
      refine wpAnyH_take (i := 0) (v := .pointer (some ⟨w.heap.size + 2, 0, none⟩)) rfl (by kernel_rfl) (by kernel_rfl) (by kernel_rfl) (fun _ _ _ h => h) (Or.inl ⟨by kernel_rfl, by intro u hu; go_simp⟩) hS ?_
      refine wpAnyH_take (i := 1) (v := .slice (some ⟨gN, 0, none⟩) nn oc) rfl (by kernel_rfl) (by kernel_rfl) (by kernel_rfl) (fun _ _ _ h => h) (Or.inl ⟨by kernel_rfl, by intro u hu; have c0 : u.cell? ⟨w.heap.size + 2, 0, none⟩ = some (.slice (some ⟨gN, 0, none⟩) nn oc) := hu.2.g0; go_simp⟩) hS ?_
      refine wpAnyH_take (i := 2) (v := .int .i64 k) rfl (by kernel_rfl) (by kernel_rfl) (by kernel_rfl) (fun _ _ _ h => h) (Or.inl ⟨by kernel_rfl, by intro u hu; go_simp⟩) hS ?_
      refine wpAnyH_take (i := 3) (v := .pointer (some ⟨g5, 1, none⟩)) rfl (by kernel_rfl) (by kernel_rfl) (by kernel_rfl) (fun _ _ _ h => h) (Or.inl ⟨by kernel_rfl, by intro u hu; go_simp⟩) hS ?_
      refine wpAnyH_take (i := 4) (v := .slice hA hh hcc) rfl (by kernel_rfl) (by kernel_rfl) (by kernel_rfl) (fun _ _ _ h => h) (Or.inl ⟨by kernel_rfl, by intro u hu; have c0 : u.cell? ⟨g5, 1, none⟩ = some (.slice hA hh hcc) := hu.1.cells 1; go_simp⟩) hS ?_
      refine wpAnyH_ready (rs := [5]) (by kernel_rfl) (by simp) ?_
      refine AllReadyH.cons rfl (fun K hK => ?_) AllReadyH.nil
      go_simp
      refine (cloneP_any hA hh hcc l U.drew (HPR.out.1.below D0.out (Nat.le_refl _)) HPR.out.2 hhb).mono ?_
      rintro e u4 ⟨A4, n4, c4, rfl, hA4, hr4, hu4⟩
      have R4 : Hid (u4.ownsRow w.heap.size 83 2 (.slice A4 n4 c4) n4 (ints (flat2 l))) := own_less hr4 BW.out.size
      have B4 : Hid (Below U.heap.size U u4) := D0.out.trans hu4
      refine hK.out _ _ ⟨hS.1.step hu4, hS.2.step hu4⟩ (fun hS1 => ?_)
      clear hK K hr4 hu4 hA4
      have Ha := hide (Ha.out.step B4.out)
      have Hg := hide (Hg.out.step B4.out)
      have Hd := hide (Hd.out.step B4.out)
      have HH := hide (HH.out.step B4.out)
      have BW := hide (BW.out.trans (B4.out.mono BW.out.size))
      refine wpAnyH_take (i := 6) (v := .pointer (some ⟨gN, k * 2, none⟩)) rfl (by kernel_rfl) (by kernel_rfl) (by kernel_rfl) (fun _ _ _ h => h) (Or.inl ⟨by kernel_rfl, by intro u hu; go_simp⟩) hS1 ?_
      refine wpAnyH_take (i := 7) (v := .pointer (some ⟨gN, k * 2 + 1, none⟩)) rfl (by kernel_rfl) (by kernel_rfl) (by kernel_rfl) (fun _ _ _ h => h) (Or.inl ⟨by kernel_rfl, by intro u hu; go_simp⟩) hS1 ?_
      have HS4 := hide (HH.out.set (by have := LN.out; omega) (by rw [hl.out]; exact R4.out))
      obtain ⟨g', e', hN1, hN2, ⟨csN, BN⟩, ⟨vN, cN⟩, fN⟩ := HH.out.at_ LN.out.symm hlt
      simp only [Option.some.injEq, Addr.mk.injEq, and_true] at e'
      subst e'
      have BNN := hide BN
      clear BN
      have n1 : w.heap.size + 2 ≠ gN := fun e => by have h := BNN.out; rw [← e] at h; have h2 := Hd.out.symm.trans h; simp only [Option.some.injEq, Obj.cells.injEq] at h2; exact absurd h2.2.1 (by decide)
      have n2 : w.heap.size + 1 ≠ gN := fun e => by have h := BNN.out; rw [← e] at h; have h2 := Hg.out.symm.trans h; simp only [Option.some.injEq, Obj.cells.injEq] at h2; exact absurd h2.2.1 (by decide)
      have n3 : w.heap.size ≠ gN := fun e => by have h := BNN.out; rw [← e] at h; have h2 := Ha.out.symm.trans h; simp only [Option.some.injEq, Obj.cells.injEq] at h2; exact absurd h2.2.1 (by decide)
      refine wpAnyH_ready (rs := [8]) (by kernel_rfl) (by simp) ?_
      refine AllReadyH.cons rfl (fun K hK => ?_) AllReadyH.nil
      go_simp
      refine hK.out _ _ ⟨hS1.1.other (Ne.symm hne) _ _, hS1.2.other n1 _ _⟩ (fun _ => ?_)
      clear hK K
      refine wpAnyH_done (by kernel_rfl) ?_ _
      have Ea := hide (Ha.out.other n3 (k * 2 + 1) (.slice A4 n4 c4))
      have Eg := hide (Hg.out.other n2 (k * 2 + 1) (.slice A4 n4 c4))
      have Ed := hide (Hd.out.other n1 (k * 2 + 1) (.slice A4 n4 c4))
      have EB : Hid (Below w.heap.size w (u4.setCell ⟨gN, k * 2 + 1, none⟩ (.slice A4 n4 c4))) := set_below BW.out HgN.out
      clear hne n1 n2 n3 cN fN hN1 hN2 hS1 BNN Ha Hg Hd BW HH R4 B4 H5 D0
      go_wp2
      go_roundw
      case rel => exact ⟨k + 1, _, by omega, by go_num, Ea, Eg, Ed, HS4, EB⟩
      case measure => simp [intOf]; omega
    · obtain rfl : k = nn := by omega
      go_wp2_with (first | ((with_reducible refine ldG (.tmp 3) (w.heap.size + 2) (0) ?_ ?_ ⟨⟨oA, k, oc⟩, ⟨fA, fn, fc'⟩, x, y⟩ ?_ ?_); (exact rfl); (exact rfl); (exact Hd.out.lies)) | ((with_reducible refine stG (.tmp 2) (.tmp 32) (w.heap.size + 1) ?_ ⟨⟨oA, k, oc⟩, ⟨fA, fn, fc'⟩, x, y⟩ ?_ (#[.slice none 0 0, .slice none 0 0, .int .i64 0, .int .i64 0]) ?_ ?_ ?_); (exact rfl); (exact rfl); (exact Hg.out); (exact rfl)))
      have OO : Hid (Own wr w.heap.size ⟨⟨oA, k, oc⟩, ⟨fA, fn, fc'⟩, x, y⟩ G L) := by have h := HH.out.done LN.out.symm; rw [← EX.out, ← EY.out] at h; exact h
      exact bodyPost_ret (results_g rfl _ _ (w.heap.size + 1) ⟨⟨oA, k, oc⟩, ⟨fA, fn, fc'⟩, x, y⟩ rfl (Hg.out.put _)) rfl ⟨⟨⟨oA, k, oc⟩, ⟨fA, fn, fc'⟩, x, y⟩, rfl, Has.row ⟨L, OO.out⟩ Hg.out apG _, row_below BW.out (by omega) _⟩

end Go.Proofs.YtiiadkjiofkonaaGreat

namespace Go.Proofs.YtiiadkjiofkonaaGreat
open Go.RowKit
set_option linter.unusedVariables false
set_option maxRecDepth 100000

set_option maxHeartbeats 4000000 in
theorem kind1_any (gC : Nat) (gG : Nat) (c0 c1 c2 c3 c4 : Int) (v : Gv) (G : GL) (o : O5) (w : World) (hC : Bx w gC (fc c0 c1 c2 c3 c4) 23) (hG : Bx w gG (gc v) 27) (S : Sees w w.heap.size v G) (F : Few 140 G) (hk : o.k = 1) :
    Calls Tryz.prog 53 #[.pointer (some ⟨gC, 0, none⟩), .pointer (some ⟨gG, 0, none⟩)] w (Tells w (inR c3 c4 G o).1 (inR c3 c4 G o).2) := by
  obtain ⟨id, er, R, hr⟩ : ∃ id er R, Hid (addR c3 G = (id, er, R)) := ⟨_, _, _, rfl⟩
  have e0 : inR c3 c4 G o = (R, ⟨er, id, [], [], []⟩) := by unfold inR; simp [hk, hr.out]
  rw [e0]
  clear e0 hk
  have HS := hide (F.small (by decide))
  have HF := hide F
  have SW := hide S
  clear F S
  have HC := hide hC
  clear hC
  have HG := hide hG
  clear hG
  obtain ⟨W, hW⟩ : ∃ W, Hid ((w.alloc (.cells (#[.slice none 0 0, .slice none 0 0, .int .i64 0, .int .i64 0]) 27)).alloc (.cells (#[.int .i64 0, .int .i64 0, .slice none 0 0, .slice none 0 0, .slice none 0 0]) 37) = W) := ⟨_, rfl⟩
  have BW : Hid (Below w.heap.size w W) := by show Below _ _ _; rw [← hW.out]; exact (((Below.refl _ _).alloc (Nat.le_refl _) _).alloc (by simp) _)
  have Hg : Hid (Bx W (w.heap.size) (#[.slice none 0 0, .slice none 0 0, .int .i64 0, .int .i64 0]) 27) := by
    have h := ((Bx.new w (#[.slice none 0 0, .slice none 0 0, .int .i64 0, .int .i64 0]) 27).alloc (.cells (#[.int .i64 0, .int .i64 0, .slice none 0 0, .slice none 0 0, .slice none 0 0]) 37))
    show Bx _ _ _ _
    rw [← hW.out]
    simpa using h
  have Hr : Hid (Bx W (w.heap.size + 1) (#[.int .i64 0, .int .i64 0, .slice none 0 0, .slice none 0 0, .slice none 0 0]) 37) := by
    have h := (Bx.new (w.alloc (.cells (#[.slice none 0 0, .slice none 0 0, .int .i64 0, .int .i64 0]) 27)) (#[.int .i64 0, .int .i64 0, .slice none 0 0, .slice none 0 0, .slice none 0 0]) 37)
    show Bx _ _ _ _
    rw [← hW.out]
    simpa using h
  have HC := hide (HC.out.step BW.out)
  have HG := hide (HG.out.step BW.out)
  have SW := hide (SW.out.step BW.out)
  go_enter Tryz.func53, Tryz.ntmps53
  go_upto_region 1 with fail
  have hW' := hW.out
  rw [hW']
  clear hW hW'
  go_wp2_with (first | ((with_reducible refine ldC (.tmp 0) (gC) (0) ?_ ?_ c0 c1 c2 c3 c4 ?_ ?_); (exact rfl); (exact rfl); (exact HC.out.lies)) | ((with_reducible refine ldG (.tmp 1) (gG) (0) ?_ ?_ v ?_ ?_); (exact rfl); (exact rfl); (exact HG.out.lies)))
  refine (add_any c0 c1 c2 c3 c4 v G R id er W SW.out HS.out hr).mono ?_
  rintro e u1 ⟨v', rfl, hm, hb⟩
  have OG : Hid (Has u1 w.heap.size v' R) := Has.less hm.out BW.out.size
  clear hm
  have Hg := hide (Hg.out.step hb.out)
  have Hr := hide (Hr.out.step hb.out)
  have HC := hide (HC.out.step hb.out)
  have HG := hide (HG.out.step hb.out)
  have SW := hide (SW.out.step hb.out)
  have BW := hide (BW.out.trans (hb.out.mono BW.out.size))
  clear hb
  go_wp2_with fail
  refine (numbered_any v' id er u1).mono ?_
  rintro e u2 ⟨rfl, hb⟩
  have Hg := hide (Hg.out.step hb.out)
  have Hr := hide (Hr.out.step hb.out)
  have HC := hide (HC.out.step hb.out)
  have HG := hide (HG.out.step hb.out)
  have SW := hide (SW.out.step hb.out)
  have OG := hide (OG.out.step hb.out)
  have BW := hide (BW.out.trans (hb.out.mono BW.out.size))
  clear hb
  have HX := hide (Hr.out.far (k := w.heap.size) (by omega) (gc v'))
  go_wp2_with (first | ((with_reducible refine stG (.tmp 2) (.tmp 11) (w.heap.size) ?_ v' ?_ (#[.slice none 0 0, .slice none 0 0, .int .i64 0, .int .i64 0]) ?_ ?_ ?_); (exact rfl); (exact rfl); (exact Hg.out); (exact rfl)) | ((with_reducible refine stR (.tmp 3) (.tmp 12) (w.heap.size + 1) ?_ ⟨er, id, [], [], []⟩ noS3 ?_ (#[.int .i64 0, .int .i64 0, .slice none 0 0, .slice none 0 0, .slice none 0 0]) ?_ ?_ ?_); (exact rfl); (exact rfl); (exact HX.out); (exact rfl)))
  have F1 := hide ((Hg.out.put (gc v')).far (k := w.heap.size + 1) (by omega) (rc ⟨er, id, [], [], []⟩ noS3))
  have F2 := hide (HX.out.put (rc ⟨er, id, [], [], []⟩ noS3))
  exact bodyPost_ret (results_gr rfl _ _ (w.heap.size) (w.heap.size + 1) v' ⟨er, id, [], [], []⟩ noS3 rfl rfl F1.out F2.out) rfl ⟨v', noS3, rfl, (OG.out.row Hg.out apG _).row HX.out apR _, (ROwn.nil), row_below (row_below BW.out (by omega) _) (by omega) _⟩

set_option maxHeartbeats 4000000 in
theorem kind2_any (gC : Nat) (gG : Nat) (gO : Nat) (c0 c1 c2 c3 c4 : Int) (v : Gv) (G : GL) (o : O5) (w : World) (hC : Bx w gC (fc c0 c1 c2 c3 c4) 23) (hG : Bx w gG (gc v) 27) (hO : Bx w gO (oc o) 29) (S : Sees w w.heap.size v G) (F : Few 140 G) (hk : o.k = 2) :
    Calls Tryz.prog 56 #[.pointer (some ⟨gC, 0, none⟩), .pointer (some ⟨gG, 0, none⟩), .pointer (some ⟨gO, 0, none⟩)] w (Tells w (inR c3 c4 G o).1 (inR c3 c4 G o).2) := by
  obtain ⟨id, er, R, hr⟩ : ∃ id er R, Hid (linkR c4 G o.a o.b = (id, er, R)) := ⟨_, _, _, rfl⟩
  have e0 : inR c3 c4 G o = (R, ⟨er, id, [], [], []⟩) := by unfold inR; simp [hk, hr.out]
  rw [e0]
  clear e0 hk
  have HS := hide (F.small (by decide))
  have HF := hide F
  have SW := hide S
  clear F S
  have HC := hide hC
  clear hC
  have HG := hide hG
  clear hG
  have HO := hide hO
  clear hO
  obtain ⟨W, hW⟩ : ∃ W, Hid ((w.alloc (.cells (#[.slice none 0 0, .slice none 0 0, .int .i64 0, .int .i64 0]) 27)).alloc (.cells (#[.int .i64 0, .int .i64 0, .slice none 0 0, .slice none 0 0, .slice none 0 0]) 37) = W) := ⟨_, rfl⟩
  have BW : Hid (Below w.heap.size w W) := by show Below _ _ _; rw [← hW.out]; exact (((Below.refl _ _).alloc (Nat.le_refl _) _).alloc (by simp) _)
  have Hg : Hid (Bx W (w.heap.size) (#[.slice none 0 0, .slice none 0 0, .int .i64 0, .int .i64 0]) 27) := by
    have h := ((Bx.new w (#[.slice none 0 0, .slice none 0 0, .int .i64 0, .int .i64 0]) 27).alloc (.cells (#[.int .i64 0, .int .i64 0, .slice none 0 0, .slice none 0 0, .slice none 0 0]) 37))
    show Bx _ _ _ _
    rw [← hW.out]
    simpa using h
  have Hr : Hid (Bx W (w.heap.size + 1) (#[.int .i64 0, .int .i64 0, .slice none 0 0, .slice none 0 0, .slice none 0 0]) 37) := by
    have h := (Bx.new (w.alloc (.cells (#[.slice none 0 0, .slice none 0 0, .int .i64 0, .int .i64 0]) 27)) (#[.int .i64 0, .int .i64 0, .slice none 0 0, .slice none 0 0, .slice none 0 0]) 37)
    show Bx _ _ _ _
    rw [← hW.out]
    simpa using h
  have HC := hide (HC.out.step BW.out)
  have HG := hide (HG.out.step BW.out)
  have HO := hide (HO.out.step BW.out)
  have SW := hide (SW.out.step BW.out)
  go_enter Tryz.func56, Tryz.ntmps56
  go_upto_region 1 with fail
  have hW' := hW.out
  rw [hW']
  clear hW hW'
  have k1 := HO.out.o1
  have k2 := HO.out.o2
  have l0 := HO.out.lt
  go_wp2_with (first | ((with_reducible refine ldC (.tmp 0) (gC) (0) ?_ ?_ c0 c1 c2 c3 c4 ?_ ?_); (exact rfl); (exact rfl); (exact HC.out.lies)) | ((with_reducible refine ldG (.tmp 1) (gG) (0) ?_ ?_ v ?_ ?_); (exact rfl); (exact rfl); (exact HG.out.lies)))
  refine (link_any c0 c1 c2 c3 c4 v G R o.a o.b id er W SW.out HS.out hr).mono ?_
  rintro e u1 ⟨v', rfl, hm, hb⟩
  have OG : Hid (Has u1 w.heap.size v' R) := Has.less hm.out BW.out.size
  clear hm
  clear k1 k2 l0
  have Hg := hide (Hg.out.step hb.out)
  have Hr := hide (Hr.out.step hb.out)
  have HC := hide (HC.out.step hb.out)
  have HG := hide (HG.out.step hb.out)
  have HO := hide (HO.out.step hb.out)
  have SW := hide (SW.out.step hb.out)
  have BW := hide (BW.out.trans (hb.out.mono BW.out.size))
  clear hb
  go_wp2_with fail
  refine (numbered_any v' id er u1).mono ?_
  rintro e u2 ⟨rfl, hb⟩
  have Hg := hide (Hg.out.step hb.out)
  have Hr := hide (Hr.out.step hb.out)
  have HC := hide (HC.out.step hb.out)
  have HG := hide (HG.out.step hb.out)
  have HO := hide (HO.out.step hb.out)
  have SW := hide (SW.out.step hb.out)
  have OG := hide (OG.out.step hb.out)
  have BW := hide (BW.out.trans (hb.out.mono BW.out.size))
  clear hb
  have HX := hide (Hr.out.far (k := w.heap.size) (by omega) (gc v'))
  go_wp2_with (first | ((with_reducible refine stG (.tmp 3) (.tmp 16) (w.heap.size) ?_ v' ?_ (#[.slice none 0 0, .slice none 0 0, .int .i64 0, .int .i64 0]) ?_ ?_ ?_); (exact rfl); (exact rfl); (exact Hg.out); (exact rfl)) | ((with_reducible refine stR (.tmp 4) (.tmp 17) (w.heap.size + 1) ?_ ⟨er, id, [], [], []⟩ noS3 ?_ (#[.int .i64 0, .int .i64 0, .slice none 0 0, .slice none 0 0, .slice none 0 0]) ?_ ?_ ?_); (exact rfl); (exact rfl); (exact HX.out); (exact rfl)))
  have F1 := hide ((Hg.out.put (gc v')).far (k := w.heap.size + 1) (by omega) (rc ⟨er, id, [], [], []⟩ noS3))
  have F2 := hide (HX.out.put (rc ⟨er, id, [], [], []⟩ noS3))
  exact bodyPost_ret (results_gr rfl _ _ (w.heap.size) (w.heap.size + 1) v' ⟨er, id, [], [], []⟩ noS3 rfl rfl F1.out F2.out) rfl ⟨v', noS3, rfl, (OG.out.row Hg.out apG _).row HX.out apR _, (ROwn.nil), row_below (row_below BW.out (by omega) _) (by omega) _⟩

set_option maxHeartbeats 4000000 in
theorem kind3_any (gG : Nat) (gO : Nat) (c0 c1 c2 c3 c4 : Int) (v : Gv) (G : GL) (o : O5) (w : World) (hG : Bx w gG (gc v) 27) (hO : Bx w gO (oc o) 29) (S : Sees w w.heap.size v G) (F : Few 140 G) (hk : o.k = 3) :
    Calls Tryz.prog 58 #[.pointer (some ⟨gG, 0, none⟩), .pointer (some ⟨gO, 0, none⟩)] w (Tells w (inR c3 c4 G o).1 (inR c3 c4 G o).2) := by
  obtain ⟨er, R, hr⟩ : ∃ er R, Hid (cutR G o.a = (er, R)) := ⟨_, _, rfl⟩
  have e0 : inR c3 c4 G o = (R, ⟨er, 0, [], [], []⟩) := by unfold inR; simp [hk, hr.out]
  rw [e0]
  clear e0 hk
  have HS := hide (F.small (by decide))
  have HF := hide F
  have SW := hide S
  clear F S
  have HG := hide hG
  clear hG
  have HO := hide hO
  clear hO
  obtain ⟨W, hW⟩ : ∃ W, Hid ((w.alloc (.cells (#[.slice none 0 0, .slice none 0 0, .int .i64 0, .int .i64 0]) 27)).alloc (.cells (#[.int .i64 0, .int .i64 0, .slice none 0 0, .slice none 0 0, .slice none 0 0]) 37) = W) := ⟨_, rfl⟩
  have BW : Hid (Below w.heap.size w W) := by show Below _ _ _; rw [← hW.out]; exact (((Below.refl _ _).alloc (Nat.le_refl _) _).alloc (by simp) _)
  have Hg : Hid (Bx W (w.heap.size) (#[.slice none 0 0, .slice none 0 0, .int .i64 0, .int .i64 0]) 27) := by
    have h := ((Bx.new w (#[.slice none 0 0, .slice none 0 0, .int .i64 0, .int .i64 0]) 27).alloc (.cells (#[.int .i64 0, .int .i64 0, .slice none 0 0, .slice none 0 0, .slice none 0 0]) 37))
    show Bx _ _ _ _
    rw [← hW.out]
    simpa using h
  have Hr : Hid (Bx W (w.heap.size + 1) (#[.int .i64 0, .int .i64 0, .slice none 0 0, .slice none 0 0, .slice none 0 0]) 37) := by
    have h := (Bx.new (w.alloc (.cells (#[.slice none 0 0, .slice none 0 0, .int .i64 0, .int .i64 0]) 27)) (#[.int .i64 0, .int .i64 0, .slice none 0 0, .slice none 0 0, .slice none 0 0]) 37)
    show Bx _ _ _ _
    rw [← hW.out]
    simpa using h
  have HG := hide (HG.out.step BW.out)
  have HO := hide (HO.out.step BW.out)
  have SW := hide (SW.out.step BW.out)
  go_enter Tryz.func58, Tryz.ntmps58
  go_upto_region 1 with fail
  have hW' := hW.out
  rw [hW']
  clear hW hW'
  have k1 := HO.out.o1
  have l0 := HO.out.lt
  go_wp2_with (first | ((with_reducible refine ldG (.tmp 0) (gG) (0) ?_ ?_ v ?_ ?_); (exact rfl); (exact rfl); (exact HG.out.lies)))
  refine (cut_any v G R o.a er W SW.out HS.out hr).mono ?_
  rintro e u1 ⟨v', rfl, hm, hb⟩
  have OG : Hid (Has u1 w.heap.size v' R) := Has.less hm.out BW.out.size
  clear hm
  clear k1 l0
  have Hg := hide (Hg.out.step hb.out)
  have Hr := hide (Hr.out.step hb.out)
  have HG := hide (HG.out.step hb.out)
  have HO := hide (HO.out.step hb.out)
  have SW := hide (SW.out.step hb.out)
  have BW := hide (BW.out.trans (hb.out.mono BW.out.size))
  clear hb
  go_wp2_with fail
  refine (changed_any v' er u1).mono ?_
  rintro e u2 ⟨rfl, hb⟩
  have Hg := hide (Hg.out.step hb.out)
  have Hr := hide (Hr.out.step hb.out)
  have HG := hide (HG.out.step hb.out)
  have HO := hide (HO.out.step hb.out)
  have SW := hide (SW.out.step hb.out)
  have OG := hide (OG.out.step hb.out)
  have BW := hide (BW.out.trans (hb.out.mono BW.out.size))
  clear hb
  have HX := hide (Hr.out.far (k := w.heap.size) (by omega) (gc v'))
  go_wp2_with (first | ((with_reducible refine stG (.tmp 2) (.tmp 11) (w.heap.size) ?_ v' ?_ (#[.slice none 0 0, .slice none 0 0, .int .i64 0, .int .i64 0]) ?_ ?_ ?_); (exact rfl); (exact rfl); (exact Hg.out); (exact rfl)) | ((with_reducible refine stR (.tmp 3) (.tmp 12) (w.heap.size + 1) ?_ ⟨er, 0, [], [], []⟩ noS3 ?_ (#[.int .i64 0, .int .i64 0, .slice none 0 0, .slice none 0 0, .slice none 0 0]) ?_ ?_ ?_); (exact rfl); (exact rfl); (exact HX.out); (exact rfl)))
  have F1 := hide ((Hg.out.put (gc v')).far (k := w.heap.size + 1) (by omega) (rc ⟨er, 0, [], [], []⟩ noS3))
  have F2 := hide (HX.out.put (rc ⟨er, 0, [], [], []⟩ noS3))
  exact bodyPost_ret (results_gr rfl _ _ (w.heap.size) (w.heap.size + 1) v' ⟨er, 0, [], [], []⟩ noS3 rfl rfl F1.out F2.out) rfl ⟨v', noS3, rfl, (OG.out.row Hg.out apG _).row HX.out apR _, (ROwn.nil), row_below (row_below BW.out (by omega) _) (by omega) _⟩

set_option maxHeartbeats 4000000 in
theorem kind4_any (gG : Nat) (gO : Nat) (c0 c1 c2 c3 c4 : Int) (v : Gv) (G : GL) (o : O5) (w : World) (hG : Bx w gG (gc v) 27) (hO : Bx w gO (oc o) 29) (S : Sees w w.heap.size v G) (F : Few 140 G) (hk : o.k = 4) :
    Calls Tryz.prog 61 #[.pointer (some ⟨gG, 0, none⟩), .pointer (some ⟨gO, 0, none⟩)] w (Tells w (inR c3 c4 G o).1 (inR c3 c4 G o).2) := by
  obtain ⟨er, R, hr⟩ : ∃ er R, Hid (setR G o.a o.q o.v = (er, R)) := ⟨_, _, rfl⟩
  have e0 : inR c3 c4 G o = (R, ⟨er, 0, [], [], []⟩) := by unfold inR; simp [hk, hr.out]
  rw [e0]
  clear e0 hk
  have HS := hide (F.small (by decide))
  have HF := hide F
  have SW := hide S
  clear F S
  have HG := hide hG
  clear hG
  have HO := hide hO
  clear hO
  obtain ⟨W, hW⟩ : ∃ W, Hid ((w.alloc (.cells (#[.slice none 0 0, .slice none 0 0, .int .i64 0, .int .i64 0]) 27)).alloc (.cells (#[.int .i64 0, .int .i64 0, .slice none 0 0, .slice none 0 0, .slice none 0 0]) 37) = W) := ⟨_, rfl⟩
  have BW : Hid (Below w.heap.size w W) := by show Below _ _ _; rw [← hW.out]; exact (((Below.refl _ _).alloc (Nat.le_refl _) _).alloc (by simp) _)
  have Hg : Hid (Bx W (w.heap.size) (#[.slice none 0 0, .slice none 0 0, .int .i64 0, .int .i64 0]) 27) := by
    have h := ((Bx.new w (#[.slice none 0 0, .slice none 0 0, .int .i64 0, .int .i64 0]) 27).alloc (.cells (#[.int .i64 0, .int .i64 0, .slice none 0 0, .slice none 0 0, .slice none 0 0]) 37))
    show Bx _ _ _ _
    rw [← hW.out]
    simpa using h
  have Hr : Hid (Bx W (w.heap.size + 1) (#[.int .i64 0, .int .i64 0, .slice none 0 0, .slice none 0 0, .slice none 0 0]) 37) := by
    have h := (Bx.new (w.alloc (.cells (#[.slice none 0 0, .slice none 0 0, .int .i64 0, .int .i64 0]) 27)) (#[.int .i64 0, .int .i64 0, .slice none 0 0, .slice none 0 0, .slice none 0 0]) 37)
    show Bx _ _ _ _
    rw [← hW.out]
    simpa using h
  have HG := hide (HG.out.step BW.out)
  have HO := hide (HO.out.step BW.out)
  have SW := hide (SW.out.step BW.out)
  go_enter Tryz.func61, Tryz.ntmps61
  go_upto_region 1 with fail
  have hW' := hW.out
  rw [hW']
  clear hW hW'
  have k1 := HO.out.o1
  have k3 := HO.out.o3
  have k4 := HO.out.o4
  have l0 := HO.out.lt
  go_wp2_with (first | ((with_reducible refine ldG (.tmp 0) (gG) (0) ?_ ?_ v ?_ ?_); (exact rfl); (exact rfl); (exact HG.out.lies)))
  refine (set_any v G R o.a o.q o.v er W SW.out HS.out hr).mono ?_
  rintro e u1 ⟨v', rfl, hm, hb⟩
  have OG : Hid (Has u1 w.heap.size v' R) := Has.less hm.out BW.out.size
  clear hm
  clear k1 k3 k4 l0
  have Hg := hide (Hg.out.step hb.out)
  have Hr := hide (Hr.out.step hb.out)
  have HG := hide (HG.out.step hb.out)
  have HO := hide (HO.out.step hb.out)
  have SW := hide (SW.out.step hb.out)
  have BW := hide (BW.out.trans (hb.out.mono BW.out.size))
  clear hb
  go_wp2_with fail
  refine (changed_any v' er u1).mono ?_
  rintro e u2 ⟨rfl, hb⟩
  have Hg := hide (Hg.out.step hb.out)
  have Hr := hide (Hr.out.step hb.out)
  have HG := hide (HG.out.step hb.out)
  have HO := hide (HO.out.step hb.out)
  have SW := hide (SW.out.step hb.out)
  have OG := hide (OG.out.step hb.out)
  have BW := hide (BW.out.trans (hb.out.mono BW.out.size))
  clear hb
  have HX := hide (Hr.out.far (k := w.heap.size) (by omega) (gc v'))
  go_wp2_with (first | ((with_reducible refine stG (.tmp 2) (.tmp 15) (w.heap.size) ?_ v' ?_ (#[.slice none 0 0, .slice none 0 0, .int .i64 0, .int .i64 0]) ?_ ?_ ?_); (exact rfl); (exact rfl); (exact Hg.out); (exact rfl)) | ((with_reducible refine stR (.tmp 3) (.tmp 16) (w.heap.size + 1) ?_ ⟨er, 0, [], [], []⟩ noS3 ?_ (#[.int .i64 0, .int .i64 0, .slice none 0 0, .slice none 0 0, .slice none 0 0]) ?_ ?_ ?_); (exact rfl); (exact rfl); (exact HX.out); (exact rfl)))
  have F1 := hide ((Hg.out.put (gc v')).far (k := w.heap.size + 1) (by omega) (rc ⟨er, 0, [], [], []⟩ noS3))
  have F2 := hide (HX.out.put (rc ⟨er, 0, [], [], []⟩ noS3))
  exact bodyPost_ret (results_gr rfl _ _ (w.heap.size) (w.heap.size + 1) v' ⟨er, 0, [], [], []⟩ noS3 rfl rfl F1.out F2.out) rfl ⟨v', noS3, rfl, (OG.out.row Hg.out apG _).row HX.out apR _, (ROwn.nil), row_below (row_below BW.out (by omega) _) (by omega) _⟩

set_option maxHeartbeats 4000000 in
theorem kind5_any (gG : Nat) (gO : Nat) (c0 c1 c2 c3 c4 : Int) (v : Gv) (G : GL) (o : O5) (w : World) (hG : Bx w gG (gc v) 27) (hO : Bx w gO (oc o) 29) (S : Sees w w.heap.size v G) (F : Few 140 G) (hk : o.k = 5) :
    Calls Tryz.prog 63 #[.pointer (some ⟨gG, 0, none⟩), .pointer (some ⟨gO, 0, none⟩)] w (Tells w (inR c3 c4 G o).1 (inR c3 c4 G o).2) := by
  obtain ⟨er, R, hr⟩ : ∃ er R, Hid (delR G o.a o.q = (er, R)) := ⟨_, _, rfl⟩
  have e0 : inR c3 c4 G o = (R, ⟨er, 0, [], [], []⟩) := by unfold inR; simp [hk, hr.out]
  rw [e0]
  clear e0 hk
  have HS := hide (F.small (by decide))
  have HF := hide F
  have SW := hide S
  clear F S
  have HG := hide hG
  clear hG
  have HO := hide hO
  clear hO
  obtain ⟨W, hW⟩ : ∃ W, Hid ((w.alloc (.cells (#[.slice none 0 0, .slice none 0 0, .int .i64 0, .int .i64 0]) 27)).alloc (.cells (#[.int .i64 0, .int .i64 0, .slice none 0 0, .slice none 0 0, .slice none 0 0]) 37) = W) := ⟨_, rfl⟩
  have BW : Hid (Below w.heap.size w W) := by show Below _ _ _; rw [← hW.out]; exact (((Below.refl _ _).alloc (Nat.le_refl _) _).alloc (by simp) _)
  have Hg : Hid (Bx W (w.heap.size) (#[.slice none 0 0, .slice none 0 0, .int .i64 0, .int .i64 0]) 27) := by
    have h := ((Bx.new w (#[.slice none 0 0, .slice none 0 0, .int .i64 0, .int .i64 0]) 27).alloc (.cells (#[.int .i64 0, .int .i64 0, .slice none 0 0, .slice none 0 0, .slice none 0 0]) 37))
    show Bx _ _ _ _
    rw [← hW.out]
    simpa using h
  have Hr : Hid (Bx W (w.heap.size + 1) (#[.int .i64 0, .int .i64 0, .slice none 0 0, .slice none 0 0, .slice none 0 0]) 37) := by
    have h := (Bx.new (w.alloc (.cells (#[.slice none 0 0, .slice none 0 0, .int .i64 0, .int .i64 0]) 27)) (#[.int .i64 0, .int .i64 0, .slice none 0 0, .slice none 0 0, .slice none 0 0]) 37)
    show Bx _ _ _ _
    rw [← hW.out]
    simpa using h
  have HG := hide (HG.out.step BW.out)
  have HO := hide (HO.out.step BW.out)
  have SW := hide (SW.out.step BW.out)
  go_enter Tryz.func63, Tryz.ntmps63
  go_upto_region 1 with fail
  have hW' := hW.out
  rw [hW']
  clear hW hW'
  have k1 := HO.out.o1
  have k3 := HO.out.o3
  have l0 := HO.out.lt
  go_wp2_with (first | ((with_reducible refine ldG (.tmp 0) (gG) (0) ?_ ?_ v ?_ ?_); (exact rfl); (exact rfl); (exact HG.out.lies)))
  refine (del_any v G R o.a o.q er W SW.out HS.out hr).mono ?_
  rintro e u1 ⟨v', rfl, hm, hb⟩
  have OG : Hid (Has u1 w.heap.size v' R) := Has.less hm.out BW.out.size
  clear hm
  clear k1 k3 l0
  have Hg := hide (Hg.out.step hb.out)
  have Hr := hide (Hr.out.step hb.out)
  have HG := hide (HG.out.step hb.out)
  have HO := hide (HO.out.step hb.out)
  have SW := hide (SW.out.step hb.out)
  have BW := hide (BW.out.trans (hb.out.mono BW.out.size))
  clear hb
  go_wp2_with fail
  refine (changed_any v' er u1).mono ?_
  rintro e u2 ⟨rfl, hb⟩
  have Hg := hide (Hg.out.step hb.out)
  have Hr := hide (Hr.out.step hb.out)
  have HG := hide (HG.out.step hb.out)
  have HO := hide (HO.out.step hb.out)
  have SW := hide (SW.out.step hb.out)
  have OG := hide (OG.out.step hb.out)
  have BW := hide (BW.out.trans (hb.out.mono BW.out.size))
  clear hb
  have HX := hide (Hr.out.far (k := w.heap.size) (by omega) (gc v'))
  go_wp2_with (first | ((with_reducible refine stG (.tmp 2) (.tmp 13) (w.heap.size) ?_ v' ?_ (#[.slice none 0 0, .slice none 0 0, .int .i64 0, .int .i64 0]) ?_ ?_ ?_); (exact rfl); (exact rfl); (exact Hg.out); (exact rfl)) | ((with_reducible refine stR (.tmp 3) (.tmp 14) (w.heap.size + 1) ?_ ⟨er, 0, [], [], []⟩ noS3 ?_ (#[.int .i64 0, .int .i64 0, .slice none 0 0, .slice none 0 0, .slice none 0 0]) ?_ ?_ ?_); (exact rfl); (exact rfl); (exact HX.out); (exact rfl)))
  have F1 := hide ((Hg.out.put (gc v')).far (k := w.heap.size + 1) (by omega) (rc ⟨er, 0, [], [], []⟩ noS3))
  have F2 := hide (HX.out.put (rc ⟨er, 0, [], [], []⟩ noS3))
  exact bodyPost_ret (results_gr rfl _ _ (w.heap.size) (w.heap.size + 1) v' ⟨er, 0, [], [], []⟩ noS3 rfl rfl F1.out F2.out) rfl ⟨v', noS3, rfl, (OG.out.row Hg.out apG _).row HX.out apR _, (ROwn.nil), row_below (row_below BW.out (by omega) _) (by omega) _⟩

set_option maxHeartbeats 4000000 in
theorem kind6_any (gG : Nat) (gO : Nat) (c0 c1 c2 c3 c4 : Int) (v : Gv) (G : GL) (o : O5) (w : World) (hG : Bx w gG (gc v) 27) (hO : Bx w gO (oc o) 29) (S : Sees w w.heap.size v G) (F : Few 140 G) (hk : o.k = 6) :
    Calls Tryz.prog 65 #[.pointer (some ⟨gG, 0, none⟩), .pointer (some ⟨gO, 0, none⟩)] w (Tells w (inR c3 c4 G o).1 (inR c3 c4 G o).2) := by
  obtain ⟨er, l, hr⟩ : ∃ er l, Hid (getR G o.a = (er, l)) := ⟨_, _, rfl⟩
  have e0 : inR c3 c4 G o = (G, ⟨er, 0, l, [], []⟩) := by unfold inR; simp [hk, hr.out]
  rw [e0]
  clear e0 hk
  have HS := hide (F.small (by decide))
  have HF := hide F
  have SW := hide S
  clear F S
  have HG := hide hG
  clear hG
  have HO := hide hO
  clear hO
  obtain ⟨W, hW⟩ : ∃ W, Hid ((w.alloc (.cells (#[.slice none 0 0, .slice none 0 0, .int .i64 0, .int .i64 0]) 27)).alloc (.cells (#[.int .i64 0, .int .i64 0, .slice none 0 0, .slice none 0 0, .slice none 0 0]) 37) = W) := ⟨_, rfl⟩
  have BW : Hid (Below w.heap.size w W) := by show Below _ _ _; rw [← hW.out]; exact (((Below.refl _ _).alloc (Nat.le_refl _) _).alloc (by simp) _)
  have Hg : Hid (Bx W (w.heap.size) (#[.slice none 0 0, .slice none 0 0, .int .i64 0, .int .i64 0]) 27) := by
    have h := ((Bx.new w (#[.slice none 0 0, .slice none 0 0, .int .i64 0, .int .i64 0]) 27).alloc (.cells (#[.int .i64 0, .int .i64 0, .slice none 0 0, .slice none 0 0, .slice none 0 0]) 37))
    show Bx _ _ _ _
    rw [← hW.out]
    simpa using h
  have Hr : Hid (Bx W (w.heap.size + 1) (#[.int .i64 0, .int .i64 0, .slice none 0 0, .slice none 0 0, .slice none 0 0]) 37) := by
    have h := (Bx.new (w.alloc (.cells (#[.slice none 0 0, .slice none 0 0, .int .i64 0, .int .i64 0]) 27)) (#[.int .i64 0, .int .i64 0, .slice none 0 0, .slice none 0 0, .slice none 0 0]) 37)
    show Bx _ _ _ _
    rw [← hW.out]
    simpa using h
  have HG := hide (HG.out.step BW.out)
  have HO := hide (HO.out.step BW.out)
  have SW := hide (SW.out.step BW.out)
  go_enter Tryz.func65, Tryz.ntmps65
  go_upto_region 1 with fail
  have hW' := hW.out
  rw [hW']
  clear hW hW'
  have k1 := HO.out.o1
  have l0 := HO.out.lt
  go_wp2_with (first | ((with_reducible refine ldG (.tmp 0) (gG) (0) ?_ ?_ v ?_ ?_); (exact rfl); (exact rfl); (exact HG.out.lies)))
  refine (get_any v G l o.a er W SW.out HS.out hr).mono ?_
  rintro e u1 ⟨h, rfl, hm, hb⟩
  have OR : Hid (ROwn u1 w.heap.size ⟨h, noSl, noSl⟩ ⟨er, 0, l, [], []⟩) := ⟨own_less hm.out BW.out.size, World.ownsRow_nil _ _ _ _, World.ownsRow_nil _ _ _ _⟩
  clear hm
  clear k1 l0
  have Hg := hide (Hg.out.step hb.out)
  have Hr := hide (Hr.out.step hb.out)
  have HG := hide (HG.out.step hb.out)
  have HO := hide (HO.out.step hb.out)
  have SW := hide (SW.out.step hb.out)
  have BW := hide (BW.out.trans (hb.out.mono BW.out.size))
  clear hb
  go_wp2_with (((with_reducible refine ldG (.tmp 0) (gG) (0) ?_ ?_ v ?_ ?_); (exact rfl); (exact rfl); (exact HG.out.lies)))
  refine (afresh_any v G u1 SW.out HF.out).mono ?_
  rintro e u2 ⟨v', rfl, hm, hb⟩
  have OG : Hid (Has u2 w.heap.size v' G) := Has.less hm.out BW.out.size
  clear hm
  have Hg := hide (Hg.out.step hb.out)
  have Hr := hide (Hr.out.step hb.out)
  have HG := hide (HG.out.step hb.out)
  have HO := hide (HO.out.step hb.out)
  have SW := hide (SW.out.step hb.out)
  have OR := hide (OR.out.step hb.out)
  have BW := hide (BW.out.trans (hb.out.mono BW.out.size))
  clear hb
  have HX := hide (Hr.out.far (k := w.heap.size) (by omega) (gc v'))
  go_wp2_with (first | ((with_reducible refine stG (.tmp 2) (.tmp 14) (w.heap.size) ?_ v' ?_ (#[.slice none 0 0, .slice none 0 0, .int .i64 0, .int .i64 0]) ?_ ?_ ?_); (exact rfl); (exact rfl); (exact Hg.out); (exact rfl)) | ((with_reducible refine stR (.tmp 3) (.tmp 17) (w.heap.size + 1) ?_ ⟨er, 0, l, [], []⟩ ⟨h, noSl, noSl⟩ ?_ (#[.int .i64 0, .int .i64 0, .slice none 0 0, .slice none 0 0, .slice none 0 0]) ?_ ?_ ?_); (exact rfl); (exact rfl); (exact HX.out); (exact rfl)))
  have F1 := hide ((Hg.out.put (gc v')).far (k := w.heap.size + 1) (by omega) (rc ⟨er, 0, l, [], []⟩ ⟨h, noSl, noSl⟩))
  have F2 := hide (HX.out.put (rc ⟨er, 0, l, [], []⟩ ⟨h, noSl, noSl⟩))
  exact bodyPost_ret (results_gr rfl _ _ (w.heap.size) (w.heap.size + 1) v' ⟨er, 0, l, [], []⟩ ⟨h, noSl, noSl⟩ rfl rfl F1.out F2.out) rfl ⟨v', ⟨h, noSl, noSl⟩, rfl, (OG.out.row Hg.out apG _).row HX.out apR _, (OR.out.row Hg.out apG _).row HX.out apR _, row_below (row_below BW.out (by omega) _) (by omega) _⟩

set_option maxHeartbeats 4000000 in
theorem kind7_any (gG : Nat) (gO : Nat) (c0 c1 c2 c3 c4 : Int) (v : Gv) (G : GL) (o : O5) (w : World) (hG : Bx w gG (gc v) 27) (hO : Bx w gO (oc o) 29) (S : Sees w w.heap.size v G) (F : Few 140 G) (hk : o.k = 7) :
    Calls Tryz.prog 67 #[.pointer (some ⟨gG, 0, none⟩), .pointer (some ⟨gO, 0, none⟩)] w (Tells w (inR c3 c4 G o).1 (inR c3 c4 G o).2) := by
  obtain ⟨er, p, q, hr⟩ : ∃ er p q, Hid (nearR G o.a = (er, p, q)) := ⟨_, _, _, rfl⟩
  have e0 : inR c3 c4 G o = (G, ⟨er, 0, [], p, q⟩) := by unfold inR; simp [hk, hr.out]
  rw [e0]
  clear e0 hk
  have HS := hide (F.small (by decide))
  have HF := hide F
  have SW := hide S
  clear F S
  have HG := hide hG
  clear hG
  have HO := hide hO
  clear hO
  obtain ⟨W, hW⟩ : ∃ W, Hid ((w.alloc (.cells (#[.slice none 0 0, .slice none 0 0, .int .i64 0, .int .i64 0]) 27)).alloc (.cells (#[.int .i64 0, .int .i64 0, .slice none 0 0, .slice none 0 0, .slice none 0 0]) 37) = W) := ⟨_, rfl⟩
  have BW : Hid (Below w.heap.size w W) := by show Below _ _ _; rw [← hW.out]; exact (((Below.refl _ _).alloc (Nat.le_refl _) _).alloc (by simp) _)
  have Hg : Hid (Bx W (w.heap.size) (#[.slice none 0 0, .slice none 0 0, .int .i64 0, .int .i64 0]) 27) := by
    have h := ((Bx.new w (#[.slice none 0 0, .slice none 0 0, .int .i64 0, .int .i64 0]) 27).alloc (.cells (#[.int .i64 0, .int .i64 0, .slice none 0 0, .slice none 0 0, .slice none 0 0]) 37))
    show Bx _ _ _ _
    rw [← hW.out]
    simpa using h
  have Hr : Hid (Bx W (w.heap.size + 1) (#[.int .i64 0, .int .i64 0, .slice none 0 0, .slice none 0 0, .slice none 0 0]) 37) := by
    have h := (Bx.new (w.alloc (.cells (#[.slice none 0 0, .slice none 0 0, .int .i64 0, .int .i64 0]) 27)) (#[.int .i64 0, .int .i64 0, .slice none 0 0, .slice none 0 0, .slice none 0 0]) 37)
    show Bx _ _ _ _
    rw [← hW.out]
    simpa using h
  have HG := hide (HG.out.step BW.out)
  have HO := hide (HO.out.step BW.out)
  have SW := hide (SW.out.step BW.out)
  go_enter Tryz.func67, Tryz.ntmps67
  go_upto_region 1 with fail
  have hW' := hW.out
  rw [hW']
  clear hW hW'
  have k1 := HO.out.o1
  have l0 := HO.out.lt
  go_wp2_with (first | ((with_reducible refine ldG (.tmp 0) (gG) (0) ?_ ?_ v ?_ ?_); (exact rfl); (exact rfl); (exact HG.out.lies)))
  refine (near_any v G p q o.a er W SW.out HS.out hr).mono ?_
  rintro e u1 ⟨h, h2, rfl, hm, hm2, hb⟩
  have OR : Hid (ROwn u1 w.heap.size ⟨noSl, h, h2⟩ ⟨er, 0, [], p, q⟩) := ⟨World.ownsRow_nil _ _ _ _, own_less hm.out BW.out.size, own_less hm2.out BW.out.size⟩
  clear hm hm2
  clear k1 l0
  have Hg := hide (Hg.out.step hb.out)
  have Hr := hide (Hr.out.step hb.out)
  have HG := hide (HG.out.step hb.out)
  have HO := hide (HO.out.step hb.out)
  have SW := hide (SW.out.step hb.out)
  have BW := hide (BW.out.trans (hb.out.mono BW.out.size))
  clear hb
  go_wp2_with (((with_reducible refine ldG (.tmp 0) (gG) (0) ?_ ?_ v ?_ ?_); (exact rfl); (exact rfl); (exact HG.out.lies)))
  refine (afresh_any v G u1 SW.out HF.out).mono ?_
  rintro e u2 ⟨v', rfl, hm, hb⟩
  have OG : Hid (Has u2 w.heap.size v' G) := Has.less hm.out BW.out.size
  clear hm
  have Hg := hide (Hg.out.step hb.out)
  have Hr := hide (Hr.out.step hb.out)
  have HG := hide (HG.out.step hb.out)
  have HO := hide (HO.out.step hb.out)
  have SW := hide (SW.out.step hb.out)
  have OR := hide (OR.out.step hb.out)
  have BW := hide (BW.out.trans (hb.out.mono BW.out.size))
  clear hb
  have HX := hide (Hr.out.far (k := w.heap.size) (by omega) (gc v'))
  go_wp2_with (first | ((with_reducible refine stG (.tmp 2) (.tmp 16) (w.heap.size) ?_ v' ?_ (#[.slice none 0 0, .slice none 0 0, .int .i64 0, .int .i64 0]) ?_ ?_ ?_); (exact rfl); (exact rfl); (exact Hg.out); (exact rfl)) | ((with_reducible refine stR (.tmp 3) (.tmp 20) (w.heap.size + 1) ?_ ⟨er, 0, [], p, q⟩ ⟨noSl, h, h2⟩ ?_ (#[.int .i64 0, .int .i64 0, .slice none 0 0, .slice none 0 0, .slice none 0 0]) ?_ ?_ ?_); (exact rfl); (exact rfl); (exact HX.out); (exact rfl)))
  have F1 := hide ((Hg.out.put (gc v')).far (k := w.heap.size + 1) (by omega) (rc ⟨er, 0, [], p, q⟩ ⟨noSl, h, h2⟩))
  have F2 := hide (HX.out.put (rc ⟨er, 0, [], p, q⟩ ⟨noSl, h, h2⟩))
  exact bodyPost_ret (results_gr rfl _ _ (w.heap.size) (w.heap.size + 1) v' ⟨er, 0, [], p, q⟩ ⟨noSl, h, h2⟩ rfl rfl F1.out F2.out) rfl ⟨v', ⟨noSl, h, h2⟩, rfl, (OG.out.row Hg.out apG _).row HX.out apR _, (OR.out.row Hg.out apG _).row HX.out apR _, row_below (row_below BW.out (by omega) _) (by omega) _⟩

set_option maxHeartbeats 4000000 in
theorem kind8_any (gG : Nat) (gO : Nat) (c0 c1 c2 c3 c4 : Int) (v : Gv) (G : GL) (o : O5) (w : World) (hG : Bx w gG (gc v) 27) (hO : Bx w gO (oc o) 29) (S : Sees w w.heap.size v G) (F : Few 140 G) (hk : o.k = 8) :
    Calls Tryz.prog 69 #[.pointer (some ⟨gG, 0, none⟩), .pointer (some ⟨gO, 0, none⟩)] w (Tells w (inR c3 c4 G o).1 (inR c3 c4 G o).2) := by
  obtain ⟨er, R, hr⟩ : ∃ er R, Hid (dropR G o.a = (er, R)) := ⟨_, _, rfl⟩
  have e0 : inR c3 c4 G o = (R, ⟨er, 0, [], [], []⟩) := by unfold inR; simp [hk, hr.out]
  rw [e0]
  clear e0 hk
  have HS := hide (F.small (by decide))
  have HF := hide F
  have SW := hide S
  clear F S
  have HG := hide hG
  clear hG
  have HO := hide hO
  clear hO
  obtain ⟨W, hW⟩ : ∃ W, Hid ((w.alloc (.cells (#[.slice none 0 0, .slice none 0 0, .int .i64 0, .int .i64 0]) 27)).alloc (.cells (#[.int .i64 0, .int .i64 0, .slice none 0 0, .slice none 0 0, .slice none 0 0]) 37) = W) := ⟨_, rfl⟩
  have BW : Hid (Below w.heap.size w W) := by show Below _ _ _; rw [← hW.out]; exact (((Below.refl _ _).alloc (Nat.le_refl _) _).alloc (by simp) _)
  have Hg : Hid (Bx W (w.heap.size) (#[.slice none 0 0, .slice none 0 0, .int .i64 0, .int .i64 0]) 27) := by
    have h := ((Bx.new w (#[.slice none 0 0, .slice none 0 0, .int .i64 0, .int .i64 0]) 27).alloc (.cells (#[.int .i64 0, .int .i64 0, .slice none 0 0, .slice none 0 0, .slice none 0 0]) 37))
    show Bx _ _ _ _
    rw [← hW.out]
    simpa using h
  have Hr : Hid (Bx W (w.heap.size + 1) (#[.int .i64 0, .int .i64 0, .slice none 0 0, .slice none 0 0, .slice none 0 0]) 37) := by
    have h := (Bx.new (w.alloc (.cells (#[.slice none 0 0, .slice none 0 0, .int .i64 0, .int .i64 0]) 27)) (#[.int .i64 0, .int .i64 0, .slice none 0 0, .slice none 0 0, .slice none 0 0]) 37)
    show Bx _ _ _ _
    rw [← hW.out]
    simpa using h
  have HG := hide (HG.out.step BW.out)
  have HO := hide (HO.out.step BW.out)
  have SW := hide (SW.out.step BW.out)
  go_enter Tryz.func69, Tryz.ntmps69
  go_upto_region 1 with fail
  have hW' := hW.out
  rw [hW']
  clear hW hW'
  have k1 := HO.out.o1
  have l0 := HO.out.lt
  go_wp2_with (first | ((with_reducible refine ldG (.tmp 0) (gG) (0) ?_ ?_ v ?_ ?_); (exact rfl); (exact rfl); (exact HG.out.lies)))
  refine (drop_any v G R o.a er W SW.out HS.out hr).mono ?_
  rintro e u1 ⟨v', rfl, hm, hb⟩
  have OG : Hid (Has u1 w.heap.size v' R) := Has.less hm.out BW.out.size
  clear hm
  clear k1 l0
  have Hg := hide (Hg.out.step hb.out)
  have Hr := hide (Hr.out.step hb.out)
  have HG := hide (HG.out.step hb.out)
  have HO := hide (HO.out.step hb.out)
  have SW := hide (SW.out.step hb.out)
  have BW := hide (BW.out.trans (hb.out.mono BW.out.size))
  clear hb
  go_wp2_with fail
  refine (changed_any v' er u1).mono ?_
  rintro e u2 ⟨rfl, hb⟩
  have Hg := hide (Hg.out.step hb.out)
  have Hr := hide (Hr.out.step hb.out)
  have HG := hide (HG.out.step hb.out)
  have HO := hide (HO.out.step hb.out)
  have SW := hide (SW.out.step hb.out)
  have OG := hide (OG.out.step hb.out)
  have BW := hide (BW.out.trans (hb.out.mono BW.out.size))
  clear hb
  have HX := hide (Hr.out.far (k := w.heap.size) (by omega) (gc v'))
  go_wp2_with (first | ((with_reducible refine stG (.tmp 2) (.tmp 11) (w.heap.size) ?_ v' ?_ (#[.slice none 0 0, .slice none 0 0, .int .i64 0, .int .i64 0]) ?_ ?_ ?_); (exact rfl); (exact rfl); (exact Hg.out); (exact rfl)) | ((with_reducible refine stR (.tmp 3) (.tmp 12) (w.heap.size + 1) ?_ ⟨er, 0, [], [], []⟩ noS3 ?_ (#[.int .i64 0, .int .i64 0, .slice none 0 0, .slice none 0 0, .slice none 0 0]) ?_ ?_ ?_); (exact rfl); (exact rfl); (exact HX.out); (exact rfl)))
  have F1 := hide ((Hg.out.put (gc v')).far (k := w.heap.size + 1) (by omega) (rc ⟨er, 0, [], [], []⟩ noS3))
  have F2 := hide (HX.out.put (rc ⟨er, 0, [], [], []⟩ noS3))
  exact bodyPost_ret (results_gr rfl _ _ (w.heap.size) (w.heap.size + 1) v' ⟨er, 0, [], [], []⟩ noS3 rfl rfl F1.out F2.out) rfl ⟨v', noS3, rfl, (OG.out.row Hg.out apG _).row HX.out apR _, (ROwn.nil), row_below (row_below BW.out (by omega) _) (by omega) _⟩

set_option maxHeartbeats 4000000 in
theorem kind9_any (gG : Nat) (gO : Nat) (c0 c1 c2 c3 c4 : Int) (v : Gv) (G : GL) (o : O5) (w : World) (hG : Bx w gG (gc v) 27) (hO : Bx w gO (oc o) 29) (S : Sees w w.heap.size v G) (F : Few 140 G) (hk : o.k = 9) :
    Calls Tryz.prog 71 #[.pointer (some ⟨gG, 0, none⟩), .pointer (some ⟨gO, 0, none⟩)] w (Tells w (inR c3 c4 G o).1 (inR c3 c4 G o).2) := by
  obtain ⟨er, R, hr⟩ : ∃ er R, Hid (fuseR G o.a o.b (fuseAt G o.a o.b) = (er, R)) := ⟨_, _, rfl⟩
  have e0 : inR c3 c4 G o = (R, ⟨er, 0, [], [], []⟩) := by unfold inR; simp [hk, hr.out]
  rw [e0]
  clear e0 hk
  have HS := hide (F.small (by decide))
  have HF := hide F
  have SW := hide S
  clear F S
  have HG := hide hG
  clear hG
  have HO := hide hO
  clear hO
  obtain ⟨W, hW⟩ : ∃ W, Hid ((w.alloc (.cells (#[.slice none 0 0, .slice none 0 0, .int .i64 0, .int .i64 0]) 27)).alloc (.cells (#[.int .i64 0, .int .i64 0, .slice none 0 0, .slice none 0 0, .slice none 0 0]) 37) = W) := ⟨_, rfl⟩
  have BW : Hid (Below w.heap.size w W) := by show Below _ _ _; rw [← hW.out]; exact (((Below.refl _ _).alloc (Nat.le_refl _) _).alloc (by simp) _)
  have Hg : Hid (Bx W (w.heap.size) (#[.slice none 0 0, .slice none 0 0, .int .i64 0, .int .i64 0]) 27) := by
    have h := ((Bx.new w (#[.slice none 0 0, .slice none 0 0, .int .i64 0, .int .i64 0]) 27).alloc (.cells (#[.int .i64 0, .int .i64 0, .slice none 0 0, .slice none 0 0, .slice none 0 0]) 37))
    show Bx _ _ _ _
    rw [← hW.out]
    simpa using h
  have Hr : Hid (Bx W (w.heap.size + 1) (#[.int .i64 0, .int .i64 0, .slice none 0 0, .slice none 0 0, .slice none 0 0]) 37) := by
    have h := (Bx.new (w.alloc (.cells (#[.slice none 0 0, .slice none 0 0, .int .i64 0, .int .i64 0]) 27)) (#[.int .i64 0, .int .i64 0, .slice none 0 0, .slice none 0 0, .slice none 0 0]) 37)
    show Bx _ _ _ _
    rw [← hW.out]
    simpa using h
  have HG := hide (HG.out.step BW.out)
  have HO := hide (HO.out.step BW.out)
  have SW := hide (SW.out.step BW.out)
  go_enter Tryz.func71, Tryz.ntmps71
  go_upto_region 1 with fail
  have hW' := hW.out
  rw [hW']
  clear hW hW'
  have k1 := HO.out.o1
  have k2 := HO.out.o2
  have l0 := HO.out.lt
  go_wp2_with (first | ((with_reducible refine ldG (.tmp 0) (gG) (0) ?_ ?_ v ?_ ?_); (exact rfl); (exact rfl); (exact HG.out.lies)))
  refine (fuse_any v G R o.a o.b er (fuseAt G o.a o.b) W SW.out HS.out (hide (fuse_one HF.out)) hr).mono ?_
  rintro e u1 ⟨v', rfl, hm, hb⟩
  have OG : Hid (Has u1 w.heap.size v' R) := Has.less hm.out BW.out.size
  clear hm
  clear k1 k2 l0
  have Hg := hide (Hg.out.step hb.out)
  have Hr := hide (Hr.out.step hb.out)
  have HG := hide (HG.out.step hb.out)
  have HO := hide (HO.out.step hb.out)
  have SW := hide (SW.out.step hb.out)
  have BW := hide (BW.out.trans (hb.out.mono BW.out.size))
  clear hb
  go_wp2_with fail
  refine (changed_any v' er u1).mono ?_
  rintro e u2 ⟨rfl, hb⟩
  have Hg := hide (Hg.out.step hb.out)
  have Hr := hide (Hr.out.step hb.out)
  have HG := hide (HG.out.step hb.out)
  have HO := hide (HO.out.step hb.out)
  have SW := hide (SW.out.step hb.out)
  have OG := hide (OG.out.step hb.out)
  have BW := hide (BW.out.trans (hb.out.mono BW.out.size))
  clear hb
  have HX := hide (Hr.out.far (k := w.heap.size) (by omega) (gc v'))
  go_wp2_with (first | ((with_reducible refine stG (.tmp 2) (.tmp 13) (w.heap.size) ?_ v' ?_ (#[.slice none 0 0, .slice none 0 0, .int .i64 0, .int .i64 0]) ?_ ?_ ?_); (exact rfl); (exact rfl); (exact Hg.out); (exact rfl)) | ((with_reducible refine stR (.tmp 3) (.tmp 14) (w.heap.size + 1) ?_ ⟨er, 0, [], [], []⟩ noS3 ?_ (#[.int .i64 0, .int .i64 0, .slice none 0 0, .slice none 0 0, .slice none 0 0]) ?_ ?_ ?_); (exact rfl); (exact rfl); (exact HX.out); (exact rfl)))
  have F1 := hide ((Hg.out.put (gc v')).far (k := w.heap.size + 1) (by omega) (rc ⟨er, 0, [], [], []⟩ noS3))
  have F2 := hide (HX.out.put (rc ⟨er, 0, [], [], []⟩ noS3))
  exact bodyPost_ret (results_gr rfl _ _ (w.heap.size) (w.heap.size + 1) v' ⟨er, 0, [], [], []⟩ noS3 rfl rfl F1.out F2.out) rfl ⟨v', noS3, rfl, (OG.out.row Hg.out apG _).row HX.out apR _, (ROwn.nil), row_below (row_below BW.out (by omega) _) (by omega) _⟩

end Go.Proofs.YtiiadkjiofkonaaGreat

namespace Go.Proofs.YtiiadkjiofkonaaGreat
open Go.RowKit
set_option linter.unusedVariables false
set_option maxRecDepth 100000

/-- Which function it is, and what that tells. -/
theorem kind_pick (c0 c1 c2 c3 c4 : Int) (v : Gv) (G : GL) (o : O5) (F : Few 140 G) (b : Nat) (h1 : 1 ≤ o.k) (h2 : o.k ≤ 9) : ∃ (i f : Nat) (caps : Array Value), o.k = (i : Int) ∧ 1 ≤ i ∧ i ≤ 9 ∧ fv b i = .func (.func f) #[] caps ∧ (∀ args w, (callFunc f args).run Tryz.prog w = .ok (.enter f args) w) ∧
    ∀ u, Bx u b (fc c0 c1 c2 c3 c4) 23 → Bx u (b + 1) (gc v) 27 → Bx u (b + 2) (oc o) 29 → Sees u u.heap.size v G → Calls Tryz.prog f caps u (Tells u (inR c3 c4 G o).1 (inR c3 c4 G o).2) := by
  have h : o.k = 1 ∨ o.k = 2 ∨ o.k = 3 ∨ o.k = 4 ∨ o.k = 5 ∨ o.k = 6 ∨ o.k = 7 ∨ o.k = 8 ∨ o.k = 9 := by omega
  rcases h with h | h | h | h | h | h | h | h | h
  · exact ⟨1, 53, _, h, by decide, by decide, rfl, enters_of Tryz.func53 (by kernel_rfl) rfl, fun u hC hG hO S => kind1_any _ _ c0 c1 c2 c3 c4 v G o u hC hG S F h⟩
  · exact ⟨2, 56, _, h, by decide, by decide, rfl, enters_of Tryz.func56 (by kernel_rfl) rfl, fun u hC hG hO S => kind2_any _ _ _ c0 c1 c2 c3 c4 v G o u hC hG hO S F h⟩
  · exact ⟨3, 58, _, h, by decide, by decide, rfl, enters_of Tryz.func58 (by kernel_rfl) rfl, fun u hC hG hO S => kind3_any _ _ c0 c1 c2 c3 c4 v G o u hG hO S F h⟩
  · exact ⟨4, 61, _, h, by decide, by decide, rfl, enters_of Tryz.func61 (by kernel_rfl) rfl, fun u hC hG hO S => kind4_any _ _ c0 c1 c2 c3 c4 v G o u hG hO S F h⟩
  · exact ⟨5, 63, _, h, by decide, by decide, rfl, enters_of Tryz.func63 (by kernel_rfl) rfl, fun u hC hG hO S => kind5_any _ _ c0 c1 c2 c3 c4 v G o u hG hO S F h⟩
  · exact ⟨6, 65, _, h, by decide, by decide, rfl, enters_of Tryz.func65 (by kernel_rfl) rfl, fun u hC hG hO S => kind6_any _ _ c0 c1 c2 c3 c4 v G o u hG hO S F h⟩
  · exact ⟨7, 67, _, h, by decide, by decide, rfl, enters_of Tryz.func67 (by kernel_rfl) rfl, fun u hC hG hO S => kind7_any _ _ c0 c1 c2 c3 c4 v G o u hG hO S F h⟩
  · exact ⟨8, 69, _, h, by decide, by decide, rfl, enters_of Tryz.func69 (by kernel_rfl) rfl, fun u hC hG hO S => kind8_any _ _ c0 c1 c2 c3 c4 v G o u hG hO S F h⟩
  · exact ⟨9, 71, _, h, by decide, by decide, rfl, enters_of Tryz.func71 (by kernel_rfl) rfl, fun u hC hG hO S => kind9_any _ _ c0 c1 c2 c3 c4 v G o u hG hO S F h⟩

theorem doR_ok {c3 c4 : Int} {G R : GL} {o : O5} {r : RL} (h : inR c3 c4 G o = (R, r)) (he : r.er = 0) : doR c3 c4 G o = (R, r) := by unfold doR; rw [h]; simp [he]
theorem doR_er {c3 c4 : Int} {G R : GL} {o : O5} {r : RL} (h : inR c3 c4 G o = (R, r)) (he : r.er ≠ 0) : doR c3 c4 G o = (G, r) := by unfold doR; rw [h]; simp [he]
theorem doR_no {c3 c4 : Int} {G : GL} {o : O5} (h : o.k < 1 ∨ 9 < o.k) : doR c3 c4 G o = (G, ⟨1, 0, [], [], []⟩) := by
  refine doR_er (R := G) ?_ (by decide)
  unfold inR
  rw [if_neg (by omega), if_neg (by omega), if_neg (by omega), if_neg (by omega), if_neg (by omega), if_neg (by omega), if_neg (by omega), if_neg (by omega), if_neg (by omega)]
theorem sees_at {w u : World} {v : Gv} {G : GL} (S : Sees w w.heap.size v G) (b : Below w.heap.size w u) : Sees u u.heap.size v G := (S.below b (Nat.le_refl _)).more b.size

set_option maxHeartbeats 8000000 in
theorem do_any (c0 c1 c2 c3 c4 : Int) (v : Gv) (G : GL) (o : O5) (w : World) (S : Sees w w.heap.size v G) (F : Few 140 G) (hwf : (Lit.int .i64 o.k).wf = true) : Calls Tryz.prog 11 #[.agg (fc c0 c1 c2 c3 c4), .agg (gc v), .agg (oc o)] w (Tells w (doR c3 c4 G o).1 (doR c3 c4 G o).2) := by
  have SB := hide S
  have HF := hide F
  clear S F
  obtain ⟨D1, D2, hD⟩ : ∃ D1 D2, Hid (doR c3 c4 G o = (D1, D2)) := ⟨_, _, rfl⟩
  rw [hD.out]
  obtain ⟨W, hW⟩ : ∃ W, Hid (((((w.alloc (.cells ((fc c0 c1 c2 c3 c4)) 23)).alloc (.cells (gc v) 27)).alloc (.cells (oc o) 29)).alloc (.cells (#[.slice none 0 0, .slice none 0 0, .int .i64 0, .int .i64 0]) 27)).alloc (.cells (#[.int .i64 0, .int .i64 0, .slice none 0 0, .slice none 0 0, .slice none 0 0]) 37) = W) := ⟨_, rfl⟩
  have BW : Hid (Below w.heap.size w W) := by show Below _ _ _; rw [← hW.out]; exact ((((((Below.refl _ _).alloc (Nat.le_refl _) _).alloc (by simp) _).alloc (by simp; omega) _).alloc (by simp; omega) _).alloc (by simp; omega) _)
  have HC : Hid (Bx W (w.heap.size) ((fc c0 c1 c2 c3 c4)) 23) := by
    have h := (((((Bx.new w ((fc c0 c1 c2 c3 c4)) 23).alloc (.cells (gc v) 27)).alloc (.cells (oc o) 29)).alloc (.cells (#[.slice none 0 0, .slice none 0 0, .int .i64 0, .int .i64 0]) 27)).alloc (.cells (#[.int .i64 0, .int .i64 0, .slice none 0 0, .slice none 0 0, .slice none 0 0]) 37))
    show Bx _ _ _ _
    rw [← hW.out]
    simpa using h
  have HG : Hid (Bx W (w.heap.size + 1) (gc v) 27) := by
    have h := ((((Bx.new (w.alloc (.cells ((fc c0 c1 c2 c3 c4)) 23)) (gc v) 27).alloc (.cells (oc o) 29)).alloc (.cells (#[.slice none 0 0, .slice none 0 0, .int .i64 0, .int .i64 0]) 27)).alloc (.cells (#[.int .i64 0, .int .i64 0, .slice none 0 0, .slice none 0 0, .slice none 0 0]) 37))
    show Bx _ _ _ _
    rw [← hW.out]
    simpa using h
  have HO : Hid (Bx W (w.heap.size + 2) (oc o) 29) := by
    have h := (((Bx.new ((w.alloc (.cells ((fc c0 c1 c2 c3 c4)) 23)).alloc (.cells (gc v) 27)) (oc o) 29).alloc (.cells (#[.slice none 0 0, .slice none 0 0, .int .i64 0, .int .i64 0]) 27)).alloc (.cells (#[.int .i64 0, .int .i64 0, .slice none 0 0, .slice none 0 0, .slice none 0 0]) 37))
    show Bx _ _ _ _
    rw [← hW.out]
    simpa using h
  have Hg : Hid (Bx W (w.heap.size + 3) (#[.slice none 0 0, .slice none 0 0, .int .i64 0, .int .i64 0]) 27) := by
    have h := ((Bx.new (((w.alloc (.cells ((fc c0 c1 c2 c3 c4)) 23)).alloc (.cells (gc v) 27)).alloc (.cells (oc o) 29)) (#[.slice none 0 0, .slice none 0 0, .int .i64 0, .int .i64 0]) 27).alloc (.cells (#[.int .i64 0, .int .i64 0, .slice none 0 0, .slice none 0 0, .slice none 0 0]) 37))
    show Bx _ _ _ _
    rw [← hW.out]
    simpa using h
  have Hr : Hid (Bx W (w.heap.size + 4) (#[.int .i64 0, .int .i64 0, .slice none 0 0, .slice none 0 0, .slice none 0 0]) 37) := by
    have h := (Bx.new ((((w.alloc (.cells ((fc c0 c1 c2 c3 c4)) 23)).alloc (.cells (gc v) 27)).alloc (.cells (oc o) 29)).alloc (.cells (#[.slice none 0 0, .slice none 0 0, .int .i64 0, .int .i64 0]) 27)) (#[.int .i64 0, .int .i64 0, .slice none 0 0, .slice none 0 0, .slice none 0 0]) 37)
    show Bx _ _ _ _
    rw [← hW.out]
    simpa using h
  go_enter Tryz.func11, Tryz.ntmps11
  go_upto_region 1 with fail
  have hW' := hW.out
  rw [hW']
  clear hW hW'
  by_cases hin : 1 ≤ o.k ∧ o.k ≤ 9
  · obtain ⟨i, f, caps, hi0, h1, h2, hf0, eg, hc0⟩ := kind_pick c0 c1 c2 c3 c4 v G o HF.out W.drew.heap.size hin.1 hin.2
    have hi := hide hi0
    have hf := hide hf0
    have hc := hide hc0
    clear hin hi0 hf0 hc0
    have D0 := hide ((Below.refl W.heap.size W).drew)
    refine wp_region_held_drew (S := fun u => Below W.heap.size W u) (by kernel_rfl) D0.out (fun hS => ?_)
    refine wpAnyH_take (i := 0) (v := .agg (fc c0 c1 c2 c3 c4)) rfl (by kernel_rfl) (by kernel_rfl) (by kernel_rfl) (fun _ _ _ h => h) (Or.inl ⟨by kernel_rfl, fun u hu => xlC (.tmp 3) (w.heap.size) 0 rfl c0 c1 c2 c3 c4 (HC.out.step hu).lies⟩) hS ?_
    refine wpAnyH_take (i := 1) (v := .agg (gc v)) rfl (by kernel_rfl) (by kernel_rfl) (by kernel_rfl) (fun _ _ _ h => h) (Or.inl ⟨by kernel_rfl, fun u hu => xlG (.tmp 4) (w.heap.size + 1) 0 rfl v (HG.out.step hu).lies⟩) hS ?_
    refine wpAnyH_take (i := 2) (v := .agg (oc o)) rfl (by kernel_rfl) (by kernel_rfl) (by kernel_rfl) (fun _ _ _ h => h) (Or.inl ⟨by kernel_rfl, fun u hu => xlO (.tmp 5) (w.heap.size + 2) 0 rfl o (HO.out.step hu).lies⟩) hS ?_
    refine wpAnyH_take (i := 4) (v := .pointer (some ⟨w.heap.size + 2, 0, none⟩)) rfl (by kernel_rfl) (by kernel_rfl) (by kernel_rfl) (fun _ _ _ h => h) (Or.inl ⟨by kernel_rfl, by intro u hu; go_simp⟩) hS ?_
    refine wpAnyH_take (i := 5) (v := .int .i64 o.k) rfl (by kernel_rfl) (by kernel_rfl) (by kernel_rfl) (fun _ _ _ h => h) (Or.inl ⟨by kernel_rfl, by intro u hu; have k0 : u.cell? ⟨w.heap.size + 2, 0, none⟩ = some (.int .i64 o.k) := (HO.out.step hu).o0; go_simp⟩) hS ?_
    refine wpAnyH_ready (rs := [3]) (by kernel_rfl) (by simp) ?_
    refine AllReadyH.cons rfl (fun K hK => ?_) AllReadyH.nil
    go_simp
    refine (kinds_any c0 c1 c2 c3 c4 v o W.drew).mono ?_
    rintro e u1 ⟨rfl, hk⟩
    have HB1 : Hid (Below W.heap.size W u1) := D0.out.trans hk.out.bel
    refine hK.out _ _ HB1.out (fun hS1 => ?_)
    clear hK K hS
    have hl : ∀ u, Below u1.heap.size u1 u → (Instr.lookup 64 (.map (some (W.heap.size + 3))) (.int .i64 o.k) true).run Tryz.prog u = .ok (.tuple #[.func (.func f) #[] caps, .bool true]) u := fun u hu => by
      have h := look_in hk.out i h1 h2 hu
      rw [hf.out] at h
      rw [hi.out]
      exact h
    refine wpAnyH_ready (rs := [6]) (by kernel_rfl) (by simp) ?_
    refine AllReadyH.cons rfl (fun K hK => ?_) AllReadyH.nil
    have hl1 := hl u1 (Below.refl _ _)
    go_simp
    refine hK.out _ _ hS1 (fun _ => ?_)
    clear hK K hl1 hl
    refine wpAnyH_take (i := 7) (v := .tuple #[.func (.func f) #[] caps, .bool true]) rfl (by kernel_rfl) (by kernel_rfl) (by kernel_rfl) (fun _ _ _ h => h) (Or.inl ⟨by kernel_rfl, by intro u hu; go_simp⟩) hS1 ?_
    refine wpAnyH_take (i := 8) (v := .func (.func f) #[] caps) rfl (by kernel_rfl) (by kernel_rfl) (by kernel_rfl) (fun _ _ _ h => h) (Or.inl ⟨by kernel_rfl, by intro u hu; go_simp⟩) hS1 ?_
    refine wpAnyH_take (i := 9) (v := .bool true) rfl (by kernel_rfl) (by kernel_rfl) (by kernel_rfl) (fun _ _ _ h => h) (Or.inl ⟨by kernel_rfl, by intro u hu; go_simp⟩) hS1 ?_
    refine wpAnyH_take (i := 10) (v := .func (.func f) #[] caps) rfl (by kernel_rfl) (by kernel_rfl) (by kernel_rfl) (fun _ _ _ h => h) (Or.inl ⟨by kernel_rfl, by intro u hu; go_simp⟩) hS1 ?_
    refine wpAnyH_ready (rs := [11]) (by kernel_rfl) (by simp) ?_
    refine AllReadyH.cons rfl (fun K hK => ?_) AllReadyH.nil
    go_simp
    refine hK.out _ _ hS1 (fun _ => ?_)
    clear hK K
    refine wpAnyH_done (by kernel_rfl) ?_ _
    clear hi hf h1 h2
    have HC := hide (HC.out.step HB1.out)
    have HG := hide (HG.out.step HB1.out)
    have HO := hide (HO.out.step HB1.out)
    have Hg := hide (Hg.out.step HB1.out)
    have Hr := hide (Hr.out.step HB1.out)
    have BW := hide (BW.out.trans (HB1.out.mono BW.out.size))
    clear HB1 D0 hS1
    obtain ⟨R, r, hr⟩ : ∃ R r, Hid (inR c3 c4 G o = (R, r)) := ⟨_, _, rfl⟩
    go_wp2_with fail
    refine (hc.out u1 hk.out.C hk.out.G hk.out.O (sees_at SB.out BW.out)).mono ?_
    rintro e u2 ⟨v', s', rfl, hm, hn, hb⟩
    clear hk hc eg
    have OG : Hid (Has u2 w.heap.size v' R) := by have h := hm.out; rw [hr.out] at h; exact h.less BW.out.size
    have OR : Hid (ROwn u2 w.heap.size s' r) := by have h := hn.out; rw [hr.out] at h; exact h.less BW.out.size
    rw [hr.out]
    clear hm hn
    have HC := hide (HC.out.step hb.out)
    have HG := hide (HG.out.step hb.out)
    have HO := hide (HO.out.step hb.out)
    have Hg := hide (Hg.out.step hb.out)
    have Hr := hide (Hr.out.step hb.out)
    have BW := hide (BW.out.trans (hb.out.mono BW.out.size))
    clear hb
    have Hh : Hid (Bx ((u2.alloc (.cells (#[.slice none 0 0, .slice none 0 0, .int .i64 0, .int .i64 0]) 27)).alloc (.cells (#[.int .i64 0, .int .i64 0, .slice none 0 0, .slice none 0 0, .slice none 0 0]) 37)) u2.heap.size (#[.slice none 0 0, .slice none 0 0, .int .i64 0, .int .i64 0]) 27) := (Bx.new u2 (#[.slice none 0 0, .slice none 0 0, .int .i64 0, .int .i64 0]) 27).alloc _
    have Hq : Hid (Bx (((u2.alloc (.cells (#[.slice none 0 0, .slice none 0 0, .int .i64 0, .int .i64 0]) 27)).alloc (.cells (#[.int .i64 0, .int .i64 0, .slice none 0 0, .slice none 0 0, .slice none 0 0]) 37)).setRow u2.heap.size (gc v')) (u2.heap.size + 1) (#[.int .i64 0, .int .i64 0, .slice none 0 0, .slice none 0 0, .slice none 0 0]) 37) := by have h := Bx.new (u2.alloc (.cells (#[.slice none 0 0, .slice none 0 0, .int .i64 0, .int .i64 0]) 27)) (#[.int .i64 0, .int .i64 0, .slice none 0 0, .slice none 0 0, .slice none 0 0]) 37; exact Bx.far (by simpa using h) (by omega) _
    go_upto_region 5 with (first | ((with_reducible refine stG (.tmp 10) (.tmp 30) (u2.heap.size) ?_ v' ?_ (#[.slice none 0 0, .slice none 0 0, .int .i64 0, .int .i64 0]) ?_ ?_ ?_); (exact rfl); (exact rfl); (exact Hh.out); (exact rfl)) | ((with_reducible refine stR (.tmp 11) (.tmp 31) (u2.heap.size + 1) ?_ r s' ?_ (#[.int .i64 0, .int .i64 0, .slice none 0 0, .slice none 0 0, .slice none 0 0]) ?_ ?_ ?_); (exact rfl); (exact rfl); (exact Hq.out); (exact rfl)))
    obtain ⟨V, hV⟩ : ∃ V, Hid (((((u2.alloc (.cells (#[.slice none 0 0, .slice none 0 0, .int .i64 0, .int .i64 0]) 27)).alloc (.cells (#[.int .i64 0, .int .i64 0, .slice none 0 0, .slice none 0 0, .slice none 0 0]) 37)).setRow u2.heap.size (gc v')).setRow (u2.heap.size + 1) (rc r s')) = V) := ⟨_, rfl⟩
    obtain ⟨g1, hg1⟩ : ∃ g, Hid (u2.heap.size = g) := ⟨_, rfl⟩
    have BV : Hid (Below u2.heap.size u2 V) := by show Below _ _ _; rw [← hV.out]; exact row_below (row_below (((Below.refl _ _).alloc (Nat.le_refl _) _).alloc (by simp) _) (Nat.le_refl _) _) (by omega) _
    have Hh : Hid (Bx V g1 (gc v') 27) := by show Bx _ _ _ _; rw [← hV.out, ← hg1.out]; exact (Hh.out.put _).far (by omega) _
    have Hq : Hid (Bx V (g1 + 1) (rc r s') 37) := by show Bx _ _ _ _; rw [← hV.out, ← hg1.out]; exact Hq.out.put _
    have hgl : Hid (w.heap.size + 4 < g1) := by show _ < _; rw [← hg1.out]; exact Hr.out.lt
    have HC := hide (HC.out.step BV.out)
    have HG := hide (HG.out.step BV.out)
    have HO := hide (HO.out.step BV.out)
    have Hg := hide (Hg.out.step BV.out)
    have Hr := hide (Hr.out.step BV.out)
    have OG := hide (OG.out.step BV.out)
    have OR := hide (OR.out.step BV.out)
    have BW := hide (BW.out.trans (BV.out.mono BW.out.size))
    clear BV
    have hV' := hV.out
    have hg' := hg1.out
    rw [hV', hg']
    clear hV hg1 hV' hg'
    obtain ⟨er, her⟩ : ∃ er, Hid (r.er = er) := ⟨_, rfl⟩
    have k0 : V.cell? ⟨g1 + 1, 0, none⟩ = some (.int .i64 er) := by rw [← her.out]; exact Hq.out.r0
    by_cases h0 : er = 0
    · subst h0
      obtain ⟨rfl, rfl⟩ : R = D1 ∧ r = D2 := by have h := (doR_ok hr.out her.out).symm.trans hD.out; simpa using h
      go_upto_region 7 with fail
      clear k0
      have D0 := hide ((Below.refl V.heap.size V).drew)
      have hne : w.heap.size + 3 ≠ g1 ∧ w.heap.size + 3 ≠ g1 + 1 ∧ w.heap.size + 4 ≠ g1 ∧ w.heap.size + 4 ≠ g1 + 1 := by have := hgl.out; exact ⟨by omega, by omega, by omega, by omega⟩
      refine wp_region_held_drew (S := fun u => Bx u g1 (gc v') 27 ∧ Bx u (g1 + 1) (rc r s') 37) (by kernel_rfl) ⟨Hh.out.step D0.out, Hq.out.step D0.out⟩ (fun hS => ?_)
      refine wpAnyH_take (i := 0) (v := (.agg (gc v'))) rfl (by kernel_rfl) (by kernel_rfl) (by kernel_rfl) (fun _ _ _ h => h) (Or.inl ⟨by kernel_rfl, fun u hu => xlG (.tmp 10) g1 0 rfl v' hu.1.lies⟩) hS ?_
      refine wpAnyH_take (i := 1) (v := (.agg (rc r s'))) rfl (by kernel_rfl) (by kernel_rfl) (by kernel_rfl) (fun _ _ _ h => h) (Or.inl ⟨by kernel_rfl, fun u hu => xlR (.tmp 11) (g1 + 1) 0 rfl r s' hu.2.lies⟩) hS ?_
      refine wpAnyH_ready (rs := [2]) (by kernel_rfl) (by simp) ?_
      refine AllReadyH.cons rfl (fun K hK => ?_) AllReadyH.nil
      rw [if_pos (by kernel_rfl)]
      refine wp_store_row 27 (.tmp 6) (.tmp 38) rfl (w.heap.size + 3) (gc v') rfl rfl 27 (#[.slice none 0 0, .slice none 0 0, .int .i64 0, .int .i64 0]) ((Hg.out.step D0.out)) asize27 rfl (gc_one v') ?_
      go_simp
      refine hK.out _ _ (⟨hS.1.far (Ne.symm hne.1) _, hS.2.far (Ne.symm hne.2.1) _⟩) (fun hS1 => ?_)
      clear hK K
      refine wpAnyH_ready (rs := [3]) (by kernel_rfl) (by simp) ?_
      refine AllReadyH.cons rfl (fun K hK => ?_) AllReadyH.nil
      rw [if_pos (by kernel_rfl)]
      refine wp_store_row 37 (.tmp 7) (.tmp 39) rfl (w.heap.size + 4) (rc r s') rfl rfl 37 (#[.int .i64 0, .int .i64 0, .slice none 0 0, .slice none 0 0, .slice none 0 0]) ((Hr.out.step D0.out).far (by omega) _) asize37 rfl (rc_one r s') ?_
      go_simp
      refine hK.out _ _ (⟨hS1.1.far (Ne.symm hne.2.2.1) _, hS1.2.far (Ne.symm hne.2.2.2) _⟩) (fun hS2 => ?_)
      clear hK K
      refine wpAnyH_done (by kernel_rfl) ?_ _
      go_wp2_with fail
      exact bodyPost_ret (results_gr rfl _ _ (w.heap.size + 3) (w.heap.size + 4) v' r s' rfl rfl (((Hg.out.step D0.out).put (gc v')).far (by omega) _) (((Hr.out.step D0.out).far (by omega) _).put (rc r s'))) rfl ⟨v', s', rfl, ((OG.out.step D0.out).row (Hg.out.step D0.out) apG _).row ((Hr.out.step D0.out).far (by omega) _) apR _, ((OR.out.step D0.out).row (Hg.out.step D0.out) apG _).row ((Hr.out.step D0.out).far (by omega) _) apR _, row_below (row_below (Below.drew BW.out) (by omega) _) (by omega) _⟩
    · obtain ⟨rfl, rfl⟩ : G = D1 ∧ r = D2 := by have h := (doR_er hr.out (by rw [her.out]; exact h0)).symm.trans hD.out; simpa using h
      clear OG
      go_upto_region 6 with fail
      clear k0
      have D0 := hide ((Below.refl V.heap.size V).drew)
      have hne : w.heap.size + 3 ≠ g1 ∧ w.heap.size + 3 ≠ g1 + 1 ∧ w.heap.size + 4 ≠ g1 ∧ w.heap.size + 4 ≠ g1 + 1 := by have := hgl.out; exact ⟨by omega, by omega, by omega, by omega⟩
      have hHg := HG.out.step D0.out
      refine wp_region_held_drew (S := fun u => Bx u (w.heap.size + 1) (gc v) 27 ∧ Bx u (g1 + 1) (rc r s') 37) (by kernel_rfl) ⟨hHg, Hq.out.step D0.out⟩ (fun hS => ?_)
      refine wpAnyH_take (i := 0) (v := (.agg (gc v))) rfl (by kernel_rfl) (by kernel_rfl) (by kernel_rfl) (fun _ _ _ h => h) (Or.inl ⟨by kernel_rfl, fun u hu => xlG (.tmp 4) (w.heap.size + 1) 0 rfl v hu.1.lies⟩) hS ?_
      refine wpAnyH_take (i := 2) (v := (.agg (rc r s'))) rfl (by kernel_rfl) (by kernel_rfl) (by kernel_rfl) (fun _ _ _ h => h) (Or.inl ⟨by kernel_rfl, fun u hu => xlR (.tmp 11) (g1 + 1) 0 rfl r s' hu.2.lies⟩) hS ?_
      refine wpAnyH_ready (rs := [1]) (by kernel_rfl) (by simp) ?_
      refine AllReadyH.cons rfl (fun K hK => ?_) AllReadyH.nil
      go_simp
      refine (afresh_any v G _ (sees_at SB.out (Below.drew BW.out)) HF.out).mono ?_
      rintro e u3 ⟨v3, rfl, hm, hb⟩
      have OG3 : Hid (Has u3 w.heap.size v3 G) := hm.out.less (Below.drew BW.out).size
      have B3 : Hid (Below w.heap.size w u3) := (Below.drew BW.out).trans (hb.out.mono (Below.drew BW.out).size)
      refine hK.out _ _ ⟨hS.1.step hb.out, hS.2.step hb.out⟩ (fun hS1 => ?_)
      clear hK K hm
      have G3 := hide ((Hg.out.step D0.out).step hb.out)
      have R3 := hide ((Hr.out.step D0.out).step hb.out)
      have OR3 := hide ((OR.out.step D0.out).step hb.out)
      refine wpAnyH_ready (rs := [3]) (by kernel_rfl) (by simp) ?_
      refine AllReadyH.cons rfl (fun K hK => ?_) AllReadyH.nil
      rw [if_pos (by kernel_rfl)]
      refine wp_store_row 27 (.tmp 6) (.tmp 36) rfl (w.heap.size + 3) (gc v3) rfl rfl 27 (#[.slice none 0 0, .slice none 0 0, .int .i64 0, .int .i64 0]) (G3.out) asize27 rfl (gc_one v3) ?_
      go_simp
      refine hK.out _ _ (⟨hS1.1.far (by omega) _, hS1.2.far (Ne.symm hne.2.1) _⟩) (fun hS2 => ?_)
      clear hK K
      refine wpAnyH_ready (rs := [4]) (by kernel_rfl) (by simp) ?_
      refine AllReadyH.cons rfl (fun K hK => ?_) AllReadyH.nil
      rw [if_pos (by kernel_rfl)]
      refine wp_store_row 37 (.tmp 7) (.tmp 37) rfl (w.heap.size + 4) (rc r s') rfl rfl 37 (#[.int .i64 0, .int .i64 0, .slice none 0 0, .slice none 0 0, .slice none 0 0]) (R3.out.far (by omega) _) asize37 rfl (rc_one r s') ?_
      go_simp
      refine hK.out _ _ (⟨hS2.1.far (by omega) _, hS2.2.far (Ne.symm hne.2.2.2) _⟩) (fun hS3 => ?_)
      clear hK K
      refine wpAnyH_done (by kernel_rfl) ?_ _
      go_wp2_with fail
      exact bodyPost_ret (results_gr rfl _ _ (w.heap.size + 3) (w.heap.size + 4) v3 r s' rfl rfl ((G3.out.put (gc v3)).far (by omega) _) ((R3.out.far (by omega) _).put (rc r s'))) rfl ⟨v3, s', rfl, (OG3.out.row G3.out apG _).row (R3.out.far (by omega) _) apR _, (OR3.out.row G3.out apG _).row (R3.out.far (by omega) _) apR _, row_below (row_below B3.out (by omega) _) (by omega) _⟩
  · have hno : Hid (o.k < 1 ∨ 9 < o.k) := by show _ ∨ _; omega
    obtain ⟨rfl, rfl⟩ : G = D1 ∧ (⟨1, 0, [], [], []⟩ : RL) = D2 := by have h := (doR_no hno.out).symm.trans hD.out; simpa using h
    clear hin
    have D0 := hide ((Below.refl W.heap.size W).drew)
    refine wp_region_held_drew (S := fun u => Below W.heap.size W u) (by kernel_rfl) D0.out (fun hS => ?_)
    refine wpAnyH_take (i := 0) (v := .agg (fc c0 c1 c2 c3 c4)) rfl (by kernel_rfl) (by kernel_rfl) (by kernel_rfl) (fun _ _ _ h => h) (Or.inl ⟨by kernel_rfl, fun u hu => xlC (.tmp 3) (w.heap.size) 0 rfl c0 c1 c2 c3 c4 (HC.out.step hu).lies⟩) hS ?_
    refine wpAnyH_take (i := 1) (v := .agg (gc v)) rfl (by kernel_rfl) (by kernel_rfl) (by kernel_rfl) (fun _ _ _ h => h) (Or.inl ⟨by kernel_rfl, fun u hu => xlG (.tmp 4) (w.heap.size + 1) 0 rfl v (HG.out.step hu).lies⟩) hS ?_
    refine wpAnyH_take (i := 2) (v := .agg (oc o)) rfl (by kernel_rfl) (by kernel_rfl) (by kernel_rfl) (fun _ _ _ h => h) (Or.inl ⟨by kernel_rfl, fun u hu => xlO (.tmp 5) (w.heap.size + 2) 0 rfl o (HO.out.step hu).lies⟩) hS ?_
    refine wpAnyH_take (i := 4) (v := .pointer (some ⟨w.heap.size + 2, 0, none⟩)) rfl (by kernel_rfl) (by kernel_rfl) (by kernel_rfl) (fun _ _ _ h => h) (Or.inl ⟨by kernel_rfl, by intro u hu; go_simp⟩) hS ?_
    refine wpAnyH_take (i := 5) (v := .int .i64 o.k) rfl (by kernel_rfl) (by kernel_rfl) (by kernel_rfl) (fun _ _ _ h => h) (Or.inl ⟨by kernel_rfl, by intro u hu; have k0 : u.cell? ⟨w.heap.size + 2, 0, none⟩ = some (.int .i64 o.k) := (HO.out.step hu).o0; go_simp⟩) hS ?_
    refine wpAnyH_ready (rs := [3]) (by kernel_rfl) (by simp) ?_
    refine AllReadyH.cons rfl (fun K hK => ?_) AllReadyH.nil
    go_simp
    refine (kinds_any c0 c1 c2 c3 c4 v o W.drew).mono ?_
    rintro e u1 ⟨rfl, hk⟩
    have HB1 : Hid (Below W.heap.size W u1) := D0.out.trans hk.out.bel
    refine hK.out _ _ HB1.out (fun hS1 => ?_)
    clear hK K hS
    obtain ⟨y, hl0⟩ := look_no hk.out o.k hno.out hwf
    have hl : ∀ u, Below u1.heap.size u1 u → (Instr.lookup 64 (.map (some (W.heap.size + 3))) (.int .i64 o.k) true).run Tryz.prog u = .ok (.tuple #[y, .bool false]) u := hl0
    refine wpAnyH_ready (rs := [6]) (by kernel_rfl) (by simp) ?_
    refine AllReadyH.cons rfl (fun K hK => ?_) AllReadyH.nil
    have hl1 := hl u1 (Below.refl _ _)
    go_simp
    refine hK.out _ _ hS1 (fun _ => ?_)
    clear hK K hl1 hl
    refine wpAnyH_take (i := 7) (v := .tuple #[y, .bool false]) rfl (by kernel_rfl) (by kernel_rfl) (by kernel_rfl) (fun _ _ _ h => h) (Or.inl ⟨by kernel_rfl, by intro u hu; go_simp⟩) hS1 ?_
    refine wpAnyH_take (i := 8) (v := y) rfl (by kernel_rfl) (by kernel_rfl) (by kernel_rfl) (fun _ _ _ h => h) (Or.inl ⟨by kernel_rfl, by intro u hu; go_simp⟩) hS1 ?_
    refine wpAnyH_take (i := 9) (v := .bool false) rfl (by kernel_rfl) (by kernel_rfl) (by kernel_rfl) (fun _ _ _ h => h) (Or.inl ⟨by kernel_rfl, by intro u hu; go_simp⟩) hS1 ?_
    refine wpAnyH_take (i := 10) (v := y) rfl (by kernel_rfl) (by kernel_rfl) (by kernel_rfl) (fun _ _ _ h => h) (Or.inl ⟨by kernel_rfl, by intro u hu; go_simp⟩) hS1 ?_
    refine wpAnyH_ready (rs := [11]) (by kernel_rfl) (by simp) ?_
    refine AllReadyH.cons rfl (fun K hK => ?_) AllReadyH.nil
    go_simp
    refine hK.out _ _ hS1 (fun _ => ?_)
    clear hK K
    refine wpAnyH_done (by kernel_rfl) ?_ _
    have HC := hide (HC.out.step HB1.out)
    have HG := hide (HG.out.step HB1.out)
    have HO := hide (HO.out.step HB1.out)
    have Hg := hide (Hg.out.step HB1.out)
    have Hr := hide (Hr.out.step HB1.out)
    have BW := hide (BW.out.trans (HB1.out.mono BW.out.size))
    clear HB1 D0 hS1 hk
    go_wp2_with (((with_reducible refine ldG (.tmp 4) (w.heap.size + 1) (0) ?_ ?_ v ?_ ?_); (exact rfl); (exact rfl); (exact HG.out.lies)))
    refine (afresh_any v G u1 (sees_at SB.out BW.out) HF.out).mono ?_
    rintro e u2 ⟨v', rfl, hm, hb⟩
    have OG : Hid (Has u2 w.heap.size v' G) := hm.out.less BW.out.size
    clear hm
    have HC := hide (HC.out.step hb.out)
    have HG := hide (HG.out.step hb.out)
    have HO := hide (HO.out.step hb.out)
    have Hg := hide (Hg.out.step hb.out)
    have Hr := hide (Hr.out.step hb.out)
    have BW := hide (BW.out.trans (hb.out.mono BW.out.size))
    clear hb
    have HX := hide (Hr.out.far (k := w.heap.size + 3) (by omega) (gc v'))
    go_wp2_with (first | ((with_reducible refine stG (.tmp 6) (.tmp 25) (w.heap.size + 3) ?_ v' ?_ (#[.slice none 0 0, .slice none 0 0, .int .i64 0, .int .i64 0]) ?_ ?_ ?_); (exact rfl); (exact rfl); (exact Hg.out); (exact rfl)) | ((with_reducible refine stR (.tmp 7) (.tmp 26) (w.heap.size + 4) ?_ ⟨1, 0, [], [], []⟩ noS3 ?_ (#[.int .i64 0, .int .i64 0, .slice none 0 0, .slice none 0 0, .slice none 0 0]) ?_ ?_ ?_); (exact rfl); (exact rfl); (exact HX.out); (exact rfl)))
    exact bodyPost_ret (results_gr rfl _ _ (w.heap.size + 3) (w.heap.size + 4) v' ⟨1, 0, [], [], []⟩ noS3 rfl rfl ((Hg.out.put _).far (by omega) _) (HX.out.put _)) rfl ⟨v', noS3, rfl, (OG.out.row Hg.out apG _).row HX.out apR _, ROwn.nil, row_below (row_below BW.out (by omega) _) (by omega) _⟩

end Go.Proofs.YtiiadkjiofkonaaGreat
