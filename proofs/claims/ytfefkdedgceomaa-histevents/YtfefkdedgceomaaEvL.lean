/- Words for the law on events: what counts how often an event was met; loads. No conditions. -/
import Derived.Test.YtfefkdedgceomaaWLive
import Derived.Test.YtfefkdedgceomaaLMath
import Derived.Deep.RegionHeld3
import Derived.Laws.OwnMore
namespace Go.Proofs.Ytfefkdedgceomaa
open Go.RowKit
set_option linter.unusedVariables false
set_option maxRecDepth 100000

def rowF (N : Nat) (F : Nat → Int) : List Int := (List.range N).map F
theorem rowF_set (N : Nat) (F : Nat → Int) (j : Nat) (v : Int) : (ints (rowF N F)).set j (.int .i64 v) = ints (rowF N (fun m => if m = j then v else F m)) := by
  apply List.ext_getElem?
  intro i
  rw [List.getElem?_set]
  unfold ints rowF
  simp only [List.map_map, List.length_map, List.length_range, List.getElem?_map]
  by_cases h : j = i
  · subst h
    by_cases h2 : j < N
    · simp [h2]
    · simp [h2]
  · rw [if_neg h]
    by_cases h2 : i < N
    · simp [h2, Ne.symm h]
    · simp [h2]
def CntIs (F : Nat → Int) (C : List Cl) (N k : Nat) : Prop := ∀ m, m < N → F m = cnt (C.take k) m
theorem cnt_start (C : List Cl) (N : Nat) : CntIs (fun _ => 0) C N 0 := fun m _ => by simp [cnt]
theorem make_rows {P : Program} (t e : TypeId) (i : TypeInfo) (z : Value) (ht : P.underlying t = some (.slice e)) (hi : P.info? e = some i) (hz : i.zero = some z) (n : Nat) (hbytes : i.bytes * n ≤ 281474976710656) (h63 : n ≤ 9223372036854775807) (w : World) :
    (Instr.makeSlice t (.int .i64 (n : Int)) (.int .i64 (n : Int))).run P w = .ok (.slice (some ⟨w.heap.size, 0, none⟩) n n) (w.alloc (.cells (madeCells z.cells (n * i.size)) e)) := by
  have hb : (i.bytes : Int) * (n : Int) ≤ 281474976710656 := by
    have h : ((i.bytes * n : Nat) : Int) ≤ 281474976710656 := by omega
    rwa [Int.natCast_mul] at h
  have hr := run_make (P := P) w t e i z ht hi hz .i64 .i64 n n (by omega) (by omega) hb (by omega)
  simpa only [Int.toNat_natCast] using hr
theorem infoI : (Try.prog.info? 3).map (fun i => (i.zero, i.size, i.bytes)) = some (some (.int .i64 0), 1, 8) := by kernel_rfl
theorem make_ints (n : Nat) (hn : n ≤ 200) : ∃ Z : Array Value, Hid (Z = (List.replicate n (Value.int .i64 0)).toArray) ∧ ∀ w : World, (Instr.makeSlice 43 (.int .i64 (n : Int)) (.int .i64 (n : Int))).run Try.prog w = .ok (.slice (some ⟨w.heap.size, 0, none⟩) n n) (w.alloc (.cells Z 3)) := by
  obtain ⟨i0, hi0, hz0, hz1, hz2⟩ := info_parts infoI
  refine ⟨_, rfl, fun w => ?_⟩
  rw [make_rows 43 3 i0 (.int .i64 0) Try.underlying43 hi0 hz0 n (by rw [hz2]; omega) (by omega) w, hz1, Nat.mul_one]
  rw [show (Value.int IntKind.i64 0).cells = #[Value.int .i64 0] from rfl, ← toList_madeCells_one]
theorem met_start (w : World) (N : Nat) (Z : Array Value) (hZ : Z = (List.replicate N (Value.int .i64 0)).toArray) (hN : N ≤ 100) : (w.alloc (.cells Z 3)).ownsRow w.heap.size 3 1 (.slice (some ⟨w.heap.size, 0, none⟩) N N) N (ints (rowF N (fun _ => 0))) := by
  have e : ints (rowF N (fun _ => 0)) = List.replicate N (Value.int .i64 0) := by
    apply List.ext_getElem
    · simp [ints, rowF]
    · intro i h1 h2; simp [ints, rowF]
  refine ⟨by simp [ints, rowF], .inr ⟨w.heap.size, N, Z, rfl, Nat.le_refl _, heap_alloc_new w _, Nat.le_refl _, by simp only [maxLen]; omega, by rw [hZ]; simp, ?_⟩⟩
  rw [e, hZ]
  simp
theorem row_cell {w : World} {B g N j : Nat} {F : Nat → Int} (h : w.ownsRow B 3 1 (.slice (some ⟨g, 0, none⟩) N N) N (ints (rowF N F))) (hj : j < N) : w.cell? ⟨g, j, none⟩ = some (.int .i64 (F j)) := by
  obtain ⟨b, off, e, _, hc⟩ := (own_nums h).2 (by omega)
  simp only [Option.some.injEq, Addr.mk.injEq, and_true] at e
  obtain ⟨rfl, rfl⟩ := e
  have := hc j (by omega)
  rw [Nat.zero_add] at this
  rw [this]
  simp [rowF, List.getD_eq_getElem?_getD, hj]
theorem cnt_one_more {F : Nat → Int} {C : List Cl} {N k f vf : Nat} (h : CntIs F C N k) (hk : k < C.length) (hf : (C.getD k noCl).f = f) (hv : F f = vf) (he : (C.getD k noCl).e = -1) : CntIs (fun m => if m = f then (vf : Int) + 1 else F m) C N (k + 1) := fun m hm => by
  have e := cnt_take hk (m : Int)
  have h1 := h m hm
  rw [hf, he, if_neg (show ¬ ((-1 : Int) = m) by omega)] at e
  show (if m = f then (vf : Int) + 1 else F m) = _
  rw [e]
  by_cases x : m = f
  · rw [if_pos x, if_pos (show (f : Int) = m by omega)]
    rw [x] at h1 ⊢
    omega
  · rw [if_neg x, if_neg (show ¬ ((f : Int) = m) by omega)]
    omega
theorem cnt_two_more {F : Nat → Int} {C : List Cl} {N k f e vf ve : Nat} (h : CntIs F C N k) (hk : k < C.length) (hf : (C.getD k noCl).f = f) (hv : F f = vf) (he : (C.getD k noCl).e = e) (hw : F e = ve) (hfe : f < e) : CntIs (fun m => if m = e then (ve : Int) + 1 else if m = f then (vf : Int) + 1 else F m) C N (k + 1) := fun m hm => by
  have q := cnt_take hk (m : Int)
  have h1 := h m hm
  rw [hf, he] at q
  show (if m = e then (ve : Int) + 1 else if m = f then (vf : Int) + 1 else F m) = _
  rw [q]
  by_cases y : m = e
  · rw [if_pos y, if_neg (show ¬ ((f : Int) = m) by omega), if_pos (show (e : Int) = m by omega)]
    rw [y] at h1 ⊢
    omega
  · rw [if_neg y, if_neg (show ¬ ((e : Int) = m) by omega)]
    by_cases x : m = f
    · rw [if_pos x, if_pos (show (f : Int) = m by omega)]
      rw [x] at h1 ⊢
      omega
    · rw [if_neg x, if_neg (show ¬ ((f : Int) = m) by omega)]
      omega
theorem cnt_le (C : List Cl) (m : Int) : cnt C m ≤ 2 * C.length := by
  have h1 := List.countP_le_length (p := fun c : Cl => decide (c.f = m)) (l := C)
  have h2 := List.countP_le_length (p := fun c : Cl => decide (c.e = m)) (l := C)
  unfold cnt
  omega
theorem exec_neq {a : Act} {u : World} {dst : Option Tmp} {ty : TypeId} {pos : String} {af : Array Edge} {gd : Option (Nat × Bool)} (x y : Nat) (o p : O5) (h : o = p) (hx : a.eval (.tmp x) = .agg (oc o)) (hy : a.eval (.tmp y) = .agg (oc p)) :
    (execOp a.eval ⟨dst, .binOp .neq 33 (.tmp x) (.tmp y) 33, ty, pos, af, gd⟩).run Try.prog u = .ok (.value (.bool false)) u := by
  subst h
  have u3 := Try.underlying3
  have a3 := Try.isAgg3
  have z3 := Try.sizeOf3
  obtain ⟨k1, a1, b1, q1, v1⟩ := o
  unfold execOp
  simp only [hx, hy]
  unfold oc
  go_simp
theorem exec33 {a : Act} {u : World} {dst : Option Tmp} {ty : TypeId} {pos : String} {af : Array Edge} {gd : Option (Nat × Bool)} (x : Operand) (g off : Nat) (hx : a.eval x = .pointer (some ⟨g, off, none⟩)) (o : O5) (HG : Lies u g off (oc o)) :
    (execOp a.eval ⟨dst, .load 33 x, ty, pos, af, gd⟩).run Try.prog u = .ok (.value (.agg (oc o))) u := by
  have hl : (loadCells ⟨g, off, none⟩ (oc o).toList.length).run Try.prog u = .ok (oc o).toList.toArray u :=
    run_loadCells_list (P := Try.prog) u ⟨g, off, none⟩ (oc o).toList (fun j v hv => by
      have hadd : (⟨g, off, none⟩ : Addr).add j = ⟨g, off + j, none⟩ := by unfold Addr.add; split <;> simp_all
      rw [hadd]
      exact HG j v hv)
  have hr : (loadVar 33 ⟨g, off, none⟩).run Try.prog u = .ok (.agg (oc o)) u := by
    have hi := size33
    cases hq : Try.prog.info? 33 with
    | none => simp [hq] at hi
    | some i =>
      have hs : i.size = (oc o).size := by
        have h : i.size = 5 := by simpa [hq] using hi
        exact h
      have hagg : (isAgg 33).run Try.prog u = .ok true u := by
        unfold isAgg
        rw [Sem.run_bind, run_underlying Try.underlying33 u]
        rfl
      simp only [Array.length_toList, Array.toArray_toList] at hl
      simp [loadVar, Sem.run_bind, hagg, sizeOf, typeInfo, hq, hs, hl]
  unfold execOp
  simp only [hx, Instr.loadAt, Instr.sureAddr, Sem.run_bind, Sem.run_pure, Result.andThen_ok, hr]
theorem exec37 {a : Act} {u : World} {dst : Option Tmp} {ty : TypeId} {pos : String} {af : Array Edge} {gd : Option (Nat × Bool)} (x : Operand) (g off : Nat) (hx : a.eval x = .pointer (some ⟨g, off, none⟩)) (r : RL) (z : S3) (HG : Lies u g off (rc r z)) :
    (execOp a.eval ⟨dst, .load 37 x, ty, pos, af, gd⟩).run Try.prog u = .ok (.value (.agg (rc r z))) u := by
  have hl : (loadCells ⟨g, off, none⟩ (rc r z).toList.length).run Try.prog u = .ok (rc r z).toList.toArray u :=
    run_loadCells_list (P := Try.prog) u ⟨g, off, none⟩ (rc r z).toList (fun j v hv => by
      have hadd : (⟨g, off, none⟩ : Addr).add j = ⟨g, off + j, none⟩ := by unfold Addr.add; split <;> simp_all
      rw [hadd]
      exact HG j v hv)
  have hr : (loadVar 37 ⟨g, off, none⟩).run Try.prog u = .ok (.agg (rc r z)) u := by
    have hi := size37
    cases hq : Try.prog.info? 37 with
    | none => simp [hq] at hi
    | some i =>
      have hs : i.size = (rc r z).size := by
        have h : i.size = 5 := by simpa [hq] using hi
        exact h
      have hagg : (isAgg 37).run Try.prog u = .ok true u := by
        unfold isAgg
        rw [Sem.run_bind, run_underlying Try.underlying37 u]
        rfl
      simp only [Array.length_toList, Array.toArray_toList] at hl
      simp [loadVar, Sem.run_bind, hagg, sizeOf, typeInfo, hq, hs, hl]
  unfold execOp
  simp only [hx, Instr.loadAt, Instr.sureAddr, Sem.run_bind, Sem.run_pure, Result.andThen_ok, hr]
end Go.Proofs.Ytfefkdedgceomaa
