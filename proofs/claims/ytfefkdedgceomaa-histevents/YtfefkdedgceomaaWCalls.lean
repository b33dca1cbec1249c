/- A history's calls: the code. Conditions: not many events, lists that are not great. -/
import Derived.Test.YtfefkdedgceomaaCMap
import Derived.WalkKit
import Derived.Below
import Derived.Deep.QuietTactic
import Derived.BigQuiet
import Derived.Deep.AppendLies
import Derived.Deep.RegionHeld3
import Derived.Deep.DeepCutAuto
import Derived.Shelf.Abstract
import Derived.Laws.Rows
namespace Go.Proofs.Ytfefkdedgceomaa
open Go.RowKit Go.Maps
set_option linter.unusedVariables false
set_option maxRecDepth 100000

theorem info39 : (Try.prog.info? 39).map (fun i => (i.zero, i.size, i.bytes)) = some (some (.agg zero39), 13, 152) := by kernel_rfl
theorem cells_new (w : World) (cs : List Value) (t g : Nat) (hg : g = w.heap.size) : ∀ j u, cs[j]? = some u → (w.alloc (.cells cs.toArray t)).cell? ((⟨g, 0, none⟩ : Addr).add j) = some u := by
  intro j u hu
  subst hg
  rw [Addr.add_lit, Nat.zero_add, cell_of_row _ w.heap.size j _ t (0, 0) (heap_alloc_new w _)]
  simpa using hu
abbrev zero45 : Array Value := #[.int .i64 0, .bool false, .int .i64 0, .int .i64 0, .int .i64 0, .int .i64 0, .int .i64 0, .int .i64 0, .int .i64 0, .slice none 0 0, .slice none 0 0, .slice none 0 0]
open Classical in
noncomputable def resE (L : List Ev) : Int := if May L then 0 else 1
open Classical in
noncomputable def resC (L : List Ev) : List Cl := if May L then calls L else []
theorem resE_yes {L : List Ev} (h : May L) : resE L = 0 := by unfold resE; rw [if_pos h]
theorem resC_yes {L : List Ev} (h : May L) : resC L = calls L := by unfold resC; rw [if_pos h]
theorem resE_no {L : List Ev} (h : ¬ May L) : resE L = 1 := by unfold resE; rw [if_neg h]
theorem resC_no {L : List Ev} (h : ¬ May L) : resC L = [] := by unfold resC; rw [if_neg h]

abbrev MapW (u : World) (b m : Nat) (D : DataW Unit) : Prop := u.ownsMap Try.prog 3 (plainElem Try.prog 3) b m D
theorem map_same {u u' : World} {b m : Nat} {D : DataW Unit} (h : MapW u b m D) (hb : u'.heap[b]? = u.heap[b]?) : MapW u' b m D := by
  obtain ⟨es, clock, h1, h2⟩ := h
  exact ⟨es, clock, hb.trans h1, h2⟩
theorem map_step {u u' : World} {b m : Nat} {D : DataW Unit} (h : MapW u b m D) (hb : Below u.heap.size u u') : MapW u' b m D := map_same h (hb.block b h.lt)
/-- The state of the loop. -/
structure St (w wr : World) (L : List Ev) (k : Nat) (v : Sl) (Z : List CZ) (D : DataW Unit) (m : Nat) : Prop where
  own : Own wr (w.heap.size + 1) v Z
  eq : Z.map (·.1) = calls (L.take k)
  may : May (L.take k)
  map : MapW wr w.heap.size m D
  is : MapIs D (calls (L.take k))
  cnt : m ≤ k
  bel : Below w.heap.size w wr
section
variable {w wr u u' : World} {L : List Ev} {k m : Nat} {v : Sl} {Z : List CZ} {D : DataW Unit}
theorem St.start (w : World) (L : List Ev) : St w (w.alloc (.map #[] 0)) L 0 noSl [] (.map []) 0 :=
  ⟨Own.nil _ _, rfl, by rw [List.take_zero]; exact May.nil, World.ownsMap_made _ _ _ _, by rw [List.take_zero]; exact MapIs.nil, Nat.le_refl _, (Below.refl _ _).alloc (Nat.le_refl _) _⟩
theorem St.step (s : St w u L k v Z D m) (b : Below u.heap.size u u') : St w u' L k v Z D m :=
  ⟨s.own.step b, s.eq, s.may, map_step s.map b, s.is, s.cnt, s.bel.trans (b.mono s.bel.size)⟩
theorem St.many (s : St w u L k v Z D m) : v.n = (calls (L.take k)).length := by rw [s.own.many, ← s.eq]; simp
theorem getD_map (Z : List CZ) (i : Nat) (h : i < Z.length) : (Z.map (·.1)).getD i noCl = (Z.getD i noCZ).1 := by simp [List.getD_eq_getElem?_getD, h]
theorem calls_le : ∀ (L : List Ev) (k : Nat), (calls (L.take k)).length ≤ k := by
  intro L k
  have : ∀ l : List Ev, (calls l).length ≤ l.length := by
    refine snoc_ind (by simp [calls_nil]) fun l x ih => ?_
    rw [calls_snoc, upd_len, List.length_append]
    split <;> simp <;> omega
  have := this (L.take k)
  simp at this
  omega
/-- A call begins. -/
theorem St.begin {x : Ev} {w1 w2 : World} {A : Option Addr} {n c g c4 H : Nat} (hk : k < L.length) (hx : L.getD k noEv = x) (s : St w u L k ⟨A, n, c⟩ Z D m) (ho : ∀ i, ¬ Open (calls (L.take k)) x.t i) (hg : Good x (calls (L.take k))) (hd : x.d = false)
    (hown1 : MapW w1 w.heap.size (m + 1) (D.put (key x.t) (num (n : Int)))) (hgrow1 : u.grownBy w1 (some w.heap.size))
    (hown : w2.ownsRow (w.heap.size + 1) 39 13 (.slice (some ⟨g, 0, none⟩) (n + 1) c4) (n + 1) (cellsL Z ++ (cc (new x k) noS3).toList)) (hg2 : (w1.alloc (.cells (cc (new x k) noS3) 39)).grownBy w2 (Value.slice A n c).ownBlock) (hat : (Value.slice A n c).ownBlock = some g ∨ g = H) (hH : w1.heap.size ≤ H) (hH1 : H = w1.heap.size + 1) :
    St w w2 L (k + 1) ⟨some ⟨g, 0, none⟩, n + 1, c4⟩ (Z ++ [(new x k, noS3)]) (D.put (key x.t) (num (n : Int))) (m + 1) := by
  have hn : n = (calls (L.take k)).length := s.many
  have e1 : calls (L.take (k + 1)) = calls (L.take k) ++ [new x k] := by rw [calls_step hk, hx, upd_call ho hd]
  have o1 : Own w1 (w.heap.size + 1) ⟨A, n, c⟩ Z := s.own.map hgrow1 (map_block s.map)
  have bA : Below w1.heap.size w1 (w1.alloc (.cells (cc (new x k) noS3) 39)) := (Below.refl _ _).alloc (Nat.le_refl _) _
  have oA := o1.step bA
  have b1 : Below w.heap.size w w1 := s.bel.grown hgrow1 s.bel.size fun j hj => by cases hj; exact Nat.le_refl _
  have bw : Below w.heap.size w (w1.alloc (.cells (cc (new x k) noS3) 39)) := b1.alloc b1.size _
  refine ⟨oA.app (RSee.nil _ _) (fun b hb h => hasR_nil h) (fun b h => (hasR_nil h).elim) hown hg2 hat (by simp; omega), ?_, ?_, ?_, ?_, by have := s.cnt; omega, ?_⟩
  · rw [e1, List.map_append, s.eq]; rfl
  · rw [may_step hk, hx]; exact ⟨s.may, hg⟩
  · have hm := map_step hown1 bA
    refine map_same hm (hg2.block _ hm.lt fun e => ?_)
    have := (oA.lt e.symm).1
    omega
  · rw [e1, show (num (n : Int)) = num ((calls (L.take k)).length : Nat) by rw [hn]]
    exact s.is.put s.map.isMap ho
  · exact bw.grown hg2 bw.size fun j hj => by have := (oA.lt hj).1; omega
/-- A call comes to its result. -/
theorem St.done {x : Ev} {w1 u2 : World} {n c g i0 : Nat} {z : S3} (hk : k < L.length) (hx : L.getD k noEv = x) (s : St w u L k ⟨some ⟨g, 0, none⟩, n, c⟩ Z D m) (ho : Open (calls (L.take k)) x.t i0) (hg : Good x (calls (L.take k))) (hd : x.d = true)
    (hown1 : MapW w1 w.heap.size m (D.del (key x.t))) (hgrow1 : u.grownBy w1 (some w.heap.size)) (hb : Below w1.heap.size w1 u2) (R : RSee u2 u2.heap.size z x.r) (hz : ∀ b, HasR z b → w1.heap.size ≤ b) :
    St w (putL (u2.setCell ⟨g, i0 * 13 + 7, none⟩ (.int .i64 k)) g (i0 * 13 + 8) (rc x.r z).toList) L (k + 1) ⟨some ⟨g, 0, none⟩, n, c⟩ (Z.set i0 (done1 (Z.getD i0 noCZ) k x.r z)) (D.del (key x.t)) m := by
  have hn : n = (calls (L.take k)).length := s.many
  have hl : Z.length = (calls (L.take k)).length := by rw [← s.eq]; simp
  have hi : i0 < Z.length := by rw [hl]; exact ho.1
  have hu := fun j (hj : Open (calls (L.take k)) x.t j) => one_open s.may hj ho
  have e1 : calls (L.take (k + 1)) = (calls (L.take k)).set i0 { (calls (L.take k)).getD i0 noCl with e := k, r := x.r } := by
    rw [calls_step hk, hx]
    exact upd_done s.may ho hd
  have o1 : Own w1 (w.heap.size + 1) ⟨some ⟨g, 0, none⟩, n, c⟩ Z := s.own.map hgrow1 (map_block s.map)
  have o2 := o1.step hb
  have hgl := o1.lt (b := g) rfl
  have b1 : Below w.heap.size w w1 := s.bel.grown hgrow1 s.bel.size fun j hj => by cases hj; exact Nat.le_refl _
  have b2 : Below w.heap.size w u2 := b1.trans (hb.mono b1.size)
  have hq : ¬ HasR z g := fun h => by have := hz g h; omega
  refine ⟨o2.put hi R hq, ?_, ?_, ?_, ?_, by have := s.cnt; omega, ?_⟩
  · rw [e1, List.map_set, s.eq, ← s.eq, getD_map Z i0 hi]; rfl
  · rw [may_step hk, hx]; exact ⟨s.may, hg⟩
  · refine map_same (map_step hown1 hb) ?_
    rw [putL_other (by omega)]
    exact heap_setCell_other u2 ⟨g, i0 * 13 + 7, none⟩ w.heap.size _ (by show w.heap.size ≠ g; omega)
  · rw [e1]
    exact s.is.del ho hu (by omega)
  · exact putL_below _ _ _ (b2.setCell (p := ⟨g, i0 * 13 + 7, none⟩) (by show _ ≤ g; omega) _) (by omega)
end

section
variable {ops : Array Oper} {rest : List Oper} {a : Act} {w : World} {Q : Exit → Act → World → Prop} {dst : Option Tmp} {ty : TypeId} {pos : String} {af : Array Edge} {gd : Option (Nat × Bool)}
/-- An operation is loaded, written out. -/
theorem ld33l (x : Operand) (g off : Nat) (hw : Region.wanted ⟨dst, .load 33 x, ty, pos, af, gd⟩ (yielded ops a.tmps) = true) (hx : a.eval x = .pointer (some ⟨g, off, none⟩)) (o : O5) (HG : Lies w g off (oc o)) (h : wpList Try.prog ops Q rest (a.put dst (.agg #[.int .i64 o.k, .int .i64 o.a, .int .i64 o.b, .int .i64 o.q, .int .i64 o.v])) w) :
    wpList Try.prog ops Q (⟨dst, .load 33 x, ty, pos, af, gd⟩ :: rest) a w := ld33 x g off hw hx o HG h
/-- A result is stored into a row of calls. -/
theorem st37r (x y : Operand) (base g off n c : Nat) (xs : List Value) (hx : a.eval x = .pointer (some ⟨g, off, none⟩)) (e : RL) (s : S3) (hy : a.eval y = .agg (rc e s)) (h : w.ownsRow base 39 13 (.slice (some ⟨g, 0, none⟩) n c) n xs) (hl : off + 5 ≤ n * 13) (H : wpList Try.prog ops Q rest (a.put dst undef) (putL w g off (rc e s).toList)) :
    wpList Try.prog ops Q (⟨dst, .store 37 x y, ty, pos, af, none⟩ :: rest) a w := by
  have hr : (storeVar 37 ⟨g, off, none⟩ (.agg (rc e s))).run Try.prog w = .ok () (putL w g off (rc e s).toList) := by
    have h1 : ∀ v ∈ (rc e s).toList, v.oneCell' = true := fun v hv => by
      have := rc_one e s
      rw [Array.all_eq_true'] at this
      exact this v (by simpa using hv)
    have := run_putL (P := Try.prog) off (rc e s).toList 0 w xs h (by show off + 0 + 5 ≤ _; omega) h1
    have hi := size37
    cases hq : Try.prog.info? 37 with
    | none => simp [hq] at hi
    | some i =>
      have hs : (rc e s).size = i.size := by simp [hq] at hi; rw [hi]; rfl
      simp [storeVar, sizeOf, typeInfo, hq, Value.cells, hs, this]
  refine wpList_plain rfl fun _ hK => ?_
  unfold Oper.wp execOp
  simp only [hx, hy, Instr.storeAt, Instr.sureAddr, Sem.run_bind, Sem.run_pure, Result.andThen_ok, hr]
  exact hK _ _ H
end
section
variable {ops : Array Oper} {rest : List Oper} {o : Oper} {a : Act} {w : World} {Q : Exit → Act → World → Prop}
/-- The call of a thread that is open is looked up; none is. -/
theorem look_yes (hg : o.guard = none) (mp x : Operand) (hop : o.op = Op.lookup 47 mp x true) (b n i : Nat) (D : DataW Unit) (hm : a.eval mp = .map (some b)) (hown : MapW w b n D) (t : Int) (hx : a.eval x = .int .i64 t) (hkey : keyOf Try.prog 3 (.int .i64 t) = some (key t))
    (hh : has D (key t) = true ∧ D.atKey (key t) (num 0) = num i) (h : wpList Try.prog ops Q rest (a.put o.dst (.tuple #[.int .i64 i, .bool true])) w) : wpList Try.prog ops Q (o :: rest) a w := by
  refine wpList_lookup_own_ok_int w hg mp x 47 hop 3 3 .i64 law3 Try.underlying47 Try.underlying3 (zero3 _) b n D hm hown _ _ hx hkey ?_
  intro c hat _
  rw [show D.atKey (key t) (.lit (.int .i64 0)) = num i from hh.2] at hat
  obtain rfl : (i : Int) = c := by simpa using hat
  rw [hh.1]
  exact h
theorem look_no (hg : o.guard = none) (mp x : Operand) (hop : o.op = Op.lookup 47 mp x true) (b n : Nat) (D : DataW Unit) (hm : a.eval mp = .map (some b)) (hown : MapW w b n D) (t : Int) (hx : a.eval x = .int .i64 t) (hkey : keyOf Try.prog 3 (.int .i64 t) = some (key t))
    (hh : has D (key t) = false) (h : ∀ c : Int, wpList Try.prog ops Q rest (a.put o.dst (.tuple #[.int .i64 c, .bool false])) w) : wpList Try.prog ops Q (o :: rest) a w := by
  refine wpList_lookup_own_ok_int w hg mp x 47 hop 3 3 .i64 law3 Try.underlying47 Try.underlying3 (zero3 _) b n D hm hown _ _ hx hkey ?_
  intro c _ _
  rw [hh]
  exact h c
end
theorem small_wf {n : Nat} (h : n ≤ 100000) : (Lit.int .i64 (n : Int)).wf = true := by
  have h1 : IntKind.i64.min = -9223372036854775808 := by decide
  have h2 : IntKind.i64.max = 9223372036854775807 := by decide
  simp only [Lit.wf, h1, h2, Bool.and_eq_true, decide_eq_true_eq]
  omega
theorem Bx.grownB {u u' : World} {g : Nat} {cs : Array Value} {t : TypeId} {row : Option Nat} (h : Bx u g cs t) (hg : u.grownBy u' row) (hne : ∀ b, row = some b → g ≠ b) : Bx u' g cs t :=
  (hg.block g h.lt fun e => hne g e.symm rfl).trans h
theorem list_one {cs : Array Value} (h : cs.all (·.oneCell') = true) : ∀ v ∈ cs.toList, v.oneCell' = true := fun v hv => by
  rw [Array.all_eq_true'] at h
  exact h v (by simpa using hv)
end Go.Proofs.Ytfefkdedgceomaa
