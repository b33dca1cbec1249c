/- Rows of operations that are the call's own. No conditions. -/
import Derived.Test.YtiiadkjiofkonaaAB3
import Derived.Test.YtiiadkjiofkonaaGStep
import Derived.Test.YtiiadkjiofkonaaRLaws
import Derived.WalkKit
import Derived.Below
import Derived.Deep.QuietTactic
import Derived.BigQuiet
import Derived.Deep.AppendLies
import Derived.Deep.RegionHeld3
import Derived.Deep.DeepCutAuto
import Derived.Shelf.Abstract
namespace Go.Proofs.Ytiiadkjiofkonaa
open Go.RowKit
set_option linter.unusedVariables false
set_option maxRecDepth 100000

def cellsO (l : List O5) : List Value := l.flatMap fun o => (oc o).toList
theorem oc_len (o : O5) : (oc o).toList.length = 5 := rfl
theorem cellsO_cons (o : O5) (l : List O5) : cellsO (o :: l) = (oc o).toList ++ cellsO l := rfl
theorem cellsO_app (l m : List O5) : cellsO (l ++ m) = cellsO l ++ cellsO m := by simp [cellsO]
theorem cellsO_len (l : List O5) : (cellsO l).length = l.length * 5 := by
  induction l with
  | nil => rfl
  | cons o l ih => rw [cellsO_cons, List.length_append, ih, oc_len, List.length_cons]; omega
theorem cellsO_at : ∀ (l : List O5) (k j : Nat), k < l.length → j < 5 → (cellsO l)[k * 5 + j]? = (oc (l.getD k noO))[j]?
  | [], k, j, h, _ => by simp at h
  | o :: l, 0, j, _, hj => by
    rw [cellsO_cons, Nat.zero_mul, Nat.zero_add, List.getElem?_append_left (by rw [oc_len]; exact hj)]
    simp
  | o :: l, k + 1, j, h, hj => by
    rw [cellsO_cons, List.getElem?_append_right (by rw [oc_len]; omega), oc_len, show (k + 1) * 5 + j - 5 = k * 5 + j by omega, cellsO_at l k j (by simpa using h) hj]
    simp
theorem cellsO_one (l : List O5) : ∀ u ∈ cellsO l, u.oneCell' = true := by
  intro u hu
  unfold cellsO at hu
  obtain ⟨o, _, ho⟩ := List.mem_flatMap.1 hu
  have := oc_one o
  rw [Array.all_eq_true'] at this
  exact this u (by simpa using ho)
section
variable {w u : World} {B n c : Nat} {s : Sl} {l m : List O5} {A : Option Addr}
theorem Ops.nil_ (p : Ops w B s l) : s.A = none → s.n = 0 := fun e => by
  rcases Nat.eq_zero_or_pos s.n with h | h
  · exact h
  · obtain ⟨b, off, e', _⟩ := p.2.2 h
    rw [e] at e'
    cases e'
theorem Ops.news (p : Ops w B s l) : ∀ ad, s.A = some ad → ∀ j u, (cellsO l)[j]? = some u → w.cell? (ad.add j) = some u := by
  intro ad ea j u hj
  have hl := p.1
  have hjl : j < l.length * 5 := by
    have := (List.getElem?_eq_some_iff.1 hj).1
    rwa [cellsO_len] at this
  obtain ⟨b, off, e, _, h⟩ := p.2.2 (by omega)
  rw [ea] at e
  injection e with e
  subst e
  have hadd : (⟨b, off, none⟩ : Addr).add j = ⟨b, off + j, none⟩ := by unfold Addr.add; split <;> simp_all
  rw [hadd]
  have ej : j = j / 5 * 5 + j % 5 := by omega
  have h1 := cellsO_at l (j / 5) (j % 5) (by omega) (by omega)
  rw [← ej, hj] at h1
  have := h (j / 5) (by omega) (j % 5) u (by rw [h1]; simp)
  rw [ej, ← Nat.add_assoc]
  exact this
theorem own_ops (h : u.ownsRow B 62 5 (.slice A n c) n (cellsO l)) : Ops u u.heap.size ⟨A, n, c⟩ l := by
  have hl : l.length = n := by have := h.1; rw [cellsO_len] at this; omega
  refine ⟨hl, own_nil_cap h, fun hn => ?_⟩
  dsimp only at hn ⊢
  rcases h.2 with ⟨_, h0⟩ | ⟨g, cap, cur, hv, hB, hg, _, _, _, ht⟩
  · omega
  · refine ⟨g, 0, by injection hv, (Array.getElem?_eq_some_iff.1 hg).1, fun i hi j x hx => ?_⟩
    have hj : j < 5 := (List.getElem?_eq_some_iff.1 hx).1
    have h1 := cellsO_at l i j (by omega) hj
    have h2 : (cellsO l)[i * 5 + j]? = some x := h1.trans (by simpa using hx)
    rw [cell_of_row u g _ cur 62 (0, 0) hg, Nat.zero_add]
    have h := congrArg (fun l : List Value => l[i * 5 + j]?) ht
    have hj2 : i * 5 + j < n * 5 := by omega
    simp only [List.getElem?_take, hj2, if_true, Array.getElem?_toList] at h
    rw [h, h2]
theorem ROws.aside {u w2 : World} {B B' n c n2 c2 : Nat} {A A2 : Option Addr} {xs : List Value} {Z2 : List RZ} {o : Obj} (q : ROws u B' A2 n2 c2 Z2) (R : u.ownsRow B 64 5 (.slice A n c) n xs) (hg : (u.alloc o).grownBy w2 (Value.slice A n c).ownBlock) (h : Apt (.slice A n c) (.slice A2 n2 c2)) : ROws w2 B' A2 n2 c2 Z2 :=
  ⟨grow_same hg q.rows h, fun i hi => (q.rd i hi).grown R hg⟩
theorem rc_all (r : RL) (s : S3) : ∀ u ∈ (rc r s).toList, u.oneCell' = true := fun v hv => by
  have := rc_one r s
  rw [Array.all_eq_true'] at this
  exact this v (by simpa using hv)
theorem Wf.app (h : Wf l) (h' : Wf m) : Wf (l ++ m) := fun o ho => by
  rcases List.mem_append.1 ho with h1 | h1
  · exact h o h1
  · exact h' o h1
end
section
variable {ops : Array Oper} {rest : List Oper} {a : Act} {w : World} {Q : Exit → Act → World → Prop} {dst : Option Tmp} {ty : TypeId} {pos : String} {af : Array Edge} {gd : Option (Nat × Bool)}
/-- A result is loaded, written out. -/
theorem ldRl (x : Operand) (g off : Nat) (hw : Region.wanted ⟨dst, .load 64 x, ty, pos, af, gd⟩ (yielded ops a.tmps) = true) (hx : a.eval x = .pointer (some ⟨g, off, none⟩)) (r : RL) (s : S3) (HG : Lies w g off (rc r s)) (h : wpList Try.prog ops Q rest (a.put dst (.agg #[.int .i64 r.er, .int .i64 r.id, .slice s.P.A s.P.n s.P.c, .slice s.O.A s.O.n s.O.c, .slice s.I.A s.I.n s.I.c])) w) :
    wpList Try.prog ops Q (⟨dst, .load 64 x, ty, pos, af, gd⟩ :: rest) a w := ldR x g off hw hx r s HG h
end

end Go.Proofs.Ytiiadkjiofkonaa
