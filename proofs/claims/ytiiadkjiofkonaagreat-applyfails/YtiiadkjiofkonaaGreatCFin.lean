/- How the operations on a graph end: the result's box. No conditions. -/
import Derived.Test.YtiiadkjiofkonaaGreatCSem
import Derived.Laws.Rows
import Derived.WalkKit
namespace Go.Proofs.YtiiadkjiofkonaaGreat
open Go.RowKit
set_option linter.unusedVariables false

theorem row_two {P : Program} {fn : Func} {p u : Tmp} {ty : TypeId} (h : fn.results = #[.cell p ty, .tmp u]) (tmps : Array Value) (w : World) (g : Nat) (t : TypeId) (cs : Array Value) (fr : Nat × Nat) (d : TypeDesc)
    (hp : tmps.getD p undef = .pointer (some ⟨g, 0, none⟩)) (hg : w.heap[g]? = some (.cells cs t fr))
    (hu : P.underlying ty = some d) (hd : (match d with | .struct _ | .array _ _ => true | _ => false) = true) (hi : (P.info? ty).map (·.size) = some cs.size) :
    (results fn tmps).run P w = .ok (.tuple #[.agg cs, tmps.getD u undef]) w := by
  have hp' : tmps[p]?.getD undef = .pointer (some ⟨g, 0, none⟩) := by simpa using hp
  simp [results, h, hp', asAddr, run_loadVar_row w g t ty cs fr d hg hu hd hi]
theorem row_three {P : Program} {fn : Func} {p u v : Tmp} {ty : TypeId} (h : fn.results = #[.cell p ty, .tmp u, .tmp v]) (tmps : Array Value) (w : World) (g : Nat) (t : TypeId) (cs : Array Value) (fr : Nat × Nat) (d : TypeDesc)
    (hp : tmps.getD p undef = .pointer (some ⟨g, 0, none⟩)) (hg : w.heap[g]? = some (.cells cs t fr))
    (hu : P.underlying ty = some d) (hd : (match d with | .struct _ | .array _ _ => true | _ => false) = true) (hi : (P.info? ty).map (·.size) = some cs.size) :
    (results fn tmps).run P w = .ok (.tuple #[.agg cs, tmps.getD u undef, tmps.getD v undef]) w := by
  have hp' : tmps[p]?.getD undef = .pointer (some ⟨g, 0, none⟩) := by simpa using hp
  simp [results, h, hp', asAddr, run_loadVar_row w g t ty cs fr d hg hu hd hi]
theorem Own.none (u : World) (B : Nat) : Own u B noGv noG [] := ⟨World.ownsRow_nil _ _ _ _, rfl, (fun i hi => by cases hi), (fun i hi => by cases hi), World.ownsRow_nil _ _ _ _, rfl, rfl⟩
/-- A graph that is the call's own. -/
def Mine (w u : World) (v : Gv) (G : GL) : Prop := ∃ L, Own u w.heap.size v G L
theorem Mine.sees {w u : World} {v : Gv} {G : GL} (h : Mine w u v G) : Sees u u.heap.size v G := h.elim fun _ o => o.sees
theorem Mine.none (w u : World) : Mine w u noGv noG := ⟨[], Own.none _ _⟩
theorem heap_alloc3_new (w : World) (a b c : Array Value) {r s t : Nat} : (((w.alloc (.cells a r)).alloc (.cells b s)).alloc (.cells c t)).heap[w.heap.size + 2]? = some (.cells c t (0, 0)) := by
  have := heap_alloc_new ((w.alloc (.cells a r)).alloc (.cells b s)) (.cells c t)
  simpa using this
theorem boxed3 (w : World) (a b c : Obj) : Below w.heap.size w (((w.alloc a).alloc b).alloc c) := (boxed2 w _ _).alloc (by simp; omega) _
/-- The result laid into its box. -/
theorem fin4 {V : World} {B g : Nat} {a b c d : Value} {v : Gv} {G : GL} {L : List (Int × Sl)} (O : Own V B v G L) (q : V.heap[g]? = some (.cells #[a, b, c, d] 27 (0, 0))) {w : World} (BV : Below w.heap.size w V) (hg : w.heap.size ≤ g) :
    ((((V.setCell ⟨g, 0, none⟩ (.slice v.N.A v.N.n v.N.c)).setCell ⟨g, 1, none⟩ (.slice v.E.A v.E.n v.E.c)).setCell ⟨g, 2, none⟩ (.int .i64 v.x)).setCell ⟨g, 3, none⟩ (.int .i64 v.y)).heap[g]? = some (.cells v.cs 27 (0, 0)) ∧
    Own ((((V.setCell ⟨g, 0, none⟩ (.slice v.N.A v.N.n v.N.c)).setCell ⟨g, 1, none⟩ (.slice v.E.A v.E.n v.E.c)).setCell ⟨g, 2, none⟩ (.int .i64 v.x)).setCell ⟨g, 3, none⟩ (.int .i64 v.y)) B v G L ∧
    Below w.heap.size w ((((V.setCell ⟨g, 0, none⟩ (.slice v.N.A v.N.n v.N.c)).setCell ⟨g, 1, none⟩ (.slice v.E.A v.E.n v.E.c)).setCell ⟨g, 2, none⟩ (.int .i64 v.x)).setCell ⟨g, 3, none⟩ (.int .i64 v.y)) :=
  ⟨put4 q, O.cell4 q (by decide) (by decide) (by decide) _ _ _ _, set4_below BV hg _ _ _ _⟩
end Go.Proofs.YtiiadkjiofkonaaGreat
