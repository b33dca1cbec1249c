/- Layer 5's contracts, second part. (Several texts, one behind the other.) -/
import Derived.Test.YthficfmakbblkaaPoolA
import Derived.Deep.AppendLies
import Derived.ProofKit
import Derived.OpenShut
import Derived.ShutString
import Derived.ChangeOld
import Derived.Lib.SmallJoins
import Derived.Deep.Slices
import Derived.Carry
import Derived.Deep.QuietTactic
import Derived.BigQuiet
import Derived.IntWalk
import Derived.Deep.DeepCutAuto
import Derived.Deep.RegionHeld3
import Derived.Deep.CutRange

/- Words: a pool that was told: it reads so, and its cells may be written. What Take, Retire and Reclaim come to, as functions. -/
namespace Go.Proofs.Ythficfmakbblkaa.Pool
open Go.RowKit

/-- The slice at A, of n numbers, reads as zs and lies in a row from block B on, that may be written. -/
def Row (u : World) (B : Nat) (A : Option Addr) (n : Nat) (zs : List Int) : Prop :=
  zs.length = n ∧ (0 < n → ∃ g off cs, A = some ⟨g, off, none⟩ ∧ B ≤ g ∧ u.heap[g]? = some (.cells cs 3 (0, 0)) ∧ ∀ i, i < n → cs[off + i]? = some (.int .i64 (zs.getD i 0)))

section
variable {u u' : World} {B B' n : Nat} {A : Option Addr} {zs : List Int}
theorem Row.nil : Row u B A 0 [] := ⟨rfl, fun h => absurd h (by omega)⟩
theorem Row.nums (h : Row u B A n zs) : Nums u u.heap.size 1 A n zs :=
  ⟨by have := h.1; omega, fun hn => by
    obtain ⟨g, off, cs, e, _, hg, hc⟩ := h.2 hn
    exact ⟨g, off, e, (Array.getElem?_eq_some_iff.1 hg).1, fun i hi => (cell_of_row u g (off + i) cs 3 (0, 0) hg).trans (hc i (by omega))⟩⟩
theorem Row.below (h : Row u B A n zs) (hb : Below u.heap.size u u') : Row u' B A n zs :=
  ⟨h.1, fun hn => by
    obtain ⟨g, off, cs, e, hB, hg, hc⟩ := h.2 hn
    exact ⟨g, off, cs, e, hB, (hb.block g (Array.getElem?_eq_some_iff.1 hg).1).trans hg, hc⟩⟩
theorem Row.less (h : Row u B A n zs) (hB : B' ≤ B) : Row u B' A n zs :=
  ⟨h.1, fun hn => by
    obtain ⟨g, off, cs, e, hb, r⟩ := h.2 hn
    exact ⟨g, off, cs, e, Nat.le_trans hB hb, r⟩⟩
theorem Row.free (h : Row u B A n zs) {k : Nat} (hk : k < B) (i : Nat) (x : Value) : Row (u.setCell ⟨k, i, none⟩ x) B A n zs :=
  ⟨h.1, fun hn => by
    obtain ⟨g, off, cs, e, hB, hg, hc⟩ := h.2 hn
    exact ⟨g, off, cs, e, hB, (Below.heap_setCell u ⟨k, i, none⟩ x g (by simp; omega)).trans hg, hc⟩⟩
theorem Row.set4 (h : Row u B A n zs) {k : Nat} (hk : k < B) (p q r s : Value) : Row ((((u.setCell ⟨k, 0, none⟩ p).setCell ⟨k, 1, none⟩ q).setCell ⟨k, 2, none⟩ r).setCell ⟨k, 3, none⟩ s) B A n zs :=
  (((h.free hk 0 p).free hk 1 q).free hk 2 r).free hk 3 s
theorem row_of_own {c : Nat} (h : u.ownsRow B 3 1 (.slice A n c) n (ints zs)) : Row u B A n zs := by
  have hl : zs.length = n := by simpa using h.1
  refine ⟨hl, fun hn => ?_⟩
  rcases h.2 with ⟨_, h0⟩ | ⟨g, cap, cur, h1, hB, hg, hc, hm, hs, ht⟩
  · omega
  · simp only [Value.slice.injEq] at h1
    refine ⟨g, 0, cur, h1.1, hB, hg, fun i hi => ?_⟩
    have e : (cur.toList.take (n * 1))[i]? = (ints zs)[i]? := by rw [ht]
    rw [List.getElem?_take, if_pos (by omega)] at e
    rw [Nat.zero_add, ← Array.getElem?_toList, e]
    simp [List.getD_eq_getElem?_getD, show i < zs.length by omega]
/-- Without its first. -/
theorem row_tail {g n c : Nat} {x : Int} {xs : List Int} (h : u.ownsRow B 3 1 (.slice (some ⟨g, 0, none⟩) n c) n (ints (x :: xs))) : Row u B (some ⟨g, 1, none⟩) (n - 1) xs := by
  obtain ⟨hl, h2⟩ := row_of_own h
  refine ⟨by simp at hl; omega, fun hn => ?_⟩
  obtain ⟨g', off, cs, e, hB, hg, hc⟩ := h2 (by omega)
  simp only [Option.some.injEq, Addr.mk.injEq, and_true] at e
  obtain ⟨rfl, rfl⟩ := e
  refine ⟨_, 1, cs, rfl, hB, hg, fun i hi => ?_⟩
  have := hc (i + 1) (by omega)
  rw [show 0 + (i + 1) = 1 + i by omega] at this
  simpa using this
theorem own_cap {c : Nat} (h : u.ownsRow B 3 1 (.slice A n c) n (ints zs)) : n ≤ c ∧ c ≤ maxLen := by
  rcases h.2 with ⟨h1, h0⟩ | ⟨g, cap, cur, h1, hB, hg, hc, hm, hs, ht⟩
  · simp at h1; simp only [maxLen]; omega
  · simp at h1; omega
end

structure Told4 (u : World) (B : Nat) (q : Pl) (Q : PL) : Prop where
  g : Row u B q.A0 q.n0 Q.G
  s : Row u B q.A1 q.n1 Q.S
  t : Row u B q.A2 q.n2 Q.W
  f : Row u B q.A3 q.n3 Q.F
  zg : q.A0 = none → q.c0 = 0
  zs : q.A1 = none → q.c1 = 0
  zt : q.A2 = none → q.c2 = 0
  zf : q.A3 = none → q.c3 = 0

section
variable {u u' : World} {B B' : Nat} {q : Pl} {Q : PL}
theorem Told4.reads (h : Told4 u B q Q) : Reads u u.heap.size q Q := ⟨h.g.nums, h.s.nums, h.t.nums, h.f.nums, h.zg, h.zs, h.zt, h.zf⟩
theorem Told4.below (h : Told4 u B q Q) (hb : Below u.heap.size u u') : Told4 u' B q Q := ⟨h.g.below hb, h.s.below hb, h.t.below hb, h.f.below hb, h.zg, h.zs, h.zt, h.zf⟩
theorem Told4.less (h : Told4 u B q Q) (hB : B' ≤ B) : Told4 u B' q Q := ⟨h.g.less hB, h.s.less hB, h.t.less hB, h.f.less hB, h.zg, h.zs, h.zt, h.zf⟩
theorem Owns.told (h : Owns u B q Q) : Told4 u B q Q := ⟨row_of_own h.g, row_of_own h.s, row_of_own h.t, row_of_own h.f, h.zg, h.zs, h.zt, h.zf⟩
theorem told_none (u : World) (B : Nat) : Told4 u B noPl noP := (owns_none u B).told
end

/-- What a call tells: a pool and a number; a pool and two. -/
def Tell2 (w : World) (Q : PL) (x : Int) (e : Ending) (w' : World) : Prop := ∃ q : Pl, e = .returned (.tuple #[q.val, .int .i64 x]) ∧ Told4 w' w.heap.size q Q ∧ Below w.heap.size w w'
def Tell3 (w : World) (Q : PL) (x y : Int) (e : Ending) (w' : World) : Prop := ∃ q : Pl, e = .returned (.tuple #[q.val, .int .i64 x, .int .i64 y]) ∧ Told4 w' w.heap.size q Q ∧ Below w.heap.size w w'

/-- A struct result and two more. -/
theorem results_row_two {P : Program} {fn : Func} {p u v : Tmp} {ty : TypeId} (h : fn.results = #[.cell p ty, .tmp u, .tmp v]) (tmps : Array Value) (w : World) (g : Nat) (t : TypeId) (cs : Array Value) (fr : Nat × Nat) (d : TypeDesc)
    (hp : tmps.getD p undef = .pointer (some ⟨g, 0, none⟩)) (hg : w.heap[g]? = some (.cells cs t fr))
    (hu : P.underlying ty = some d) (hd : (match d with | .struct _ | .array _ _ => true | _ => false) = true) (hi : (P.info? ty).map (·.size) = some cs.size) :
    (results fn tmps).run P w = .ok (.tuple #[.agg cs, tmps.getD u undef, tmps.getD v undef]) w := by
  have hp' : tmps[p]?.getD undef = .pointer (some ⟨g, 0, none⟩) := by simpa using hp
  simp [results, h, hp', asAddr, run_loadVar_row w g t ty cs fr d hg hu hd hi]

/-- What Take tells of a pool that may be (b), or not. -/
def takeQ (b : Bool) (P : PL) : PL := match b, P.F with
  | true, x :: xs => ⟨P.G, P.S.set x.toNat 1, P.W, xs⟩
  | _, _ => noP
def takeR (b : Bool) (P : PL) : Int := match b, P.F with
  | true, x :: _ => 1 + 1024 * P.G.getD x.toNat 0 + x
  | _, _ => 0
def takeE (b : Bool) (P : PL) : Int := match b, P.F with
  | true, _ :: _ => 0
  | true, [] => 3
  | false, _ => 1

/-- What Retire tells. -/
def retE (b : Bool) (P : PL) (r : Int) : Int :=
  if b = false ∨ r < 1 ∨ 1125899906842624 < r ∨ (P.G.length : Int) ≤ (r - 1) % 1024 then 1
  else if P.S.getD ((r - 1) % 1024).toNat 0 ≠ 1 ∨ P.G.getD ((r - 1) % 1024).toNat 0 ≠ (r - 1) / 1024 then 2 else 0
def retQ (b : Bool) (P : PL) (r when_ : Int) : PL :=
  if retE b P r = 0 then ⟨P.G, P.S.set ((r - 1) % 1024).toNat 2, P.W.set ((r - 1) % 1024).toNat when_, P.F⟩ else noP

/-- Slot k is to be reclaimed. -/
def Due (P : PL) (upto : Int) (k : Nat) : Prop := P.S.getD k 0 = 2 ∧ P.W.getD k 0 ≤ upto ∧ P.G.getD k 0 < 1099511627775
instance (P : PL) (upto : Int) (k : Nat) : Decidable (Due P upto k) := by unfold Due; infer_instance
/-- One slot reclaimed. -/
def recOne (Q : PL) (k : Nat) : PL := ⟨Q.G.set k (Q.G.getD k 0 + 1), Q.S.set k 0, Q.W.set k 0, Q.F ++ [(k : Int)]⟩
/-- The first k slots gone through. -/
def recP (P : PL) (upto : Int) : Nat → PL
  | 0 => P
  | k + 1 => if Due P upto k then recOne (recP P upto k) k else recP P upto k
def recC (P : PL) (upto : Int) : Nat → Nat
  | 0 => 0
  | k + 1 => if Due P upto k then recC P upto k + 1 else recC P upto k
def recQ (b : Bool) (P : PL) (upto : Int) : PL := if b then recP P upto P.G.length else noP
def recN (b : Bool) (P : PL) (upto : Int) : Int := if b then (recC P upto P.G.length : Int) else 0

end Go.Proofs.Ythficfmakbblkaa.Pool

/- How an own pool is kept while its cells are written. -/
namespace Go.Proofs.Ythficfmakbblkaa.Pool
open Go.RowKit

section
variable {u : World} {B n : Nat} {A : Option Addr} {c : Nat} {zs : List Int}
/-- A cell of another row is written. -/
theorem own_far (h : u.ownsRow B 3 1 (.slice A n c) n (ints zs)) {k : Nat} (hk : ∀ a, A = some a → a.block ≠ k) (i : Nat) (v : Value) : (u.setCell ⟨k, i, none⟩ v).ownsRow B 3 1 (.slice A n c) n (ints zs) := by
  refine ⟨h.1, ?_⟩
  rcases h.2 with h0 | ⟨g, cap, cur, h1, hB, hg, r⟩
  · exact .inl h0
  · simp only [Value.slice.injEq] at h1
    have := hk _ h1.1
    exact .inr ⟨g, cap, cur, by simp [h1], hB, (Below.heap_setCell u ⟨k, i, none⟩ v g (by simpa using this)).trans hg, r⟩
end

section
variable {u : World} {B : Nat} {A0 A1 A2 A3 : Option Addr} {n0 n1 n2 n3 c0 c1 c2 c3 : Nat} {G S W F : List Int}
theorem Owns.free {q : Pl} {P : PL} (h : Owns u B q P) {k : Nat} (hk : k < B) (i : Nat) (x : Value) : Owns (u.setCell ⟨k, i, none⟩ x) B q P :=
  ⟨own_free h.g hk i x, own_free h.s hk i x, own_free h.t hk i x, own_free h.f hk i x, h.zg, h.zs, h.zt, h.zf, h.gs, h.gt, h.gf, h.st, h.sf, h.tf⟩
theorem Owns.set4 {q : Pl} {P : PL} (h : Owns u B q P) {k : Nat} (hk : k < B) (p r s t : Value) : Owns ((((u.setCell ⟨k, 0, none⟩ p).setCell ⟨k, 1, none⟩ r).setCell ⟨k, 2, none⟩ s).setCell ⟨k, 3, none⟩ t) B q P :=
  (((h.free hk 0 p).free hk 1 r).free hk 2 s).free hk 3 t
theorem Owns.alloc {q : Pl} {P : PL} (h : Owns u B q P) (o : Obj) : Owns (u.alloc o) B q P :=
  ⟨h.g.alloc o, h.s.alloc o, h.t.alloc o, h.f.alloc o, h.zg, h.zs, h.zt, h.zf, h.gs, h.gt, h.gf, h.st, h.sf, h.tf⟩
theorem Owns.less {q : Pl} {P : PL} {B' : Nat} (h : Owns u B q P) (hB : B' ≤ B) : Owns u B' q P :=
  ⟨own_less h.g hB, own_less h.s hB, own_less h.t hB, own_less h.f hB, h.zg, h.zs, h.zt, h.zf, h.gs, h.gt, h.gf, h.st, h.sf, h.tf⟩
theorem Owns.below {q : Pl} {P : PL} {u' : World} (h : Owns u B q P) (hb : Below u.heap.size u u') : Owns u' B q P :=
  ⟨own_below h.g hb, own_below h.s hb, own_below h.t hb, own_below h.f hb, h.zg, h.zs, h.zt, h.zf, h.gs, h.gt, h.gf, h.st, h.sf, h.tf⟩
theorem Owns.setS {g : Nat} (h : Owns u B ⟨A0, some ⟨g, 0, none⟩, A2, A3, n0, n1, n2, n3, c0, c1, c2, c3⟩ ⟨G, S, W, F⟩) (k : Nat) (x : Int) :
    Owns (u.setCell ⟨g, k, none⟩ (.int .i64 x)) B ⟨A0, some ⟨g, 0, none⟩, A2, A3, n0, n1, n2, n3, c0, c1, c2, c3⟩ ⟨G, S.set k x, W, F⟩ :=
  ⟨own_far h.g (fun a ha => h.gs a _ ha rfl) _ _, own_set h.s k x, own_far h.t (fun a ha => (h.st _ a rfl ha).symm) _ _, own_far h.f (fun a ha => (h.sf _ a rfl ha).symm) _ _, h.zg, h.zs, h.zt, h.zf, h.gs, h.gt, h.gf, h.st, h.sf, h.tf⟩
theorem Owns.setT {g : Nat} (h : Owns u B ⟨A0, A1, some ⟨g, 0, none⟩, A3, n0, n1, n2, n3, c0, c1, c2, c3⟩ ⟨G, S, W, F⟩) (k : Nat) (x : Int) :
    Owns (u.setCell ⟨g, k, none⟩ (.int .i64 x)) B ⟨A0, A1, some ⟨g, 0, none⟩, A3, n0, n1, n2, n3, c0, c1, c2, c3⟩ ⟨G, S, W.set k x, F⟩ :=
  ⟨own_far h.g (fun a ha => h.gt a _ ha rfl) _ _, own_far h.s (fun a ha => h.st a _ ha rfl) _ _, own_set h.t k x, own_far h.f (fun a ha => (h.tf _ a rfl ha).symm) _ _, h.zg, h.zs, h.zt, h.zf, h.gs, h.gt, h.gf, h.st, h.sf, h.tf⟩
theorem Owns.setG {g : Nat} (h : Owns u B ⟨some ⟨g, 0, none⟩, A1, A2, A3, n0, n1, n2, n3, c0, c1, c2, c3⟩ ⟨G, S, W, F⟩) (k : Nat) (x : Int) :
    Owns (u.setCell ⟨g, k, none⟩ (.int .i64 x)) B ⟨some ⟨g, 0, none⟩, A1, A2, A3, n0, n1, n2, n3, c0, c1, c2, c3⟩ ⟨G.set k x, S, W, F⟩ :=
  ⟨own_set h.g k x, own_far h.s (fun a ha => (h.gs _ a rfl ha).symm) _ _, own_far h.t (fun a ha => (h.gt _ a rfl ha).symm) _ _, own_far h.f (fun a ha => (h.gf _ a rfl ha).symm) _ _, h.zg, h.zs, h.zt, h.zf, h.gs, h.gt, h.gf, h.st, h.sf, h.tf⟩
/-- Without Free's first. -/
theorem Owns.tail {g : Nat} {x : Int} {xs : List Int} (h : Owns u B ⟨A0, A1, A2, some ⟨g, 0, none⟩, n0, n1, n2, n3, c0, c1, c2, c3⟩ ⟨G, S, W, x :: xs⟩) (c : Nat) :
    Told4 u B ⟨A0, A1, A2, some ⟨g, 1, none⟩, n0, n1, n2, n3 - 1, c0, c1, c2, c⟩ ⟨G, S, W, xs⟩ :=
  ⟨row_of_own h.g, row_of_own h.s, row_of_own h.t, row_tail h.f, h.zg, h.zs, h.zt, fun h => by cases h⟩
theorem Owns.tail1 {g : Nat} {x : Int} {xs : List Int} (h : Owns u B ⟨A0, A1, A2, some ⟨g, 0, none⟩, n0, n1, n2, 1, c0, c1, c2, c3⟩ ⟨G, S, W, x :: xs⟩) (c : Nat) :
    Told4 u B ⟨A0, A1, A2, some ⟨g, 0, none⟩, n0, n1, n2, 0, c0, c1, c2, c⟩ ⟨G, S, W, xs⟩ := by
  have e : xs = [] := by have := h.f.1; simpa using this
  subst e
  exact ⟨row_of_own h.g, row_of_own h.s, row_of_own h.t, Row.nil, h.zg, h.zs, h.zt, fun h => by cases h⟩
end
end Go.Proofs.Ythficfmakbblkaa.Pool

/- What Take tells, of any pool that is not great: the code's and the document's. -/
namespace Go.Proofs.Ythficfmakbblkaa.Pool
open Go.RowKit
set_option maxRecDepth 100000
set_option linter.unusedVariables false

/-- What is kept: all that was there, the pool's box and the result's, still empty. -/
def Two (w u : World) (cs : Array Value) : Prop := Below w.heap.size w u ∧ PBox u w.heap.size cs ∧ PBox u (w.heap.size + 1) zeros4
theorem Two.first (w : World) (cs : Array Value) : Two w ((w.alloc (.cells cs 26)).alloc (.cells zeros4 26)) cs :=
  ⟨((Below.refl _ _).alloc (Nat.le_refl _) _).alloc (by simp) _, (PBox.new w cs).alloc _, heap_alloc2_new w _ _⟩
theorem Two.step {w u u' : World} {cs : Array Value} (h : Two w u cs) (hb : Below u.heap.size u u') : Two w u' cs := ⟨next_call h.1 (Nat.le_refl _) hb, h.2.1.step hb, h.2.2.step hb⟩
theorem Two.alloc {w u : World} {cs : Array Value} (h : Two w u cs) (o : Obj) : Two w (u.alloc o) cs := ⟨h.1.alloc h.1.size _, h.2.1.alloc _, h.2.2.alloc _⟩
theorem Two.far {w u : World} {cs : Array Value} (h : Two w u cs) {g : Nat} (hg : w.heap.size + 2 ≤ g) (i : Nat) (x : Value) : Two w (u.setCell ⟨g, i, none⟩ x) cs := ⟨h.1.setCell (by simp; omega) _, h.2.1.other (by omega) _, h.2.2.other (by omega) _⟩
theorem Two.size {w u : World} {cs : Array Value} (h : Two w u cs) : w.heap.size + 2 ≤ u.heap.size := by have := h.2.2.lt; omega

theorem may_of {P : PL} {b : Bool} (hb : Hid (b = true ↔ MayBe P)) (h : b = true) : MayBe P := hb.out.1 h


set_option maxHeartbeats 4000000 in
theorem take_any (p : Pl) (P : PL) (B : Nat) (b : Bool) (w : World) (hr : Reads w B p P) (hB : B ≤ w.heap.size) (hm : Small p) (hb : Hid (b = true ↔ MayBe P)) :
    Calls Try.prog 48 #[p.val] w (Tell3 w (takeQ b P) (takeR b P) (takeE b P)) := by
  obtain ⟨A0, A1, A2, A3, n0, n1, n2, n3, c0, c1, c2, c3⟩ := p
  obtain ⟨G, S, W, F⟩ := P
  have HM := hide hm
  obtain ⟨m0, m1, m2, m3⟩ := hm
  dsimp only at m0 m1 m2 m3
  have T0 := hide (Two.first w (C4 A0 A1 A2 A3 n0 n1 n2 n3 c0 c1 c2 c3))
  have R0 := hide (hr.below T0.out.1 hB)
  have HR := hide hr
  clear hr
  go_enter Try.func48, Try.ntmps48
  go_wp2_with fail
  refine (mayBe_any ⟨A0, A1, A2, A3, n0, n1, n2, n3, c0, c1, c2, c3⟩ ⟨G, S, W, F⟩ B b _ R0.out (Nat.le_trans hB T0.out.1.size) HM.out hb).mono ?_
  rintro e u1 ⟨rfl, hu1⟩
  have T1 := hide (T0.out.step hu1)
  clear hu1 T0 R0
  have hc := T1.out.2.1.cells
  have hl := T1.out.2.1.lt
  cases b with
  | false =>
    clear hc hl
    obtain ⟨y0, f0, y1, f1, y2, f2, y3, f3⟩ := zero_cells T1.out.2.2
    go_wp2
    refine bodyPost_ret (results_row_two rfl _ _ (w.heap.size + 1) 26 _ (0, 0) _ rfl (set4_heap T1.out.2.2 _ _ _ _) Try.underlying26 rfl Try.size26) rfl ⟨noPl, rfl, told_none _ _, set4_below T1.out.1 (by omega) _ _ _ _⟩
  | true =>
    cases F with
    | nil =>
      have hn3 : n3 = 0 := by have h : [].length = n3 * 1 := HR.out.f.1; rw [List.length_nil] at h; omega
      subst hn3
      obtain ⟨y0, f0, y1, f1, y2, f2, y3, f3⟩ := zero_cells T1.out.2.2
      go_wp2
      refine bodyPost_ret (results_row_two rfl _ _ (w.heap.size + 1) 26 _ (0, 0) _ rfl (set4_heap T1.out.2.2 _ _ _ _) Try.underlying26 rfl Try.size26) rfl ⟨noPl, rfl, told_none _ _, set4_below T1.out.1 (by omega) _ _ _ _⟩
    | cons x xs =>
      have hlen : n3 = xs.length + 1 := by have := HR.out.f.1; simp at this; omega
      have hpos : 0 < n3 := by omega
      have hne : ((n3 : Int) == 0) = false := by simp; omega
      have MB := may_of hb rfl
      obtain ⟨k1, k2, k3, k4, k5, k6, k7, k8⟩ := MB
      obtain ⟨x1, x2, x3⟩ := k6 x (by simp)
      dsimp only at k1 k2 k3 k4 k5 x2 x3
      have lg : G.length = n0 := by have := HR.out.g.1; simpa using this
      have ls : S.length = n1 := by have := HR.out.s.1; simpa using this
      obtain ⟨X, rfl⟩ : ∃ X : Nat, x = (X : Int) := ⟨x.toNat, by omega⟩
      have hX : X < n0 := by omega
      have hX1 : X < n1 := by omega
      obtain ⟨g1, g2, _⟩ := k5 X (by omega)
      have R1 := HR.out.below T1.out.1 hB
      obtain ⟨bF, oF, eF, _, cF⟩ := R1.f.at_ hpos
      dsimp only at eF
      subst eF
      obtain ⟨bG, oG, eG, hbB, cG⟩ := R1.g.at_ hX
      dsimp only at eG
      subst eG
      have cF' : u1.cell? ⟨bF, oF, none⟩ = some (.int .i64 (X : Int)) := by simpa using cF
      clear cF
      have HGV : Hid (G.getD X 0 = G.getD X 0) := rfl
      have HRX : Hid (takeR true ⟨G, S, W, (X : Int) :: xs⟩ = 1 + 1024 * G.getD X 0 + (X : Int)) := by simp [takeR, Hid]
      have HQX : Hid (takeQ true ⟨G, S, W, (X : Int) :: xs⟩ = ⟨G, S.set X 1, W, xs⟩) := by simp [takeQ, Hid]
      dsimp only at cG g1 g2
      generalize G.getD X 0 = gv at cG g1 g2 HRX
      have R1' := hide (HR.out.below T1.out.1 hB)
      have HS1 := hide T1.out.1.size
      have HL := hide hlen
      clear k1 k2 k3 k4 k5 k6 k7 k8 x1 x2 x3 lg ls R1 HGV hlen
      go_wp2_with fail
      refine (pack_ok _ _ _ (by omega) (by omega) (by omega) (by omega)).mono ?_
      rintro e w' ⟨rfl, rfl⟩
      go_wp2_with fail
      refine (fresh_any ⟨some ⟨bG, oG, none⟩, A1, A2, some ⟨bF, oF, none⟩, n0, n1, n2, n3, c0, c1, c2, c3⟩ ⟨G, S, W, (X : Int) :: xs⟩ B _ R1'.out (Nat.le_trans hB HS1.out) HM.out).mono ?_
      rintro e u2 ⟨q, rfl, hq, hu2⟩
      have T2 := hide (T1.out.step hu2)
      clear hc hl cF' cG
      obtain ⟨a0, a1, a2, a3, p0, p1, p2, p3, d0, d1, d2, d3⟩ := q
      have l0 : G.length = p0 := by simpa using hq.g.1
      have l1 : S.length = p1 := by simpa using hq.s.1
      have l3 : xs.length + 1 = p3 := by simpa using hq.f.1
      have j1 : S.length = n1 := by have := R1'.out.s.1; simpa using this
      obtain ⟨gS, hS⟩ := own_some hq.s (by dsimp only; omega)
      obtain ⟨gF, hF⟩ := own_some hq.f (by dsimp only; omega)
      dsimp only at hS hF
      subst hS
      subst hF
      have hXp : X < p1 := by omega
      have v1 := own_at hq.s hXp
      have v2 := hq.s.frozenAt X
      have v3 := (own_ge hq.s).2
      have v4 := (own_ge hq.s).1
      have v5 := (own_cap hq.f).1
      have v6 := (own_cap hq.f).2
      simp only [maxLen] at v6
      have s1 := T1.out.size
      have hp3 : 1 ≤ p3 := by omega
      dsimp only at v1 v2 v3 v4 v5 v6
      generalize S.getD X 0 = sv at v1
      have HO := hide hq
      have hne1 : gS ≠ u2.heap.size := by omega
      have hne2 : gS ≠ w.heap.size + 1 := by omega
      have hne3 : w.heap.size + 1 ≠ gS := by omega
      have hl2 := T2.out.2.2.lt
      obtain ⟨y0, f0, y1, f1, y2, f2, y3, f3⟩ := zero_cells T2.out.2.2
      have s2 := T2.out.size
      clear hq hu2 l0 l1 l3 j1
      by_cases hd3 : d3 = 1
      · subst hd3
        obtain rfl : p3 = 1 := by omega
        have HT := hide ((((HO.out.setS X 1).set4 (k := w.heap.size + 1) (by omega) (.slice a0 p0 d0) (.slice (some ⟨gS, 0, none⟩) p1 d1) (.slice a2 p2 d2) (.slice (some ⟨gF, 0, none⟩) 0 0)).alloc (.cells (C4 a0 (some ⟨gS, 0, none⟩) a2 (some ⟨gF, 0, none⟩) p0 p1 p2 0 d0 d1 d2 0) 26)).tail1 0)
        go_wp2
        refine bodyPost_ret (results_row_two rfl _ _ (w.heap.size + 1) 26 _ (0, 0) _ rfl (PBox.alloc (set4_heap (T2.out.far (by omega) _ _).2.2 _ _ _ _) _) Try.underlying26 rfl Try.size26) rfl ⟨⟨a0, some ⟨gS, 0, none⟩, a2, some ⟨gF, 0, none⟩, p0, p1, p2, 0, d0, d1, d2, 0⟩, by rw [HRX.out]; rfl, by rw [HQX.out]; exact HT.out.less (by omega), (set4_below (T2.out.far (by omega) _ _).1 (by omega) _ _ _ _).alloc (by have := T2.out.1.size; simp; omega) _⟩
      · have hd4 : 2 ≤ d3 := by omega
        clear hd3
        have HT := hide ((((HO.out.setS X 1).set4 (k := w.heap.size + 1) (by omega) (.slice a0 p0 d0) (.slice (some ⟨gS, 0, none⟩) p1 d1) (.slice a2 p2 d2) (.slice (some ⟨gF, 1, none⟩) (p3 - 1) (d3 - 1))).alloc (.cells (C4 a0 (some ⟨gS, 0, none⟩) a2 (some ⟨gF, 1, none⟩) p0 p1 p2 (p3 - 1) d0 d1 d2 (d3 - 1)) 26)).tail (d3 - 1))
        go_wp2
        refine bodyPost_ret (results_row_two rfl _ _ (w.heap.size + 1) 26 _ (0, 0) _ rfl (PBox.alloc (set4_heap (T2.out.far (by omega) _ _).2.2 _ _ _ _) _) Try.underlying26 rfl Try.size26) rfl ⟨⟨a0, some ⟨gS, 0, none⟩, a2, some ⟨gF, 1, none⟩, p0, p1, p2, p3 - 1, d0, d1, d2, d3 - 1⟩, by rw [HRX.out]; rfl, by rw [HQX.out]; exact HT.out.less (by omega), (set4_below (T2.out.far (by omega) _ _).1 (by omega) _ _ _ _).alloc (by have := T2.out.1.size; simp; omega) _⟩

set_option maxHeartbeats 4000000 in
theorem rtake_any (p : Pl) (P : PL) (B : Nat) (b : Bool) (w : World) (hr : Reads w B p P) (hB : B ≤ w.heap.size) (hm : Small p) (hb : Hid (b = true ↔ MayBe P)) :
    Calls Try.prog 52 #[p.val] w (Tell3 w (takeQ b P) (takeR b P) (takeE b P)) := by
  obtain ⟨A0, A1, A2, A3, n0, n1, n2, n3, c0, c1, c2, c3⟩ := p
  obtain ⟨G, S, W, F⟩ := P
  have HM := hide hm
  obtain ⟨m0, m1, m2, m3⟩ := hm
  dsimp only at m0 m1 m2 m3
  have T0 := hide (Two.first w (C4 A0 A1 A2 A3 n0 n1 n2 n3 c0 c1 c2 c3))
  have R0 := hide (hr.below T0.out.1 hB)
  have HR := hide hr
  clear hr
  go_enter Try.func52, Try.ntmps52
  go_wp2_with fail
  refine (rcheck_any ⟨A0, A1, A2, A3, n0, n1, n2, n3, c0, c1, c2, c3⟩ ⟨G, S, W, F⟩ B b _ R0.out (Nat.le_trans hB T0.out.1.size) HM.out hb).mono ?_
  rintro e u1 ⟨rfl, hu1⟩
  have T1 := hide (T0.out.step hu1)
  clear hu1 T0 R0
  have hc := T1.out.2.1.cells
  have hl := T1.out.2.1.lt
  cases b with
  | false =>
    clear hc hl
    obtain ⟨y0, f0, y1, f1, y2, f2, y3, f3⟩ := zero_cells T1.out.2.2
    go_wp2
    refine bodyPost_ret (results_row_two rfl _ _ (w.heap.size + 1) 26 _ (0, 0) _ rfl (set4_heap T1.out.2.2 _ _ _ _) Try.underlying26 rfl Try.size26) rfl ⟨noPl, rfl, told_none _ _, set4_below T1.out.1 (by omega) _ _ _ _⟩
  | true =>
    cases F with
    | nil =>
      have hn3 : n3 = 0 := by have h : [].length = n3 * 1 := HR.out.f.1; rw [List.length_nil] at h; omega
      subst hn3
      obtain ⟨y0, f0, y1, f1, y2, f2, y3, f3⟩ := zero_cells T1.out.2.2
      go_wp2
      refine bodyPost_ret (results_row_two rfl _ _ (w.heap.size + 1) 26 _ (0, 0) _ rfl (set4_heap T1.out.2.2 _ _ _ _) Try.underlying26 rfl Try.size26) rfl ⟨noPl, rfl, told_none _ _, set4_below T1.out.1 (by omega) _ _ _ _⟩
    | cons x xs =>
      have hlen : n3 = xs.length + 1 := by have := HR.out.f.1; simp at this; omega
      have hpos : 0 < n3 := by omega
      have hne : ((n3 : Int) == 0) = false := by simp; omega
      have MB := may_of hb rfl
      obtain ⟨k1, k2, k3, k4, k5, k6, k7, k8⟩ := MB
      obtain ⟨x1, x2, x3⟩ := k6 x (by simp)
      dsimp only at k1 k2 k3 k4 k5 x2 x3
      have lg : G.length = n0 := by have := HR.out.g.1; simpa using this
      have ls : S.length = n1 := by have := HR.out.s.1; simpa using this
      obtain ⟨X, rfl⟩ : ∃ X : Nat, x = (X : Int) := ⟨x.toNat, by omega⟩
      have hX : X < n0 := by omega
      have hX1 : X < n1 := by omega
      obtain ⟨g1, g2, _⟩ := k5 X (by omega)
      have R1 := HR.out.below T1.out.1 hB
      obtain ⟨bF, oF, eF, _, cF⟩ := R1.f.at_ hpos
      dsimp only at eF
      subst eF
      obtain ⟨bG, oG, eG, hbB, cG⟩ := R1.g.at_ hX
      dsimp only at eG
      subst eG
      have cF' : u1.cell? ⟨bF, oF, none⟩ = some (.int .i64 (X : Int)) := by simpa using cF
      clear cF
      have HGV : Hid (G.getD X 0 = G.getD X 0) := rfl
      have HRX : Hid (takeR true ⟨G, S, W, (X : Int) :: xs⟩ = 1 + 1024 * G.getD X 0 + (X : Int)) := by simp [takeR, Hid]
      have HQX : Hid (takeQ true ⟨G, S, W, (X : Int) :: xs⟩ = ⟨G, S.set X 1, W, xs⟩) := by simp [takeQ, Hid]
      dsimp only at cG g1 g2
      generalize G.getD X 0 = gv at cG g1 g2 HRX
      have R1' := hide (HR.out.below T1.out.1 hB)
      have HS1 := hide T1.out.1.size
      have HL := hide hlen
      clear k1 k2 k3 k4 k5 k6 k7 k8 x1 x2 x3 lg ls R1 HGV hlen
      go_wp2_with fail
      refine (rcopyp_any ⟨some ⟨bG, oG, none⟩, A1, A2, some ⟨bF, oF, none⟩, n0, n1, n2, n3, c0, c1, c2, c3⟩ ⟨G, S, W, (X : Int) :: xs⟩ B _ R1'.out (Nat.le_trans hB HS1.out) HM.out).mono ?_
      rintro e u2 ⟨q, rfl, hq, hu2⟩
      have T2 := hide (T1.out.step hu2)
      have cG2 := (hu2.cell (p := ⟨bG, oG + X, none⟩) (by have := HS1.out; simp; omega)).trans cG
      clear hc hl cF' cG
      obtain ⟨a0, a1, a2, a3, p0, p1, p2, p3, d0, d1, d2, d3⟩ := q
      have l0 : G.length = p0 := by simpa using hq.g.1
      have l1 : S.length = p1 := by simpa using hq.s.1
      have l3 : xs.length + 1 = p3 := by simpa using hq.f.1
      have j1 : S.length = n1 := by have := R1'.out.s.1; simpa using this
      obtain ⟨gS, hS⟩ := own_some hq.s (by dsimp only; omega)
      obtain ⟨gF, hF⟩ := own_some hq.f (by dsimp only; omega)
      dsimp only at hS hF
      subst hS
      subst hF
      have hXp : X < p1 := by omega
      have v1 := own_at hq.s hXp
      have v2 := hq.s.frozenAt X
      have v3 := (own_ge hq.s).2
      have v4 := (own_ge hq.s).1
      have v5 := (own_cap hq.f).1
      have v6 := (own_cap hq.f).2
      simp only [maxLen] at v6
      have vF := own_at hq.f (k := 0) (by dsimp only; omega)
      have vG := (own_ge hq.f).1
      have vH := (own_ge hq.f).2
      dsimp only at vF vG vH
      rw [show ((X : Int) :: xs).getD 0 0 = (X : Int) from rfl] at vF
      have hc := T2.out.2.1.cells
      have hl := T2.out.2.1.lt
      have s1 := T1.out.size
      have hbG : bG < w.heap.size := by omega
      have nG1 : bG ≠ gS := by omega
      have nG2 : bG ≠ u2.heap.size := by omega
      have nG3 : gF ≠ u2.heap.size := by omega
      have nG4 : gF ≠ w.heap.size + 1 := by omega
      have cG3 : (u2.setCell ⟨gS, X, none⟩ (.int .i64 1)).cell? ⟨bG, oG + X, none⟩ = some (.int .i64 gv) := (World.cell?_of_block (Below.heap_setCell u2 ⟨gS, X, none⟩ _ bG (by simpa using nG1))).trans cG2
      have hbG2 : bG < u2.heap.size := by omega
      have hp3 : 1 ≤ p3 := by omega
      dsimp only at v1 v2 v3 v4 v5 v6
      generalize S.getD X 0 = sv at v1
      have HO := hide hq
      have hne1 : gS ≠ u2.heap.size := by omega
      have hne2 : gS ≠ w.heap.size + 1 := by omega
      have hne3 : w.heap.size + 1 ≠ gS := by omega
      have hl2 := T2.out.2.2.lt
      obtain ⟨y0, f0, y1, f1, y2, f2, y3, f3⟩ := zero_cells T2.out.2.2
      have s2 := T2.out.size
      clear hq hu2 l0 l1 l3 j1
      by_cases hd3 : d3 = 1
      · subst hd3
        obtain rfl : p3 = 1 := by omega
        have HT := hide ((((HO.out.setS X 1).set4 (k := w.heap.size + 1) (by omega) (.slice a0 p0 d0) (.slice (some ⟨gS, 0, none⟩) p1 d1) (.slice a2 p2 d2) (.slice (some ⟨gF, 0, none⟩) 0 0)).alloc (.cells (C4 a0 (some ⟨gS, 0, none⟩) a2 (some ⟨gF, 0, none⟩) p0 p1 p2 0 d0 d1 d2 0) 26)).tail1 0)
        go_wp2_with fail
        refine (rpack_ok (X : Int) gv _ (by omega) (by omega) (by omega) (by omega)).mono ?_
        rintro e w' ⟨rfl, rfl⟩
        go_wp2
        refine bodyPost_ret (results_row_two rfl _ _ (w.heap.size + 1) 26 _ (0, 0) _ rfl (PBox.alloc (set4_heap (T2.out.far (by omega) _ _).2.2 _ _ _ _) _) Try.underlying26 rfl Try.size26) rfl ⟨⟨a0, some ⟨gS, 0, none⟩, a2, some ⟨gF, 0, none⟩, p0, p1, p2, 0, d0, d1, d2, 0⟩, by rw [HRX.out]; rfl, by rw [HQX.out]; exact HT.out.less (by omega), (set4_below (T2.out.far (by omega) _ _).1 (by omega) _ _ _ _).alloc (by have := T2.out.1.size; simp; omega) _⟩
      · have hd4 : 2 ≤ d3 := by omega
        clear hd3
        have HT := hide ((((HO.out.setS X 1).set4 (k := w.heap.size + 1) (by omega) (.slice a0 p0 d0) (.slice (some ⟨gS, 0, none⟩) p1 d1) (.slice a2 p2 d2) (.slice (some ⟨gF, 1, none⟩) (p3 - 1) (d3 - 1))).alloc (.cells (C4 a0 (some ⟨gS, 0, none⟩) a2 (some ⟨gF, 1, none⟩) p0 p1 p2 (p3 - 1) d0 d1 d2 (d3 - 1)) 26)).tail (d3 - 1))
        go_wp2_with fail
        refine (rpack_ok (X : Int) gv _ (by omega) (by omega) (by omega) (by omega)).mono ?_
        rintro e w' ⟨rfl, rfl⟩
        go_wp2
        refine bodyPost_ret (results_row_two rfl _ _ (w.heap.size + 1) 26 _ (0, 0) _ rfl (PBox.alloc (set4_heap (T2.out.far (by omega) _ _).2.2 _ _ _ _) _) Try.underlying26 rfl Try.size26) rfl ⟨⟨a0, some ⟨gS, 0, none⟩, a2, some ⟨gF, 1, none⟩, p0, p1, p2, p3 - 1, d0, d1, d2, d3 - 1⟩, by rw [HRX.out]; rfl, by rw [HQX.out]; exact HT.out.less (by omega), (set4_below (T2.out.far (by omega) _ _).1 (by omega) _ _ _ _).alloc (by have := T2.out.1.size; simp; omega) _⟩

end Go.Proofs.Ythficfmakbblkaa.Pool

/- What Retire tells, of any pool that is not great: the code's and the document's. -/
namespace Go.Proofs.Ythficfmakbblkaa.Pool
open Go.RowKit
set_option maxRecDepth 100000
set_option linter.unusedVariables false

theorem unpack_is (r : Int) (X : Nat) (g : Int) (w : World) (h1 : 1 ≤ r) (h2 : r ≤ 1125899906842624) (hX : Hid ((r - 1) % 1024 = (X : Int))) (hg : Hid ((r - 1) / 1024 = g)) :
    Calls Try.prog 28 #[.int .i64 r] w fun e w' => e = .returned (.tuple #[.int .i64 (X : Int), .int .i64 g, .int .i64 0]) ∧ w = w' := by
  have h := unpack_ok r w h1 h2
  rwa [hX.out, hg.out] at h
theorem runpack_is (r : Int) (X : Nat) (g : Int) (w : World) (h1 : 1 ≤ r) (h2 : r ≤ 1125899906842624) (hX : Hid ((r - 1) % 1024 = (X : Int))) (hg : Hid ((r - 1) / 1024 = g)) :
    Calls Try.prog 55 #[.int .i64 r] w fun e w' => e = .returned (.tuple #[.int .i64 (X : Int), .int .i64 g, .int .i64 0]) ∧ w = w' := by
  have h := runpack_ok r w h1 h2
  rwa [hX.out, hg.out] at h

set_option maxHeartbeats 4000000 in
theorem retire_any (p : Pl) (P : PL) (B : Nat) (b : Bool) (r z : Int) (w : World) (hr : Reads w B p P) (hB : B ≤ w.heap.size) (hm : Small p) (hb : Hid (b = true ↔ MayBe P)) :
    Calls Try.prog 53 #[p.val, .int .i64 r, .int .i64 z] w (Tell2 w (retQ b P r z) (retE b P r)) := by
  obtain ⟨A0, A1, A2, A3, n0, n1, n2, n3, c0, c1, c2, c3⟩ := p
  obtain ⟨G, S, W, F⟩ := P
  have HM := hide hm
  obtain ⟨m0, m1, m2, m3⟩ := hm
  dsimp only at m0 m1 m2 m3
  have T0 := hide (Two.first w (C4 A0 A1 A2 A3 n0 n1 n2 n3 c0 c1 c2 c3))
  have R0 := hide (hr.below T0.out.1 hB)
  have HR := hide hr
  have lg := hide (show G.length = n0 by have := hr.g.1; simpa using this)
  have ls := hide (show S.length = n1 by have := hr.s.1; simpa using this)
  have lt := hide (show W.length = n2 by have := hr.t.1; simpa using this)
  clear hr
  go_enter Try.func53, Try.ntmps53
  go_wp2_with fail
  refine (mayBe_any ⟨A0, A1, A2, A3, n0, n1, n2, n3, c0, c1, c2, c3⟩ ⟨G, S, W, F⟩ B b _ R0.out (Nat.le_trans hB T0.out.1.size) HM.out hb).mono ?_
  rintro e u1 ⟨rfl, hu1⟩
  have T1 := hide (T0.out.step hu1)
  clear hu1 T0 R0
  have hc := T1.out.2.1.cells
  have hl := T1.out.2.1.lt
  cases b with
  | false =>
    clear hc hl
    have HE : Hid (retE false ⟨G, S, W, F⟩ r = 1) := by simp [Hid, retE]
    have HQ : Hid (retQ false ⟨G, S, W, F⟩ r z = noP) := by simp only [Hid, retQ, HE.out]; simp
    obtain ⟨y0, f0, y1, f1, y2, f2, y3, f3⟩ := zero_cells T1.out.2.2
    go_wp2
    refine bodyPost_ret (results_row_tmp rfl _ _ (w.heap.size + 1) 26 _ (0, 0) _ rfl (set4_heap T1.out.2.2 _ _ _ _) Try.underlying26 rfl Try.size26) rfl ⟨noPl, by rw [HE.out]; rfl, by rw [HQ.out]; exact told_none _ _, set4_below T1.out.1 (by omega) _ _ _ _⟩
  | true =>
    have MB := may_of hb rfl
    obtain ⟨k1, k2, k3, k4, k5, k6⟩ := MB
    dsimp only at k1 k2 k3 k4
    have hn01 : n1 = n0 := by have := lg.out; have := ls.out; omega
    have hn02 : n2 = n0 := by have := lg.out; have := lt.out; omega
    have hn64 : n0 ≤ 64 := by have := lg.out; omega
    subst hn01
    subst hn02
    clear k1 k2 k3 k4 k5 k6
    obtain ⟨n0, rfl⟩ : ∃ n0, n0 = n2 := ⟨_, rfl⟩
    by_cases hr1 : r < 1 ∨ 1125899906842624 < r
    · have HE : Hid (retE true ⟨G, S, W, F⟩ r = 1) := by
        simp only [Hid, retE]
        rw [if_pos (by omega)]
      have HQ : Hid (retQ true ⟨G, S, W, F⟩ r z = noP) := by simp only [Hid, retQ, HE.out]; simp
      have HR1 := hide hr1
      clear hr1
      go_wp2_with fail
      refine (unpack_no _ _ HR1.out).mono ?_
      rintro e w' ⟨rfl, rfl⟩
      clear hc hl
      obtain ⟨y0, f0, y1, f1, y2, f2, y3, f3⟩ := zero_cells T1.out.2.2
      go_wp2
      refine bodyPost_ret (results_row_tmp rfl _ _ (w.heap.size + 1) 26 _ (0, 0) _ rfl (set4_heap T1.out.2.2 _ _ _ _) Try.underlying26 rfl Try.size26) rfl ⟨noPl, by rw [HE.out]; rfl, by rw [HQ.out]; exact told_none _ _, set4_below T1.out.1 (by omega) _ _ _ _⟩
    · obtain ⟨X, hX⟩ : ∃ X : Nat, (r - 1) % 1024 = (X : Int) := ⟨((r - 1) % 1024).toNat, by omega⟩
      obtain ⟨gn, hgn⟩ : ∃ gn : Int, (r - 1) / 1024 = gn := ⟨_, rfl⟩
      have HX := hide hX
      have HGN := hide hgn
      have hr2 : 1 ≤ r := by omega
      have hr3 : r ≤ 1125899906842624 := by omega
      clear hr1 hX hgn
      go_wp2_with fail
      refine (unpack_is _ X gn _ hr2 hr3 HX HGN).mono ?_
      rintro e w' ⟨rfl, rfl⟩
      by_cases hge : n0 ≤ X
      · have HE : Hid (retE true ⟨G, S, W, F⟩ r = 1) := by
          simp only [Hid, retE]
          rw [if_pos (by rw [HX.out, lg.out]; omega)]
        have HQ : Hid (retQ true ⟨G, S, W, F⟩ r z = noP) := by simp only [Hid, retQ, HE.out]; simp
        go_wp2_with fail
        refine (isSlot_no _ _ _ _ _ _ _ _ _ _ _ _ _ _ (by omega) (by omega)).mono ?_
        rintro e u2 ⟨rfl, hu2⟩
        replace T1 := hide (T1.out.step hu2)
        clear hc hl hu2
        obtain ⟨y0, f0, y1, f1, y2, f2, y3, f3⟩ := zero_cells T1.out.2.2
        go_wp2
        refine bodyPost_ret (results_row_tmp rfl _ _ (w.heap.size + 1) 26 _ (0, 0) _ rfl (set4_heap T1.out.2.2 _ _ _ _) Try.underlying26 rfl Try.size26) rfl ⟨noPl, by rw [HE.out]; rfl, by rw [HQ.out]; exact told_none _ _, set4_below T1.out.1 (by omega) _ _ _ _⟩
      have hXn : X < n0 := by omega
      clear hge
      go_wp2_with fail
      refine (isSlot_yes _ _ _ _ _ _ _ _ _ _ _ _ _ _ (by omega) (by omega) (by omega)).mono ?_
      rintro e u2 ⟨rfl, hu2⟩
      replace T1 := hide (T1.out.step hu2)
      clear hc hl hu2
      have hc := T1.out.2.1.cells
      have hl := T1.out.2.1.lt
      have R1 := HR.out.below T1.out.1 hB
      obtain ⟨bG, oG, eG, hbB, cG⟩ := R1.g.at_ hXn
      obtain ⟨bS, oS, eS, hbS, cS⟩ := R1.s.at_ hXn
      dsimp only at eG eS cG cS
      subst eG
      subst eS
      have HSV : Hid (S.getD X 0 = S.getD X 0) := rfl
      obtain ⟨sv, hsv⟩ : ∃ sv, Hid (S.getD X 0 = sv) := ⟨_, rfl⟩
      obtain ⟨gv, hgv⟩ : ∃ gv, Hid (G.getD X 0 = gv) := ⟨_, rfl⟩
      rw [hsv.out] at cS
      rw [hgv.out] at cG
      clear R1 HSV
      by_cases hnk : ¬ (sv = 1 ∧ gv = gn)
      · have HE : Hid (retE true ⟨G, S, W, F⟩ r = 2) := by
          simp only [Hid, retE]
          rw [if_neg (by rw [HX.out, lg.out]; simp; omega), if_pos (by rw [HX.out, HGN.out, Int.toNat_natCast, hsv.out, hgv.out]; omega)]
        have HQ : Hid (retQ true ⟨G, S, W, F⟩ r z = noP) := by simp only [Hid, retQ, HE.out]; simp
        obtain ⟨y0, f0, y1, f1, y2, f2, y3, f3⟩ := zero_cells T1.out.2.2
        by_cases hs1 : sv = 1
        · have e1 : (sv != 1) = false := by simpa using hs1
          have e2 : (gv != gn) = true := by simp; omega
          clear hnk hs1
          go_wp2
          refine bodyPost_ret (results_row_tmp rfl _ _ (w.heap.size + 1) 26 _ (0, 0) _ rfl (set4_heap T1.out.2.2 _ _ _ _) Try.underlying26 rfl Try.size26) rfl ⟨noPl, by rw [HE.out]; rfl, by rw [HQ.out]; exact told_none _ _, set4_below T1.out.1 (by omega) _ _ _ _⟩
        · have e1 : (sv != 1) = true := by simpa using hs1
          clear hnk hs1
          go_wp2
          refine bodyPost_ret (results_row_tmp rfl _ _ (w.heap.size + 1) 26 _ (0, 0) _ rfl (set4_heap T1.out.2.2 _ _ _ _) Try.underlying26 rfl Try.size26) rfl ⟨noPl, by rw [HE.out]; rfl, by rw [HQ.out]; exact told_none _ _, set4_below T1.out.1 (by omega) _ _ _ _⟩
      have hok : sv = 1 ∧ gv = gn := by omega
      clear hnk
      have HE : Hid (retE true ⟨G, S, W, F⟩ r = 0) := by
        simp only [Hid, retE]
        rw [if_neg (by rw [HX.out, lg.out]; simp; omega), if_neg (by rw [HX.out, HGN.out, Int.toNat_natCast, hsv.out, hgv.out]; omega)]
      have HQ : Hid (retQ true ⟨G, S, W, F⟩ r z = ⟨G, S.set X 2, W.set X z, F⟩) := by
        simp only [Hid, retQ, HE.out]
        rw [HX.out, Int.toNat_natCast]
        simp
      have e1 : (sv != 1) = false := by simpa using hok.1
      have e2 : (gv != gn) = false := by simpa using hok.2
      clear hok
      have R1' := hide (HR.out.below T1.out.1 hB)
      have HS1 := hide T1.out.1.size
      go_wp2_with fail
      refine (fresh_any ⟨some ⟨bG, oG, none⟩, some ⟨bS, oS, none⟩, A2, A3, n0, n0, n0, n3, c0, c1, c2, c3⟩ ⟨G, S, W, F⟩ B _ R1'.out (Nat.le_trans hB HS1.out) HM.out).mono ?_
      rintro e u3 ⟨q, rfl, hq, hu3⟩
      have T2 := hide (T1.out.step hu3)
      clear hc hl cG cS e1 e2
      obtain ⟨a0, a1, a2, a3, p0, p1, p2, p3, d0, d1, d2, d3⟩ := q
      have l1 : S.length = p1 := by simpa using hq.s.1
      have l2 : W.length = p2 := by simpa using hq.t.1
      have hp1 : X < p1 := by have := ls.out; omega
      have hp2 : X < p2 := by have := lt.out; omega
      have hp3 : p1 ≤ 64 := by have := ls.out; omega
      have hp4 : p2 ≤ 64 := by have := lt.out; omega
      obtain ⟨gS, hS⟩ := own_some hq.s (by dsimp only; omega)
      obtain ⟨gT, hT⟩ := own_some hq.t (by dsimp only; omega)
      dsimp only at hS hT
      subst hS
      subst hT
      have v1 := own_at hq.s hp1
      have v2 := hq.s.frozenAt X
      have v3 := (own_ge hq.s).2
      have v4 := (own_ge hq.s).1
      have v5 := own_at hq.t hp2
      have v6 := hq.t.frozenAt X
      have v7 := (own_ge hq.t).2
      have v8 := (own_ge hq.t).1
      have v9 := hq.st _ _ rfl rfl
      dsimp only at v1 v2 v3 v4 v5 v6 v7 v8 v9
      have v9' : gT ≠ gS := fun h => v9 h.symm
      generalize S.getD X 0 = sw at v1
      generalize W.getD X 0 = tw at v5
      have HO := hide hq
      have s1 := T1.out.size
      have s2 := T2.out.size
      have hne1 : gS ≠ u3.heap.size := by omega
      have hne2 : gS ≠ w.heap.size + 1 := by omega
      have hne3 : w.heap.size + 1 ≠ gS := by omega
      have hne4 : gT ≠ u3.heap.size := by omega
      have hne5 : gT ≠ w.heap.size + 1 := by omega
      have hne6 : w.heap.size + 1 ≠ gT := by omega
      have hl2 := T2.out.2.2.lt
      obtain ⟨y0, f0, y1, f1, y2, f2, y3, f3⟩ := zero_cells T2.out.2.2
      have HT := hide (((((HO.out.setS X 2).setT X z).set4 (k := w.heap.size + 1) (by omega) (.slice a0 p0 d0) (.slice (some ⟨gS, 0, none⟩) p1 d1) (.slice (some ⟨gT, 0, none⟩) p2 d2) (.slice a3 p3 d3)).alloc (.cells (C4 a0 (some ⟨gS, 0, none⟩) (some ⟨gT, 0, none⟩) a3 p0 p1 p2 p3 d0 d1 d2 d3) 26)).told)
      clear hq hu3 l1 l2
      go_wp2
      refine bodyPost_ret (results_row_tmp rfl _ _ (w.heap.size + 1) 26 _ (0, 0) _ rfl (PBox.alloc (set4_heap ((T2.out.far (by omega) _ _).far (by omega) _ _).2.2 _ _ _ _) _) Try.underlying26 rfl Try.size26) rfl ⟨⟨a0, some ⟨gS, 0, none⟩, some ⟨gT, 0, none⟩, a3, p0, p1, p2, p3, d0, d1, d2, d3⟩, by rw [HE.out]; rfl, by rw [HQ.out]; exact HT.out.less (by omega), (set4_below ((T2.out.far (by omega) _ _).far (by omega) _ _).1 (by omega) _ _ _ _).alloc (by have := T2.out.1.size; simp; omega) _⟩

set_option maxHeartbeats 4000000 in
theorem rretire_any (p : Pl) (P : PL) (B : Nat) (b : Bool) (r z : Int) (w : World) (hr : Reads w B p P) (hB : B ≤ w.heap.size) (hm : Small p) (hb : Hid (b = true ↔ MayBe P)) :
    Calls Try.prog 54 #[p.val, .int .i64 r, .int .i64 z] w (Tell2 w (retQ b P r z) (retE b P r)) := by
  obtain ⟨A0, A1, A2, A3, n0, n1, n2, n3, c0, c1, c2, c3⟩ := p
  obtain ⟨G, S, W, F⟩ := P
  have HM := hide hm
  obtain ⟨m0, m1, m2, m3⟩ := hm
  dsimp only at m0 m1 m2 m3
  have T0 := hide (Two.first w (C4 A0 A1 A2 A3 n0 n1 n2 n3 c0 c1 c2 c3))
  have R0 := hide (hr.below T0.out.1 hB)
  have HR := hide hr
  have lg := hide (show G.length = n0 by have := hr.g.1; simpa using this)
  have ls := hide (show S.length = n1 by have := hr.s.1; simpa using this)
  have lt := hide (show W.length = n2 by have := hr.t.1; simpa using this)
  clear hr
  go_enter Try.func54, Try.ntmps54
  go_wp2_with fail
  refine (rcheck_any ⟨A0, A1, A2, A3, n0, n1, n2, n3, c0, c1, c2, c3⟩ ⟨G, S, W, F⟩ B b _ R0.out (Nat.le_trans hB T0.out.1.size) HM.out hb).mono ?_
  rintro e u1 ⟨rfl, hu1⟩
  have T1 := hide (T0.out.step hu1)
  clear hu1 T0 R0
  have hc := T1.out.2.1.cells
  have hl := T1.out.2.1.lt
  cases b with
  | false =>
    clear hc hl
    have HE : Hid (retE false ⟨G, S, W, F⟩ r = 1) := by simp [Hid, retE]
    have HQ : Hid (retQ false ⟨G, S, W, F⟩ r z = noP) := by simp only [Hid, retQ, HE.out]; simp
    obtain ⟨y0, f0, y1, f1, y2, f2, y3, f3⟩ := zero_cells T1.out.2.2
    go_wp2
    refine bodyPost_ret (results_row_tmp rfl _ _ (w.heap.size + 1) 26 _ (0, 0) _ rfl (set4_heap T1.out.2.2 _ _ _ _) Try.underlying26 rfl Try.size26) rfl ⟨noPl, by rw [HE.out]; rfl, by rw [HQ.out]; exact told_none _ _, set4_below T1.out.1 (by omega) _ _ _ _⟩
  | true =>
    have MB := may_of hb rfl
    obtain ⟨k1, k2, k3, k4, k5, k6⟩ := MB
    dsimp only at k1 k2 k3 k4
    have hn01 : n1 = n0 := by have := lg.out; have := ls.out; omega
    have hn02 : n2 = n0 := by have := lg.out; have := lt.out; omega
    have hn64 : n0 ≤ 64 := by have := lg.out; omega
    subst hn01
    subst hn02
    clear k1 k2 k3 k4 k5 k6
    obtain ⟨n0, rfl⟩ : ∃ n0, n0 = n2 := ⟨_, rfl⟩
    by_cases hr1 : r < 1 ∨ 1125899906842624 < r
    · have HE : Hid (retE true ⟨G, S, W, F⟩ r = 1) := by
        simp only [Hid, retE]
        rw [if_pos (by omega)]
      have HQ : Hid (retQ true ⟨G, S, W, F⟩ r z = noP) := by simp only [Hid, retQ, HE.out]; simp
      have HR1 := hide hr1
      clear hr1
      go_wp2_with fail
      refine (runpack_no _ _ HR1.out).mono ?_
      rintro e w' ⟨rfl, rfl⟩
      clear hc hl
      obtain ⟨y0, f0, y1, f1, y2, f2, y3, f3⟩ := zero_cells T1.out.2.2
      go_wp2
      refine bodyPost_ret (results_row_tmp rfl _ _ (w.heap.size + 1) 26 _ (0, 0) _ rfl (set4_heap T1.out.2.2 _ _ _ _) Try.underlying26 rfl Try.size26) rfl ⟨noPl, by rw [HE.out]; rfl, by rw [HQ.out]; exact told_none _ _, set4_below T1.out.1 (by omega) _ _ _ _⟩
    · obtain ⟨X, hX⟩ : ∃ X : Nat, (r - 1) % 1024 = (X : Int) := ⟨((r - 1) % 1024).toNat, by omega⟩
      obtain ⟨gn, hgn⟩ : ∃ gn : Int, (r - 1) / 1024 = gn := ⟨_, rfl⟩
      have HX := hide hX
      have HGN := hide hgn
      have hr2 : 1 ≤ r := by omega
      have hr3 : r ≤ 1125899906842624 := by omega
      clear hr1 hX hgn
      go_wp2_with fail
      refine (runpack_is _ X gn _ hr2 hr3 HX HGN).mono ?_
      rintro e w' ⟨rfl, rfl⟩
      by_cases hge : n0 ≤ X
      · have HE : Hid (retE true ⟨G, S, W, F⟩ r = 1) := by
          simp only [Hid, retE]
          rw [if_pos (by rw [HX.out, lg.out]; omega)]
        have HQ : Hid (retQ true ⟨G, S, W, F⟩ r z = noP) := by simp only [Hid, retQ, HE.out]; simp
        have hd : decide ((n0 : Int) ≤ (X : Int)) = true := by simp; omega
        obtain ⟨y0, f0, y1, f1, y2, f2, y3, f3⟩ := zero_cells T1.out.2.2
        go_wp2
        refine bodyPost_ret (results_row_tmp rfl _ _ (w.heap.size + 1) 26 _ (0, 0) _ rfl (set4_heap T1.out.2.2 _ _ _ _) Try.underlying26 rfl Try.size26) rfl ⟨noPl, by rw [HE.out]; rfl, by rw [HQ.out]; exact told_none _ _, set4_below T1.out.1 (by omega) _ _ _ _⟩
      have hXn : X < n0 := by omega
      clear hge
      have hd : decide ((n0 : Int) ≤ (X : Int)) = false := by simp; omega
      have R1 := HR.out.below T1.out.1 hB
      obtain ⟨bG, oG, eG, hbB, cG⟩ := R1.g.at_ hXn
      obtain ⟨bS, oS, eS, hbS, cS⟩ := R1.s.at_ hXn
      dsimp only at eG eS cG cS
      subst eG
      subst eS
      have HSV : Hid (S.getD X 0 = S.getD X 0) := rfl
      obtain ⟨sv, hsv⟩ : ∃ sv, Hid (S.getD X 0 = sv) := ⟨_, rfl⟩
      obtain ⟨gv, hgv⟩ : ∃ gv, Hid (G.getD X 0 = gv) := ⟨_, rfl⟩
      rw [hsv.out] at cS
      rw [hgv.out] at cG
      clear R1 HSV
      by_cases hnk : ¬ (sv = 1 ∧ gv = gn)
      · have HE : Hid (retE true ⟨G, S, W, F⟩ r = 2) := by
          simp only [Hid, retE]
          rw [if_neg (by rw [HX.out, lg.out]; simp; omega), if_pos (by rw [HX.out, HGN.out, Int.toNat_natCast, hsv.out, hgv.out]; omega)]
        have HQ : Hid (retQ true ⟨G, S, W, F⟩ r z = noP) := by simp only [Hid, retQ, HE.out]; simp
        obtain ⟨y0, f0, y1, f1, y2, f2, y3, f3⟩ := zero_cells T1.out.2.2
        by_cases hs1 : sv = 1
        · have e1 : (sv != 1) = false := by simpa using hs1
          have e2 : (gv != gn) = true := by simp; omega
          clear hnk hs1
          go_wp2
          refine bodyPost_ret (results_row_tmp rfl _ _ (w.heap.size + 1) 26 _ (0, 0) _ rfl (set4_heap T1.out.2.2 _ _ _ _) Try.underlying26 rfl Try.size26) rfl ⟨noPl, by rw [HE.out]; rfl, by rw [HQ.out]; exact told_none _ _, set4_below T1.out.1 (by omega) _ _ _ _⟩
        · have e1 : (sv != 1) = true := by simpa using hs1
          clear hnk hs1
          go_wp2
          refine bodyPost_ret (results_row_tmp rfl _ _ (w.heap.size + 1) 26 _ (0, 0) _ rfl (set4_heap T1.out.2.2 _ _ _ _) Try.underlying26 rfl Try.size26) rfl ⟨noPl, by rw [HE.out]; rfl, by rw [HQ.out]; exact told_none _ _, set4_below T1.out.1 (by omega) _ _ _ _⟩
      have hok : sv = 1 ∧ gv = gn := by omega
      clear hnk
      have HE : Hid (retE true ⟨G, S, W, F⟩ r = 0) := by
        simp only [Hid, retE]
        rw [if_neg (by rw [HX.out, lg.out]; simp; omega), if_neg (by rw [HX.out, HGN.out, Int.toNat_natCast, hsv.out, hgv.out]; omega)]
      have HQ : Hid (retQ true ⟨G, S, W, F⟩ r z = ⟨G, S.set X 2, W.set X z, F⟩) := by
        simp only [Hid, retQ, HE.out]
        rw [HX.out, Int.toNat_natCast]
        simp
      have e1 : (sv != 1) = false := by simpa using hok.1
      have e2 : (gv != gn) = false := by simpa using hok.2
      clear hok
      have R1' := hide (HR.out.below T1.out.1 hB)
      have HS1 := hide T1.out.1.size
      go_wp2_with fail
      refine (rcopyp_any ⟨some ⟨bG, oG, none⟩, some ⟨bS, oS, none⟩, A2, A3, n0, n0, n0, n3, c0, c1, c2, c3⟩ ⟨G, S, W, F⟩ B _ R1'.out (Nat.le_trans hB HS1.out) HM.out).mono ?_
      rintro e u3 ⟨q, rfl, hq, hu3⟩
      have T2 := hide (T1.out.step hu3)
      clear hc hl cG cS e1 e2
      obtain ⟨a0, a1, a2, a3, p0, p1, p2, p3, d0, d1, d2, d3⟩ := q
      have l1 : S.length = p1 := by simpa using hq.s.1
      have l2 : W.length = p2 := by simpa using hq.t.1
      have hp1 : X < p1 := by have := ls.out; omega
      have hp2 : X < p2 := by have := lt.out; omega
      have hp3 : p1 ≤ 64 := by have := ls.out; omega
      have hp4 : p2 ≤ 64 := by have := lt.out; omega
      obtain ⟨gS, hS⟩ := own_some hq.s (by dsimp only; omega)
      obtain ⟨gT, hT⟩ := own_some hq.t (by dsimp only; omega)
      dsimp only at hS hT
      subst hS
      subst hT
      have v1 := own_at hq.s hp1
      have v2 := hq.s.frozenAt X
      have v3 := (own_ge hq.s).2
      have v4 := (own_ge hq.s).1
      have v5 := own_at hq.t hp2
      have v6 := hq.t.frozenAt X
      have v7 := (own_ge hq.t).2
      have v8 := (own_ge hq.t).1
      have v9 := hq.st _ _ rfl rfl
      dsimp only at v1 v2 v3 v4 v5 v6 v7 v8 v9
      have v9' : gT ≠ gS := fun h => v9 h.symm
      generalize S.getD X 0 = sw at v1
      generalize W.getD X 0 = tw at v5
      have HO := hide hq
      have s1 := T1.out.size
      have s2 := T2.out.size
      have hne1 : gS ≠ u3.heap.size := by omega
      have hne2 : gS ≠ w.heap.size + 1 := by omega
      have hne3 : w.heap.size + 1 ≠ gS := by omega
      have hne4 : gT ≠ u3.heap.size := by omega
      have hne5 : gT ≠ w.heap.size + 1 := by omega
      have hne6 : w.heap.size + 1 ≠ gT := by omega
      have hl2 := T2.out.2.2.lt
      obtain ⟨y0, f0, y1, f1, y2, f2, y3, f3⟩ := zero_cells T2.out.2.2
      have HT := hide (((((HO.out.setS X 2).setT X z).set4 (k := w.heap.size + 1) (by omega) (.slice a0 p0 d0) (.slice (some ⟨gS, 0, none⟩) p1 d1) (.slice (some ⟨gT, 0, none⟩) p2 d2) (.slice a3 p3 d3)).alloc (.cells (C4 a0 (some ⟨gS, 0, none⟩) (some ⟨gT, 0, none⟩) a3 p0 p1 p2 p3 d0 d1 d2 d3) 26)).told)
      clear hq hu3 l1 l2
      go_wp2
      refine bodyPost_ret (results_row_tmp rfl _ _ (w.heap.size + 1) 26 _ (0, 0) _ rfl (PBox.alloc (set4_heap ((T2.out.far (by omega) _ _).far (by omega) _ _).2.2 _ _ _ _) _) Try.underlying26 rfl Try.size26) rfl ⟨⟨a0, some ⟨gS, 0, none⟩, some ⟨gT, 0, none⟩, a3, p0, p1, p2, p3, d0, d1, d2, d3⟩, by rw [HE.out]; rfl, by rw [HQ.out]; exact HT.out.less (by omega), (set4_below ((T2.out.far (by omega) _ _).far (by omega) _ _).1 (by omega) _ _ _ _).alloc (by have := T2.out.1.size; simp; omega) _⟩

end Go.Proofs.Ythficfmakbblkaa.Pool

/- How an own pool is kept while Free grows. What Reclaim's lists are, slot by slot. -/
namespace Go.Proofs.Ythficfmakbblkaa.Pool
open Go.RowKit

theorem own_block_addr {A : Option Addr} {n c g : Nat} (h : (Value.slice A n c).ownBlock = some g) : ∃ a, A = some a ∧ a.block = g := by
  rcases A with _ | ⟨b, o, s⟩
  · simp [Value.ownBlock] at h
  · exact ⟨_, rfl, by simpa [Value.ownBlock] using h⟩

section
variable {u w2 : World} {B : Nat} {A0 A1 A2 A3 : Option Addr} {n0 n1 n2 n3 c0 c1 c2 c3 g' cap : Nat} {G S W F : List Int} {k : Int}

/-- A row that is not the one that grows. -/
theorem own_kept {A : Option Addr} {n c : Nat} {zs : List Int} (h : u.ownsRow B 3 1 (.slice A n c) n (ints zs)) (hg : u.grownBy w2 (Value.slice A3 n3 c3).ownBlock) (ap : Apart A A3) : w2.ownsRow B 3 1 (.slice A n c) n (ints zs) := by
  refine ⟨h.1, ?_⟩
  rcases h.2 with h0 | ⟨g, cap, cur, h1, hB, hgg, r⟩
  · exact .inl h0
  · refine .inr ⟨g, cap, cur, h1, hB, (hg.block g (Array.getElem?_eq_some_iff.1 hgg).1 fun e => ?_).trans hgg, r⟩
    simp only [Value.slice.injEq] at h1
    obtain ⟨a, ha, hb⟩ := own_block_addr e.symm
    exact ap _ _ h1.1 ha hb.symm

theorem apart_grown {A : Option Addr} {n c : Nat} {zs : List Int} (h : u.ownsRow B 3 1 (.slice A n c) n (ints zs)) (ap : Apart A A3) (hl : (Value.slice A3 n3 c3).ownBlock = some g' ∨ g' = u.heap.size) : Apart A (some ⟨g', 0, none⟩) := by
  intro a b ha hb
  simp only [Option.some.injEq] at hb
  subst hb
  rcases hl with h1 | rfl
  · obtain ⟨x, hx, hy⟩ := own_block_addr h1
    have := ap _ _ ha hx
    dsimp only
    omega
  · have := (own_addr h a ha).2
    dsimp only
    omega

theorem Owns.grown (h : Owns u B ⟨A0, A1, A2, A3, n0, n1, n2, n3, c0, c1, c2, c3⟩ ⟨G, S, W, F⟩) (hown : w2.ownsRow B 3 1 (.slice (some ⟨g', 0, none⟩) (n3 + 1) cap) (n3 + 1) (ints F ++ [.int .i64 k]))
    (hg : u.grownBy w2 (Value.slice A3 n3 c3).ownBlock) (hl : (Value.slice A3 n3 c3).ownBlock = some g' ∨ g' = u.heap.size) :
    Owns w2 B ⟨A0, A1, A2, some ⟨g', 0, none⟩, n0, n1, n2, n3 + 1, c0, c1, c2, cap⟩ ⟨G, S, W, F ++ [k]⟩ :=
  ⟨own_kept h.g hg h.gf, own_kept h.s hg h.sf, own_kept h.t hg h.tf, by simpa [ints] using hown, h.zg, h.zs, h.zt, (fun h => by cases h), h.gs, h.gt, apart_grown h.g h.gf hl, h.st, apart_grown h.s h.sf hl, apart_grown h.t h.tf hl⟩
end

/-- No row of q lies in block t. -/
def Off (q : Pl) (t : Nat) : Prop := (∀ a, q.A0 = some a → a.block ≠ t) ∧ (∀ a, q.A1 = some a → a.block ≠ t) ∧ (∀ a, q.A2 = some a → a.block ≠ t) ∧ (∀ a, q.A3 = some a → a.block ≠ t)
theorem Owns.off {u : World} {B t : Nat} {q : Pl} {P : PL} (h : Owns u B q P) (ht : u.heap.size ≤ t) : Off q t :=
  ⟨fun a ha => by have := (own_addr h.g a ha).2; omega, fun a ha => by have := (own_addr h.s a ha).2; omega, fun a ha => by have := (own_addr h.t a ha).2; omega, fun a ha => by have := (own_addr h.f a ha).2; omega⟩
theorem Owns.box {u : World} {B t : Nat} {q : Pl} {P : PL} (h : Owns u B q P) (ho : Off q t) (i : Nat) (v : Value) : Owns (u.setCell ⟨t, i, none⟩ v) B q P :=
  ⟨own_far h.g ho.1 _ _, own_far h.s ho.2.1 _ _, own_far h.t ho.2.2.1 _ _, own_far h.f ho.2.2.2 _ _, h.zg, h.zs, h.zt, h.zf, h.gs, h.gt, h.gf, h.st, h.sf, h.tf⟩

/-- A block that is not the row that grows. -/
theorem PBox.grown {u w2 : World} {g : Nat} {cs : Array Value} {A : Option Addr} {n c : Nat} (h : PBox u g cs) (hg : u.grownBy w2 (Value.slice A n c).ownBlock) (hA : ∀ a, A = some a → a.block ≠ g) : PBox w2 g cs := by
  refine (hg.block g h.lt fun e => ?_).trans h
  obtain ⟨a, ha, hb⟩ := own_block_addr e.symm
  exact hA a ha hb
theorem Two.grown {w u w2 : World} {cs : Array Value} {A : Option Addr} {n c : Nat} (h : Two w u cs) (hg : u.grownBy w2 (Value.slice A n c).ownBlock) (hA : ∀ a, A = some a → w.heap.size + 2 ≤ a.block) : Two w w2 cs := by
  refine ⟨h.1.grown hg h.1.size fun k hk => ?_, h.2.1.grown hg fun a ha => ?_, h.2.2.grown hg fun a ha => ?_⟩
  · obtain ⟨a, ha, hb⟩ := own_block_addr hk
    have := hA a ha
    omega
  · have := hA a ha
    omega
  · have := hA a ha
    omega

/- The lists. -/
theorem recP_len (P : PL) (upto : Int) (k : Nat) : (recP P upto k).G.length = P.G.length ∧ (recP P upto k).S.length = P.S.length ∧ (recP P upto k).W.length = P.W.length := by
  induction k with
  | zero => exact ⟨rfl, rfl, rfl⟩
  | succ k ih =>
    rw [recP]
    split
    · simpa [recOne] using ih
    · exact ih
theorem recP_later (P : PL) (upto : Int) (k : Nat) : ∀ j, k ≤ j → (recP P upto k).G.getD j 0 = P.G.getD j 0 ∧ (recP P upto k).S.getD j 0 = P.S.getD j 0 ∧ (recP P upto k).W.getD j 0 = P.W.getD j 0 := by
  induction k with
  | zero => exact fun j _ => ⟨rfl, rfl, rfl⟩
  | succ k ih =>
    intro j hj
    rw [recP]
    split
    · obtain ⟨a, b, c⟩ := ih j (by omega)
      refine ⟨?_, ?_, ?_⟩
      · rw [← a]; simp [recOne, List.getD_eq_getElem?_getD, show ¬ k = j by omega]
      · rw [← b]; simp [recOne, List.getD_eq_getElem?_getD, show ¬ k = j by omega]
      · rw [← c]; simp [recOne, List.getD_eq_getElem?_getD, show ¬ k = j by omega]
    · exact ih j (by omega)
theorem recC_le (P : PL) (upto : Int) (k : Nat) : recC P upto k ≤ k ∧ (recP P upto k).F.length = P.F.length + recC P upto k := by
  induction k with
  | zero => exact ⟨Nat.le_refl _, rfl⟩
  | succ k ih =>
    rw [recP, recC]
    split
    · simp [recOne]; omega
    · omega

end Go.Proofs.Ythficfmakbblkaa.Pool

/- What Reclaim tells, of any pool that is not great: the code's and the document's. -/
namespace Go.Proofs.Ythficfmakbblkaa.Pool
open Go.RowKit
set_option maxRecDepth 100000
set_option linter.unusedVariables false

/-- What stands while the slots are gone through: the copy q is own, its box is block t. -/
structure Rec (w u : World) (cs : Array Value) (t gG gS gT : Nat) (A3 : Option Addr) (n n3 c0 c1 c2 c3 : Nat) (P : PL) : Prop where
  two : Two w u cs
  own : Owns u (w.heap.size + 2) ⟨some ⟨gG, 0, none⟩, some ⟨gS, 0, none⟩, some ⟨gT, 0, none⟩, A3, n, n, n, n3, c0, c1, c2, c3⟩ P
  box : PBox u t (C4 (some ⟨gG, 0, none⟩) (some ⟨gS, 0, none⟩) (some ⟨gT, 0, none⟩) A3 n n n n3 c0 c1 c2 c3)
  off : Off ⟨some ⟨gG, 0, none⟩, some ⟨gS, 0, none⟩, some ⟨gT, 0, none⟩, A3, n, n, n, n3, c0, c1, c2, c3⟩ t
  ge : w.heap.size + 2 ≤ t

theorem cells_new (w : World) (cs : List Value) (t g : Nat) (hg : g = w.heap.size) : ∀ j u, cs[j]? = some u → (w.alloc (.cells cs.toArray t)).cell? ((⟨g, 0, none⟩ : Addr).add j) = some u := by
  intro j u hu
  subst hg
  rw [Addr.add_lit, Nat.zero_add, cell_of_row _ w.heap.size j _ t (0, 0) (heap_alloc_new w _)]
  simpa using hu

section
variable {w u : World} {cs : Array Value} {t gG gS gT : Nat} {A3 : Option Addr} {n n3 c0 c1 c2 c3 : Nat} {G S W F : List Int}

/-- Behind the three stores, and the new element's block. -/
abbrev Mid (u : World) (gG gS gT k : Nat) (x : Int) : World := (((u.setCell ⟨gS, k, none⟩ (.int .i64 0)).setCell ⟨gT, k, none⟩ (.int .i64 0)).setCell ⟨gG, k, none⟩ (.int .i64 x)).alloc (.cells #[.int .i64 (k : Int)] 3)

theorem Rec.mid (h : Rec w u cs t gG gS gT A3 n n3 c0 c1 c2 c3 ⟨G, S, W, F⟩) (k : Nat) (x : Int) :
    Rec w (Mid u gG gS gT k x) cs t gG gS gT A3 n n3 c0 c1 c2 c3 ⟨G.set k x, S.set k 0, W.set k 0, F⟩ := by
  have hG := (own_ge h.own.g).1
  have hS := (own_ge h.own.s).1
  have hT := (own_ge h.own.t).1
  obtain ⟨o1, o2, o3, o4⟩ := h.off
  have q1 := o1 _ rfl
  have q2 := o2 _ rfl
  have q3 := o3 _ rfl
  dsimp only at hG hS hT q1 q2 q3
  exact ⟨(((h.two.far (by omega) _ _).far (by omega) _ _).far (by omega) _ _).alloc _, (((h.own.setS k 0).setT k 0).setG k x).alloc _, (((h.box.other (by omega) _).other (by omega) _).other (by omega) _).alloc _, ⟨o1, o2, o3, o4⟩, h.ge⟩

theorem Rec.grown {w2 : World} {g' cap : Nat} {k : Int} (h : Rec w u cs t gG gS gT A3 n n3 c0 c1 c2 c3 ⟨G, S, W, F⟩) (hown : w2.ownsRow (w.heap.size + 2) 3 1 (.slice (some ⟨g', 0, none⟩) (n3 + 1) cap) (n3 + 1) (ints F ++ [.int .i64 k]))
    (hg : u.grownBy w2 (Value.slice A3 n3 c3).ownBlock) (hl : (Value.slice A3 n3 c3).ownBlock = some g' ∨ g' = u.heap.size) :
    PBox w2 t (C4 (some ⟨gG, 0, none⟩) (some ⟨gS, 0, none⟩) (some ⟨gT, 0, none⟩) A3 n n n n3 c0 c1 c2 c3) ∧
    Rec w (w2.setCell ⟨t, 3, none⟩ (.slice (some ⟨g', 0, none⟩) (n3 + 1) cap)) cs t gG gS gT (some ⟨g', 0, none⟩) n (n3 + 1) c0 c1 c2 cap ⟨G, S, W, F ++ [k]⟩ := by
  have hb : PBox w2 t (C4 (some ⟨gG, 0, none⟩) (some ⟨gS, 0, none⟩) (some ⟨gT, 0, none⟩) A3 n n n n3 c0 c1 c2 c3) := h.box.grown hg h.off.2.2.2
  have ho : Off ⟨some ⟨gG, 0, none⟩, some ⟨gS, 0, none⟩, some ⟨gT, 0, none⟩, some ⟨g', 0, none⟩, n, n, n, n3 + 1, c0, c1, c2, cap⟩ t := by
    refine ⟨h.off.1, h.off.2.1, h.off.2.2.1, fun a ha => ?_⟩
    dsimp only at ha
    simp only [Option.some.injEq] at ha
    subst ha
    dsimp only
    rcases hl with h1 | rfl
    · obtain ⟨x, hx, hy⟩ := own_block_addr h1
      have := h.off.2.2.2 x hx
      omega
    · have := h.box.lt
      omega
  refine ⟨hb, ⟨(h.two.grown hg fun a ha => (own_addr h.own.f a ha).1).far h.ge _ _, (h.own.grown hown hg hl).box ho _ _, ?_, ho, h.ge⟩⟩
  exact hb.set 3 _
end

set_option maxHeartbeats 4000000 in
theorem reclaim_any (p : Pl) (P : PL) (B : Nat) (b : Bool) (upto : Int) (w : World) (hr : Reads w B p P) (hB : B ≤ w.heap.size) (hm : Small p) (hb : Hid (b = true ↔ MayBe P)) :
    Calls Try.prog 60 #[p.val, .int .i64 upto] w (Tell2 w (recQ b P upto) (recN b P upto)) := by
  obtain ⟨i0, hi0, hz0, hz1, hz2⟩ := info_parts Try.info3
  have H1 := hide hi0
  have H2 := hide hz0
  have H3 := hide hz1
  have H4 := hide hz2
  clear hi0 hz0 hz1 hz2
  obtain ⟨A0, A1, A2, A3, n0, n1, n2, n3, c0, c1, c2, c3⟩ := p
  obtain ⟨G, S, W, F⟩ := P
  have HM := hide hm
  obtain ⟨m0, m1, m2, m3⟩ := hm
  dsimp only at m0 m1 m2 m3
  have T0 := hide (Two.first w (C4 A0 A1 A2 A3 n0 n1 n2 n3 c0 c1 c2 c3))
  have R0 := hide (hr.below T0.out.1 hB)
  have HR := hide hr
  have lg := hide (show G.length = n0 by have := hr.g.1; simpa using this)
  have ls := hide (show S.length = n1 by have := hr.s.1; simpa using this)
  have lt := hide (show W.length = n2 by have := hr.t.1; simpa using this)
  have lf := hide (show F.length = n3 by have := hr.f.1; simpa using this)
  clear hr
  go_enter Try.func60, Try.ntmps60
  go_wp2_with fail
  refine (mayBe_any ⟨A0, A1, A2, A3, n0, n1, n2, n3, c0, c1, c2, c3⟩ ⟨G, S, W, F⟩ B b _ R0.out (Nat.le_trans hB T0.out.1.size) HM.out hb).mono ?_
  rintro e u1 ⟨rfl, hu1⟩
  have T1 := hide (T0.out.step hu1)
  clear hu1 T0 R0
  have hc := T1.out.2.1.cells
  have hl := T1.out.2.1.lt
  cases b with
  | false =>
    clear hc hl
    obtain ⟨y0, f0, y1, f1, y2, f2, y3, f3⟩ := zero_cells T1.out.2.2
    go_wp2
    refine bodyPost_ret (results_row_tmp rfl _ _ (w.heap.size + 1) 26 _ (0, 0) _ rfl (set4_heap T1.out.2.2 _ _ _ _) Try.underlying26 rfl Try.size26) rfl ⟨noPl, rfl, told_none _ _, set4_below T1.out.1 (by omega) _ _ _ _⟩
  | true =>
    have MB := may_of hb rfl
    obtain ⟨k1, k2, k3, k4, k5, k6⟩ := MB
    dsimp only at k1 k2 k3 k4
    have hn01 : n1 = n0 := by have := lg.out; have := ls.out; omega
    have hn02 : n2 = n0 := by have := lg.out; have := lt.out; omega
    have hn1 : 1 ≤ n0 := by have := lg.out; omega
    have hn64 : n0 ≤ 64 := by have := lg.out; omega
    have HSlot : Hid (∀ k, k < n0 → 0 ≤ G.getD k 0 ∧ G.getD k 0 ≤ 1099511627775) := fun k hk => by
      have := k5 k (by dsimp only; have := lg.out; omega)
      simp only [SlotOk] at this
      omega
    subst hn01
    subst hn02
    clear k1 k2 k3 k4 k5 k6
    obtain ⟨n, rfl⟩ : ∃ n, n = n2 := ⟨_, rfl⟩
    have R1' := hide (HR.out.below T1.out.1 hB)
    have HS1 := hide T1.out.1.size
    go_wp2_with fail
    refine (fresh_any ⟨A0, A1, A2, A3, n, n, n, n3, c0, c1, c2, c3⟩ ⟨G, S, W, F⟩ B _ R1'.out (Nat.le_trans hB HS1.out) HM.out).mono ?_
    rintro e u2 ⟨q, rfl, hq, hu2⟩
    have T2 := hide (T1.out.step hu2)
    clear hc hl
    obtain ⟨a0, a1, a2, a3, p0, p1, p2, p3, d0, d1, d2, d3⟩ := q
    obtain rfl : n = p0 := by have : G.length = p0 := by simpa using hq.g.1
                              have := lg.out; omega
    obtain rfl : n = p1 := by have : S.length = p1 := by simpa using hq.s.1
                              have := ls.out; omega
    obtain rfl : n = p2 := by have : W.length = p2 := by simpa using hq.t.1
                              have := lt.out; omega
    obtain rfl : n3 = p3 := by have : F.length = p3 := by simpa using hq.f.1
                               have := lf.out; omega
    obtain ⟨gG, hG⟩ := own_some hq.g (by dsimp only; omega)
    obtain ⟨gS, hS⟩ := own_some hq.s (by dsimp only; omega)
    obtain ⟨gT, hT⟩ := own_some hq.t (by dsimp only; omega)
    dsimp only at hG hS hT
    subst hG
    subst hS
    subst hT
    have s1 := T1.out.size
    have HRec0 : Hid (Rec w (u2.alloc (.cells (C4 (some ⟨gG, 0, none⟩) (some ⟨gS, 0, none⟩) (some ⟨gT, 0, none⟩) a3 n n n n3 d0 d1 d2 d3) 26)) (C4 A0 A1 A2 A3 n n n n3 c0 c1 c2 c3) u2.heap.size gG gS gT a3 n n3 d0 d1 d2 d3 ⟨G, S, W, F⟩) :=
      ⟨T2.out.alloc _, (hq.less s1).alloc _, PBox.new u2 _, hq.off (Nat.le_refl _), T2.out.size⟩
    have hc := T2.out.2.1.cells
    have hl := T2.out.2.1.lt
    obtain ⟨t, HTE⟩ : ∃ t, Hid (u2.heap.size = t) := ⟨_, rfl⟩
    clear hq hu2
    go_wp2
    rw [HTE.out]
    rw [HTE.out] at HRec0
    clear hc hl HTE
    go_loopw [7, 19] (fun c i wr => ∃ (k m m3' : Nat) (A3' : Option Addr) (c3' : Nat) (G' S' W' F' : List Int), k ≤ n ∧ i = .int .i64 k ∧ c = .int .i64 m ∧ m ≤ k ∧ m3' ≤ n3 + k ∧ Hid (recP ⟨G, S, W, F⟩ upto k = ⟨G', S', W', F'⟩) ∧ Hid (recC ⟨G, S, W, F⟩ upto k = m) ∧ Hid (Rec w wr (C4 A0 A1 A2 A3 n n n n3 c0 c1 c2 c3) t gG gS gT A3' n m3' d0 d1 d2 c3' ⟨G', S', W', F'⟩))
      (fun _ i _ => n - (intOf i).toNat)
    case atStart => exact ⟨0, 0, n3, a3, d3, G, S, W, F, by omega, rfl, rfl, by omega, by omega, rfl, rfl, HRec0⟩
    case round =>
      obtain ⟨k, m, m3', A3', c3', G', S', W', F', hk, rfl, rfl, hmk, hm3, HP, HC, HRec⟩ := hrel
      clear HRec0 T1 T2 R1'
      have hc := HRec.out.two.2.1.cells
      have hl := HRec.out.two.2.1.lt
      by_cases hlt : k < n
      · have R2 := HR.out.below HRec.out.two.1 hB
        obtain ⟨bG, oG, eG, hbG, cG⟩ := R2.g.at_ hlt
        obtain ⟨bS, oS, eS, hbS, cS⟩ := R2.s.at_ hlt
        obtain ⟨bT, oT, eT, hbT, cT⟩ := R2.t.at_ hlt
        dsimp only at eG eS eT cG cS cT
        subst eG
        subst eS
        subst eT
        obtain ⟨sv, ES⟩ : ∃ sv, Hid (S.getD k 0 = sv) := ⟨_, rfl⟩
        obtain ⟨gv, EG⟩ : ∃ gv, Hid (G.getD k 0 = gv) := ⟨_, rfl⟩
        obtain ⟨tv, ET⟩ : ∃ tv, Hid (W.getD k 0 = tv) := ⟨_, rfl⟩
        have hg1 := (HSlot.out k hlt).1
        have hg2 := (HSlot.out k hlt).2
        rw [EG.out] at cG hg1 hg2
        rw [ES.out] at cS
        rw [ET.out] at cT
        have HG' : Hid (G'.getD k 0 = gv) := by
          have := (recP_later ⟨G, S, W, F⟩ upto k k (Nat.le_refl _)).1
          rw [HP.out] at this
          exact this.trans EG.out
        clear R2
        by_cases t1 : sv = 2
        · by_cases t2 : tv ≤ upto
          · have e1 : (sv != 2) = false := by simpa using t1
            have e2 : decide (upto < tv) = false := by simp; omega
            by_cases t3 : gv < 1099511627775
            · have HD : Hid (Due ⟨G, S, W, F⟩ upto k) := ⟨ES.out.trans t1, by show W.getD k 0 ≤ upto; rw [ET.out]; exact t2, by show G.getD k 0 < _; rw [EG.out]; exact t3⟩
              clear t1
              go_wp2_with fail
              refine (isGen_yes _ _ _ (by omega) (by omega) (by omega) (by omega)).mono ?_
              rintro e w' ⟨rfl, rfl⟩
              have hcb := HRec.out.box.cells
              have hlb := HRec.out.box.lt
              have x1 := own_at HRec.out.own.s hlt
              have x2 := HRec.out.own.s.frozenAt k
              have x3 := (own_ge HRec.out.own.s).2
              have x4 := own_at HRec.out.own.t hlt
              have x5 := HRec.out.own.t.frozenAt k
              have x6 := (own_ge HRec.out.own.t).2
              have x7 := own_at HRec.out.own.g hlt
              have x8 := HRec.out.own.g.frozenAt k
              have x9 := (own_ge HRec.out.own.g).2
              dsimp only at x1 x2 x3 x4 x5 x6 x7 x8 x9
              rw [HG'.out] at x7
              generalize S'.getD k 0 = sx at x1
              generalize W'.getD k 0 = tx at x4
              have HMid := hide (HRec.out.mid k (gv + 1))
              have HSz : Hid (w.heap.size + 2 ≤ (Mid wr gG gS gT k (gv + 1)).heap.size) := by have := HRec.out.two.size; show _ ≤ _; simp; omega
              have ne1 := hide (HRec.out.own.gs _ _ rfl rfl)
              have ne2 := hide (HRec.out.own.gt _ _ rfl rfl)
              have ne3 := hide (HRec.out.own.st _ _ rfl rfl)
              have n1 : gG ≠ gS := ne1.out
              have n2 : gG ≠ gT := ne2.out
              have n3 : gS ≠ gT := ne3.out
              have n1' : gS ≠ gG := n1.symm
              have n2' : gT ≠ gG := n2.symm
              have n3' : gT ≠ gS := n3.symm
              have n4 : gG ≠ t := HRec.out.off.1 _ rfl
              have n5 : gS ≠ t := HRec.out.off.2.1 _ rfl
              have n6 : gT ≠ t := HRec.out.off.2.2.1 _ rfl
              have n4' : t ≠ gG := n4.symm
              have n5' : t ≠ gS := n5.symm
              have n6' : t ≠ gT := n6.symm
              have sz := HRec.out.two.size
              go_wp2_with (at_builtin; refine wpList_append_lies _ rfl _ _ 24 rfl (w.heap.size + 2) 3 i0 (.int .i64 0) 1 8 Try.underlying24 H1.out H2.out H3.out H4.out rfl (by decide) _ m3' _ rfl HMid.out.own.f ⟨wr.heap.size, 0, none⟩ 1 1 [.int .i64 (k : Int)] rfl rfl (cells_new _ _ _ _ (by simp)) (ints_oneCell .i64 [(k : Int)]) (by decide) (by simp only [maxLen]; omega) (by omega) HSz.out _ rfl ?_; intro g' cap w2 hown hg hl hlt2; have HGr := hide (HMid.out.grown hown hg hl); have hcb := HGr.out.1.cells; have hlb := HGr.out.1.lt; have hfb := HGr.out.1.frozen; clear hown hg hl)
              go_roundw
              case rel => exact ⟨k + 1, m + 1, m3' + 1, some ⟨g', 0, none⟩, cap, _, _, _, _, by omega, by go_num, by go_num, by omega, by omega, by show _ = _; rw [recP, if_pos HD.out, recOne, HP.out]; rw [HG'.out], by show _ = _; rw [recC, if_pos HD.out, HC.out], HGr.out.2⟩
              case measure => simp [intOf]; omega
            · have HD : Hid (¬ Due ⟨G, S, W, F⟩ upto k) := fun h => t3 (EG.out ▸ h.2.2)
              clear t1
              have HGN : Hid ((k : Int) < 0 ∨ 1024 ≤ (k : Int) ∨ gv + 1 < 0 ∨ 1099511627776 ≤ gv + 1) := by show _ ∨ _; omega
              go_wp2_with fail
              refine (isGen_no _ _ _ HGN).mono ?_
              rintro e w' ⟨rfl, rfl⟩
              go_wp2
              go_roundw
              case rel => exact ⟨k + 1, m, m3', A3', c3', G', S', W', F', by omega, by go_num, rfl, by omega, by omega, by show _ = _; rw [recP, if_neg HD.out]; exact HP.out, by show _ = _; rw [recC, if_neg HD.out]; exact HC.out, HRec⟩
              case measure => simp [intOf]; omega
          · have HD : Hid (¬ Due ⟨G, S, W, F⟩ upto k) := fun h => t2 (ET.out ▸ h.2.1)
            have e1 : (sv != 2) = false := by simpa using t1
            have e2 : decide (upto < tv) = true := by simp; omega
            clear t1
            go_wp2
            go_roundw
            case rel => exact ⟨k + 1, m, m3', A3', c3', G', S', W', F', by omega, by go_num, rfl, by omega, by omega, by show _ = _; rw [recP, if_neg HD.out]; exact HP.out, by show _ = _; rw [recC, if_neg HD.out]; exact HC.out, HRec⟩
            case measure => simp [intOf]; omega
        · have HD : Hid (¬ Due ⟨G, S, W, F⟩ upto k) := fun h => t1 (ES.out ▸ h.1)
          have e1 : (sv != 2) = true := by simpa using t1
          clear t1
          go_wp2
          go_roundw
          case rel => exact ⟨k + 1, m, m3', A3', c3', G', S', W', F', by omega, by go_num, rfl, by omega, by omega, by show _ = _; rw [recP, if_neg HD.out]; exact HP.out, by show _ = _; rw [recC, if_neg HD.out]; exact HC.out, HRec⟩
          case measure => simp [intOf]; omega
      · have HKN : Hid (k = n) := by show _ = _; omega
        have hcb := HRec.out.box.cells
        have hlb := HRec.out.box.lt
        obtain ⟨y0, f0, y1, f1, y2, f2, y3, f3⟩ := zero_cells HRec.out.two.2.2
        have HT := hide ((HRec.out.own.set4 (k := w.heap.size + 1) (by omega) (.slice (some ⟨gG, 0, none⟩) n d0) (.slice (some ⟨gS, 0, none⟩) n d1) (.slice (some ⟨gT, 0, none⟩) n d2) (.slice A3' m3' c3')).told.less (by omega : w.heap.size ≤ w.heap.size + 2))
        have HQ : Hid (recQ true ⟨G, S, W, F⟩ upto = ⟨G', S', W', F'⟩) := by show recP _ _ G.length = _; rw [lg.out, ← HKN.out]; exact HP.out
        have HN : Hid (recN true ⟨G, S, W, F⟩ upto = (m : Int)) := by show ((recC _ _ G.length : Nat) : Int) = _; rw [lg.out, ← HKN.out, HC.out]
        go_wp2
        refine bodyPost_ret (results_row_tmp rfl _ _ (w.heap.size + 1) 26 _ (0, 0) _ rfl (set4_heap HRec.out.two.2.2 _ _ _ _) Try.underlying26 rfl Try.size26) rfl ⟨⟨some ⟨gG, 0, none⟩, some ⟨gS, 0, none⟩, some ⟨gT, 0, none⟩, A3', n, n, n, m3', d0, d1, d2, c3'⟩, by rw [HN.out]; rfl, by rw [HQ.out]; exact HT.out, set4_below HRec.out.two.1 (by omega) _ _ _ _⟩

end Go.Proofs.Ythficfmakbblkaa.Pool

/- What the document's Reclaim tells, of any pool that is not great. -/
namespace Go.Proofs.Ythficfmakbblkaa.Pool
open Go.RowKit
set_option maxRecDepth 100000
set_option linter.unusedVariables false

set_option maxHeartbeats 4000000 in
theorem rreclaim_any (p : Pl) (P : PL) (B : Nat) (b : Bool) (upto : Int) (w : World) (hr : Reads w B p P) (hB : B ≤ w.heap.size) (hm : Small p) (hb : Hid (b = true ↔ MayBe P)) :
    Calls Try.prog 63 #[p.val, .int .i64 upto] w (Tell2 w (recQ b P upto) (recN b P upto)) := by
  obtain ⟨i0, hi0, hz0, hz1, hz2⟩ := info_parts Try.info3
  have H1 := hide hi0
  have H2 := hide hz0
  have H3 := hide hz1
  have H4 := hide hz2
  clear hi0 hz0 hz1 hz2
  obtain ⟨A0, A1, A2, A3, n0, n1, n2, n3, c0, c1, c2, c3⟩ := p
  obtain ⟨G, S, W, F⟩ := P
  have HM := hide hm
  obtain ⟨m0, m1, m2, m3⟩ := hm
  dsimp only at m0 m1 m2 m3
  have T0 := hide (Two.first w (C4 A0 A1 A2 A3 n0 n1 n2 n3 c0 c1 c2 c3))
  have R0 := hide (hr.below T0.out.1 hB)
  have HR := hide hr
  have lg := hide (show G.length = n0 by have := hr.g.1; simpa using this)
  have ls := hide (show S.length = n1 by have := hr.s.1; simpa using this)
  have lt := hide (show W.length = n2 by have := hr.t.1; simpa using this)
  have lf := hide (show F.length = n3 by have := hr.f.1; simpa using this)
  clear hr
  go_enter Try.func63, Try.ntmps63
  go_wp2_with fail
  refine (rcheck_any ⟨A0, A1, A2, A3, n0, n1, n2, n3, c0, c1, c2, c3⟩ ⟨G, S, W, F⟩ B b _ R0.out (Nat.le_trans hB T0.out.1.size) HM.out hb).mono ?_
  rintro e u1 ⟨rfl, hu1⟩
  have T1 := hide (T0.out.step hu1)
  clear hu1 T0 R0
  have hc := T1.out.2.1.cells
  have hl := T1.out.2.1.lt
  cases b with
  | false =>
    clear hc hl
    obtain ⟨y0, f0, y1, f1, y2, f2, y3, f3⟩ := zero_cells T1.out.2.2
    go_wp2
    refine bodyPost_ret (results_row_tmp rfl _ _ (w.heap.size + 1) 26 _ (0, 0) _ rfl (set4_heap T1.out.2.2 _ _ _ _) Try.underlying26 rfl Try.size26) rfl ⟨noPl, rfl, told_none _ _, set4_below T1.out.1 (by omega) _ _ _ _⟩
  | true =>
    have MB := may_of hb rfl
    obtain ⟨k1, k2, k3, k4, k5, k6⟩ := MB
    dsimp only at k1 k2 k3 k4
    have hn01 : n1 = n0 := by have := lg.out; have := ls.out; omega
    have hn02 : n2 = n0 := by have := lg.out; have := lt.out; omega
    have hn1 : 1 ≤ n0 := by have := lg.out; omega
    have hn64 : n0 ≤ 64 := by have := lg.out; omega
    have HSlot : Hid (∀ k, k < n0 → 0 ≤ G.getD k 0 ∧ G.getD k 0 ≤ 1099511627775) := fun k hk => by
      have := k5 k (by dsimp only; have := lg.out; omega)
      simp only [SlotOk] at this
      omega
    subst hn01
    subst hn02
    clear k1 k2 k3 k4 k5 k6
    obtain ⟨n, rfl⟩ : ∃ n, n = n2 := ⟨_, rfl⟩
    have R1' := hide (HR.out.below T1.out.1 hB)
    have HS1 := hide T1.out.1.size
    go_wp2_with fail
    refine (rcopyp_any ⟨A0, A1, A2, A3, n, n, n, n3, c0, c1, c2, c3⟩ ⟨G, S, W, F⟩ B _ R1'.out (Nat.le_trans hB HS1.out) HM.out).mono ?_
    rintro e u2 ⟨q, rfl, hq, hu2⟩
    have T2 := hide (T1.out.step hu2)
    clear hc hl
    obtain ⟨a0, a1, a2, a3, p0, p1, p2, p3, d0, d1, d2, d3⟩ := q
    obtain rfl : n = p0 := by have : G.length = p0 := by simpa using hq.g.1
                              have := lg.out; omega
    obtain rfl : n = p1 := by have : S.length = p1 := by simpa using hq.s.1
                              have := ls.out; omega
    obtain rfl : n = p2 := by have : W.length = p2 := by simpa using hq.t.1
                              have := lt.out; omega
    obtain rfl : n3 = p3 := by have : F.length = p3 := by simpa using hq.f.1
                               have := lf.out; omega
    obtain ⟨gG, hG⟩ := own_some hq.g (by dsimp only; omega)
    obtain ⟨gS, hS⟩ := own_some hq.s (by dsimp only; omega)
    obtain ⟨gT, hT⟩ := own_some hq.t (by dsimp only; omega)
    dsimp only at hG hS hT
    subst hG
    subst hS
    subst hT
    have s1 := T1.out.size
    have HRec0 : Hid (Rec w (u2.alloc (.cells (C4 (some ⟨gG, 0, none⟩) (some ⟨gS, 0, none⟩) (some ⟨gT, 0, none⟩) a3 n n n n3 d0 d1 d2 d3) 26)) (C4 A0 A1 A2 A3 n n n n3 c0 c1 c2 c3) u2.heap.size gG gS gT a3 n n3 d0 d1 d2 d3 ⟨G, S, W, F⟩) :=
      ⟨T2.out.alloc _, (hq.less s1).alloc _, PBox.new u2 _, hq.off (Nat.le_refl _), T2.out.size⟩
    have hc := T2.out.2.1.cells
    have hl := T2.out.2.1.lt
    obtain ⟨t, HTE⟩ : ∃ t, Hid (u2.heap.size = t) := ⟨_, rfl⟩
    clear hq hu2
    go_wp2
    rw [HTE.out]
    rw [HTE.out] at HRec0
    clear hc hl HTE
    go_loopw [7, 18] (fun c i wr => ∃ (k m m3' : Nat) (A3' : Option Addr) (c3' : Nat) (G' S' W' F' : List Int), k ≤ n ∧ i = .int .i64 k ∧ c = .int .i64 m ∧ m ≤ k ∧ m3' ≤ n3 + k ∧ Hid (recP ⟨G, S, W, F⟩ upto k = ⟨G', S', W', F'⟩) ∧ Hid (recC ⟨G, S, W, F⟩ upto k = m) ∧ Hid (Rec w wr (C4 A0 A1 A2 A3 n n n n3 c0 c1 c2 c3) t gG gS gT A3' n m3' d0 d1 d2 c3' ⟨G', S', W', F'⟩))
      (fun _ i _ => n - (intOf i).toNat)
    case atStart => exact ⟨0, 0, n3, a3, d3, G, S, W, F, by omega, rfl, rfl, by omega, by omega, rfl, rfl, HRec0⟩
    case round =>
      obtain ⟨k, m, m3', A3', c3', G', S', W', F', hk, rfl, rfl, hmk, hm3, HP, HC, HRec⟩ := hrel
      clear HRec0 T1 T2 R1'
      have hc := HRec.out.two.2.1.cells
      have hl := HRec.out.two.2.1.lt
      by_cases hlt : k < n
      · have R2 := HR.out.below HRec.out.two.1 hB
        obtain ⟨bG, oG, eG, hbG, cG⟩ := R2.g.at_ hlt
        obtain ⟨bS, oS, eS, hbS, cS⟩ := R2.s.at_ hlt
        obtain ⟨bT, oT, eT, hbT, cT⟩ := R2.t.at_ hlt
        dsimp only at eG eS eT cG cS cT
        subst eG
        subst eS
        subst eT
        obtain ⟨sv, ES⟩ : ∃ sv, Hid (S.getD k 0 = sv) := ⟨_, rfl⟩
        obtain ⟨gv, EG⟩ : ∃ gv, Hid (G.getD k 0 = gv) := ⟨_, rfl⟩
        obtain ⟨tv, ET⟩ : ∃ tv, Hid (W.getD k 0 = tv) := ⟨_, rfl⟩
        have hg1 := (HSlot.out k hlt).1
        have hg2 := (HSlot.out k hlt).2
        rw [EG.out] at cG hg1 hg2
        rw [ES.out] at cS
        rw [ET.out] at cT
        have HG' : Hid (G'.getD k 0 = gv) := by
          have := (recP_later ⟨G, S, W, F⟩ upto k k (Nat.le_refl _)).1
          rw [HP.out] at this
          exact this.trans EG.out
        clear R2
        by_cases t1 : sv = 2
        · by_cases t2 : tv ≤ upto
          · have e1 : (sv == 2) = true := by simpa using t1
            have e2 : decide (tv ≤ upto) = true := by simpa using t2
            by_cases t3 : gv < 1099511627775
            · have HD : Hid (Due ⟨G, S, W, F⟩ upto k) := ⟨ES.out.trans t1, by show W.getD k 0 ≤ upto; rw [ET.out]; exact t2, by show G.getD k 0 < _; rw [EG.out]; exact t3⟩
              have e3 : decide (gv < 1099511627775) = true := by simpa using t3
              clear t1
              have hcb := HRec.out.box.cells
              have hlb := HRec.out.box.lt
              have x1 := own_at HRec.out.own.s hlt
              have x2 := HRec.out.own.s.frozenAt k
              have x3 := (own_ge HRec.out.own.s).2
              have x4 := own_at HRec.out.own.t hlt
              have x5 := HRec.out.own.t.frozenAt k
              have x6 := (own_ge HRec.out.own.t).2
              have x7 := own_at HRec.out.own.g hlt
              have x8 := HRec.out.own.g.frozenAt k
              have x9 := (own_ge HRec.out.own.g).2
              dsimp only at x1 x2 x3 x4 x5 x6 x7 x8 x9
              rw [HG'.out] at x7
              generalize S'.getD k 0 = sx at x1
              generalize W'.getD k 0 = tx at x4
              have HMid := hide (HRec.out.mid k (gv + 1))
              have HSz : Hid (w.heap.size + 2 ≤ (Mid wr gG gS gT k (gv + 1)).heap.size) := by have := HRec.out.two.size; show _ ≤ _; simp; omega
              have ne1 := hide (HRec.out.own.gs _ _ rfl rfl)
              have ne2 := hide (HRec.out.own.gt _ _ rfl rfl)
              have ne3 := hide (HRec.out.own.st _ _ rfl rfl)
              have n1 : gG ≠ gS := ne1.out
              have n2 : gG ≠ gT := ne2.out
              have n3 : gS ≠ gT := ne3.out
              have n1' : gS ≠ gG := n1.symm
              have n2' : gT ≠ gG := n2.symm
              have n3' : gT ≠ gS := n3.symm
              have n4 : gG ≠ t := HRec.out.off.1 _ rfl
              have n5 : gS ≠ t := HRec.out.off.2.1 _ rfl
              have n6 : gT ≠ t := HRec.out.off.2.2.1 _ rfl
              have n4' : t ≠ gG := n4.symm
              have n5' : t ≠ gS := n5.symm
              have n6' : t ≠ gT := n6.symm
              have sz := HRec.out.two.size
              go_wp2_with (at_builtin; refine wpList_append_lies _ rfl _ _ 24 rfl (w.heap.size + 2) 3 i0 (.int .i64 0) 1 8 Try.underlying24 H1.out H2.out H3.out H4.out rfl (by decide) _ m3' _ rfl HMid.out.own.f ⟨wr.heap.size, 0, none⟩ 1 1 [.int .i64 (k : Int)] rfl rfl (cells_new _ _ _ _ (by simp)) (ints_oneCell .i64 [(k : Int)]) (by decide) (by simp only [maxLen]; omega) (by omega) HSz.out _ rfl ?_; intro g' cap w2 hown hg hl hlt2; have HGr := hide (HMid.out.grown hown hg hl); have hcb := HGr.out.1.cells; have hlb := HGr.out.1.lt; have hfb := HGr.out.1.frozen; clear hown hg hl)
              go_roundw
              case rel => exact ⟨k + 1, m + 1, m3' + 1, some ⟨g', 0, none⟩, cap, _, _, _, _, by omega, by go_num, by go_num, by omega, by omega, by show _ = _; rw [recP, if_pos HD.out, recOne, HP.out]; rw [HG'.out], by show _ = _; rw [recC, if_pos HD.out, HC.out], HGr.out.2⟩
              case measure => simp [intOf]; omega
            · have HD : Hid (¬ Due ⟨G, S, W, F⟩ upto k) := fun h => t3 (EG.out ▸ h.2.2)
              have e3 : decide (gv < 1099511627775) = false := by simpa using t3
              clear t1
              go_wp2
              go_roundw
              case rel => exact ⟨k + 1, m, m3', A3', c3', G', S', W', F', by omega, by go_num, rfl, by omega, by omega, by show _ = _; rw [recP, if_neg HD.out]; exact HP.out, by show _ = _; rw [recC, if_neg HD.out]; exact HC.out, HRec⟩
              case measure => simp [intOf]; omega
          · have HD : Hid (¬ Due ⟨G, S, W, F⟩ upto k) := fun h => t2 (ET.out ▸ h.2.1)
            have e1 : (sv == 2) = true := by simpa using t1
            have e2 : decide (tv ≤ upto) = false := by simpa using t2
            clear t1
            go_wp2
            go_roundw
            case rel => exact ⟨k + 1, m, m3', A3', c3', G', S', W', F', by omega, by go_num, rfl, by omega, by omega, by show _ = _; rw [recP, if_neg HD.out]; exact HP.out, by show _ = _; rw [recC, if_neg HD.out]; exact HC.out, HRec⟩
            case measure => simp [intOf]; omega
        · have HD : Hid (¬ Due ⟨G, S, W, F⟩ upto k) := fun h => t1 (ES.out ▸ h.1)
          have e1 : (sv == 2) = false := by simpa using t1
          clear t1
          go_wp2
          go_roundw
          case rel => exact ⟨k + 1, m, m3', A3', c3', G', S', W', F', by omega, by go_num, rfl, by omega, by omega, by show _ = _; rw [recP, if_neg HD.out]; exact HP.out, by show _ = _; rw [recC, if_neg HD.out]; exact HC.out, HRec⟩
          case measure => simp [intOf]; omega
      · have HKN : Hid (k = n) := by show _ = _; omega
        have hcb := HRec.out.box.cells
        have hlb := HRec.out.box.lt
        obtain ⟨y0, f0, y1, f1, y2, f2, y3, f3⟩ := zero_cells HRec.out.two.2.2
        have HT := hide ((HRec.out.own.set4 (k := w.heap.size + 1) (by omega) (.slice (some ⟨gG, 0, none⟩) n d0) (.slice (some ⟨gS, 0, none⟩) n d1) (.slice (some ⟨gT, 0, none⟩) n d2) (.slice A3' m3' c3')).told.less (by omega : w.heap.size ≤ w.heap.size + 2))
        have HQ : Hid (recQ true ⟨G, S, W, F⟩ upto = ⟨G', S', W', F'⟩) := by show recP _ _ G.length = _; rw [lg.out, ← HKN.out]; exact HP.out
        have HN : Hid (recN true ⟨G, S, W, F⟩ upto = (m : Int)) := by show ((recC _ _ G.length : Nat) : Int) = _; rw [lg.out, ← HKN.out, HC.out]
        go_wp2
        refine bodyPost_ret (results_row_tmp rfl _ _ (w.heap.size + 1) 26 _ (0, 0) _ rfl (set4_heap HRec.out.two.2.2 _ _ _ _) Try.underlying26 rfl Try.size26) rfl ⟨⟨some ⟨gG, 0, none⟩, some ⟨gS, 0, none⟩, some ⟨gT, 0, none⟩, A3', n, n, n, m3', d0, d1, d2, c3'⟩, by rw [HN.out]; rfl, by rw [HQ.out]; exact HT.out, set4_below HRec.out.two.1 (by omega) _ _ _ _⟩

end Go.Proofs.Ythficfmakbblkaa.Pool

/- A pool that stands in a box while it is taken from, retired and reclaimed. -/
namespace Go.Proofs.Ythficfmakbblkaa.Pool
open Go.RowKit

/-- The cells of a pool's box. -/
abbrev Pl.cs (q : Pl) : Array Value := C4 q.A0 q.A1 q.A2 q.A3 q.n0 q.n1 q.n2 q.n3 q.c0 q.c1 q.c2 q.c3

/-- In world u block h is the box of q, which reads as Q; what lay below w's end is as it was. -/
structure Stand (w u : World) (h : Nat) (q : Pl) (Q : PL) : Prop where
  bel : Below w.heap.size w u
  ge : w.heap.size ≤ h
  box : PBox u h q.cs
  reads : Reads u u.heap.size q Q
  small : Small q

/-- Not great. -/
def Few (Q : PL) : Prop := Q.G.length ≤ 200 ∧ Q.S.length ≤ 200 ∧ Q.W.length ≤ 200 ∧ Q.F.length ≤ 200

theorem Told4.small {u : World} {B : Nat} {q : Pl} {Q : PL} (h : Told4 u B q Q) (hf : Few Q) : Small q :=
  ⟨by rw [← h.g.1]; exact hf.1, by rw [← h.s.1]; exact hf.2.1, by rw [← h.t.1]; exact hf.2.2.1, by rw [← h.f.1]; exact hf.2.2.2⟩
theorem Told4.set4 {u : World} {B k : Nat} {q : Pl} {Q : PL} (h : Told4 u B q Q) (hk : k < B) (a b c d : Value) : Told4 ((((u.setCell ⟨k, 0, none⟩ a).setCell ⟨k, 1, none⟩ b).setCell ⟨k, 2, none⟩ c).setCell ⟨k, 3, none⟩ d) B q Q :=
  ⟨h.g.set4 hk _ _ _ _, h.s.set4 hk _ _ _ _, h.t.set4 hk _ _ _ _, h.f.set4 hk _ _ _ _, h.zg, h.zs, h.zt, h.zf⟩

theorem set4_box {u : World} {g : Nat} {x y z t : Value} (h : PBox u g #[x, y, z, t]) (p q r s : Value) :
    PBox ((((u.setCell ⟨g, 0, none⟩ p).setCell ⟨g, 1, none⟩ q).setCell ⟨g, 2, none⟩ r).setCell ⟨g, 3, none⟩ s) g #[p, q, r, s] := by
  have h1 := heap_setCell_same u g 0 _ 26 p h
  have h2 := heap_setCell_same _ g 1 _ 26 q h1
  have h3 := heap_setCell_same _ g 2 _ 26 r h2
  exact heap_setCell_same _ g 3 _ 26 s h3

/-- The box of a told pool is written. -/
abbrev World.put (u : World) (h : Nat) (q : Pl) : World := (((u.setCell ⟨h, 0, none⟩ (.slice q.A0 q.n0 q.c0)).setCell ⟨h, 1, none⟩ (.slice q.A1 q.n1 q.c1)).setCell ⟨h, 2, none⟩ (.slice q.A2 q.n2 q.c2)).setCell ⟨h, 3, none⟩ (.slice q.A3 q.n3 q.c3)

theorem Stand.next {w u u' : World} {h : Nat} {q q' : Pl} {Q Q' : PL} (hs : Stand w u h q Q) (ht : Told4 u' u.heap.size q' Q') (hb : Below u.heap.size u u') (hf : Few Q') : Stand w (World.put u' h q') h q' Q' :=
  ⟨set4_below (next_call hs.bel (Nat.le_refl _) hb) hs.ge _ _ _ _, hs.ge, set4_box (hs.box.step hb) _ _ _ _, (ht.set4 hs.box.lt _ _ _ _).reads, ht.small hf⟩
/-- .. or not. -/
theorem Stand.step {w u u' : World} {h : Nat} {q : Pl} {Q : PL} (hs : Stand w u h q Q) (hb : Below u.heap.size u u') : Stand w u' h q Q :=
  ⟨next_call hs.bel (Nat.le_refl _) hb, hs.ge, hs.box.step hb, (hs.reads.below hb (Nat.le_refl _)).more hb.size, hs.small⟩
theorem Stand.alloc {w u : World} {h : Nat} {q : Pl} {Q : PL} (hs : Stand w u h q Q) (o : Obj) : Stand w (u.alloc o) h q Q := hs.step ((Below.refl _ _).alloc (Nat.le_refl _) _)
/-- A box that was just laid. -/
theorem Stand.first {w u : World} {B : Nat} {q : Pl} {Q : PL} (hb : Below w.heap.size w u) (ht : Told4 u B q Q) (hf : Few Q) : Stand w (u.alloc (.cells q.cs 26)) u.heap.size q Q :=
  ⟨hb.alloc hb.size _, hb.size, PBox.new u _, (ht.reads.below ((Below.refl u.heap.size u).alloc (Nat.le_refl _) _) (Nat.le_refl _)).more (by simp), ht.small hf⟩

theorem Few.new {n : Nat} (h : n ≤ 200) : Few (newP n) := by simp [Few, newP, h]

theorem may0 : MayBe ⟨[0], [0], [0], [0]⟩ := by
  refine ⟨by simp, by simp, by simp, by simp, fun k hk => ?_, ?_, by simp, ?_⟩
  · obtain rfl : k = 0 := by simp at hk; omega
    simp [SlotOk]
  · simp
  · intro k hk _
    obtain rfl : k = 0 := by simp at hk; omega
    simp
theorem may1 : MayBe ⟨[0], [1], [0], []⟩ := by
  refine ⟨by simp, by simp, by simp, by simp, fun k hk => ?_, ?_, by simp, ?_⟩
  · obtain rfl : k = 0 := by simp at hk; omega
    simp [SlotOk]
  · simp
  · intro k hk h
    obtain rfl : k = 0 := by simp at hk; omega
    simp at h
theorem may2 : MayBe ⟨[0], [2], [3], []⟩ := by
  refine ⟨by simp, by simp, by simp, by simp, fun k hk => ?_, ?_, by simp, ?_⟩
  · obtain rfl : k = 0 := by simp at hk; omega
    simp [SlotOk]
  · simp
  · intro k hk h
    obtain rfl : k = 0 := by simp at hk; omega
    simp at h
theorem may3 : MayBe ⟨[1], [0], [0], [0]⟩ := by
  refine ⟨by simp, by simp, by simp, by simp, fun k hk => ?_, ?_, by simp, ?_⟩
  · obtain rfl : k = 0 := by simp at hk; omega
    simp [SlotOk]
  · simp
  · intro k hk _
    obtain rfl : k = 0 := by simp at hk; omega
    simp
end Go.Proofs.Ythficfmakbblkaa.Pool

/- The chapter's example is live. -/
namespace Go.Proofs.Ythficfmakbblkaa.Pool
open Go.RowKit
set_option linter.unusedVariables false

theorem step1 : newP 1 = ⟨[0], [0], [0], [0]⟩ := by simp [newP]
theorem step2 : takeQ true ⟨[0], [0], [0], [0]⟩ = ⟨[0], [1], [0], []⟩ := by simp [takeQ]
theorem step3 : retE true ⟨[0], [1], [0], []⟩ 1 = 0 := by decide
theorem step3q : retQ true ⟨[0], [1], [0], []⟩ 1 3 = ⟨[0], [2], [3], []⟩ := by
  unfold retQ
  rw [step3]
  simp
theorem due0 : Due ⟨[0], [2], [3], []⟩ 3 0 := by simp [Due]
theorem step4 : recQ true ⟨[0], [2], [3], []⟩ 3 = ⟨[1], [0], [0], [0]⟩ := by
  show recP ⟨[0], [2], [3], []⟩ 3 1 = _
  rw [recP, if_pos due0]
  simp [recP, recOne]
theorem step4n : recN true ⟨[0], [2], [3], []⟩ 3 = 1 := by
  show ((recC ⟨[0], [2], [3], []⟩ 3 1 : Nat) : Int) = _
  rw [recC, if_pos due0]
  simp [recC]

theorem live_take (p : Pl) (B : Nat) (w : World) (hr : Reads w B p ⟨[0], [0], [0], [0]⟩) (hB : B ≤ w.heap.size) (hm : Small p) : Calls Try.prog 48 #[p.val] w (Tell3 w ⟨[0], [1], [0], []⟩ 1 0) := by
  have h := take_any p _ B true w hr hB hm (show Hid (true = true ↔ _) from ⟨fun _ => may0, fun _ => rfl⟩)
  rw [step2] at h
  exact h
theorem live_retire (p : Pl) (B : Nat) (w : World) (hr : Reads w B p ⟨[0], [1], [0], []⟩) (hB : B ≤ w.heap.size) (hm : Small p) : Calls Try.prog 53 #[p.val, .int .i64 1, .int .i64 3] w (Tell2 w ⟨[0], [2], [3], []⟩ 0) := by
  have h := retire_any p _ B true 1 3 w hr hB hm (show Hid (true = true ↔ _) from ⟨fun _ => may1, fun _ => rfl⟩)
  rw [step3, step3q] at h
  exact h
theorem live_reclaim (p : Pl) (B : Nat) (w : World) (hr : Reads w B p ⟨[0], [2], [3], []⟩) (hB : B ≤ w.heap.size) (hm : Small p) : Calls Try.prog 60 #[p.val, .int .i64 3] w (Tell2 w ⟨[1], [0], [0], [0]⟩ 1) := by
  have h := reclaim_any p _ B true 3 w hr hB hm (show Hid (true = true ↔ _) from ⟨fun _ => may2, fun _ => rfl⟩)
  rw [step4, step4n] at h
  exact h
theorem live_again (p : Pl) (B : Nat) (w : World) (hr : Reads w B p ⟨[1], [0], [0], [0]⟩) (hB : B ≤ w.heap.size) (hm : Small p) : Calls Try.prog 48 #[p.val] w (Tell3 w ⟨[1], [1], [0], []⟩ 1025 0) := by
  have h := take_any p _ B true w hr hB hm (show Hid (true = true ↔ _) from ⟨fun _ => may3, fun _ => rfl⟩)
  exact h
theorem live_new (w : World) : Calls Try.prog 37 #[.int .i64 1] w (Tell2 w ⟨[0], [0], [0], [0]⟩ 0) := by
  have h := new_ok 1 w (by omega) (by omega)
  rw [step1] at h
  exact h.mono fun e w' ⟨q, he, ho, hb⟩ => ⟨q, he, ho.told, hb⟩

end Go.Proofs.Ythficfmakbblkaa.Pool

/- Plain mathematics of pools: what Take, Retire and Reclaim tell may be; how many slots are in each state. -/
namespace Go.Proofs.Ythficfmakbblkaa.Pool

theorem get_set (zs : List Int) (k i : Nat) (x : Int) (hk : k < zs.length) : (zs.set k x).getD i 0 = if i = k then x else zs.getD i 0 := by
  rw [getD_set zs k i x hk]
  by_cases h : k = i
  · rw [if_pos h, if_pos h.symm]
  · rw [if_neg h, if_neg (Ne.symm h)]

theorem may_take {P : PL} {x : Int} {xs : List Int} (h : MayBe P) (hF : P.F = x :: xs) : MayBe ⟨P.G, P.S.set x.toNat 1, P.W, xs⟩ := by
  obtain ⟨k1, k2, k3, k4, k5, k6, k7, k8⟩ := h
  rw [hF] at k6 k7 k8
  obtain ⟨x1, x2, x3⟩ := k6 x (by simp)
  have hx : x.toNat < P.S.length := by omega
  have hn := List.nodup_cons.1 k7
  refine ⟨k1, k2, by simpa using k3, k4, fun j hj => ?_, fun y hy => ?_, hn.2, fun j hj hz => ?_⟩
  · dsimp only at hj ⊢
    obtain ⟨g1, g2, g3⟩ := k5 j hj
    rw [get_set _ _ _ _ hx]
    refine ⟨g1, g2, ?_⟩
    by_cases hjx : j = x.toNat
    · subst hjx
      rw [if_pos rfl]
      rw [x3] at g3
      omega
    · rw [if_neg hjx]; exact g3
  · obtain ⟨a, b, c⟩ := k6 y (by simp [hy])
    refine ⟨a, by simpa using b, ?_⟩
    rw [get_set _ _ _ _ hx, if_neg]
    · exact c
    · intro e
      exact hn.1 ((show y = x by omega) ▸ hy)
  · rw [get_set _ _ _ _ hx] at hz
    by_cases hjx : j = x.toNat
    · rw [if_pos hjx] at hz; omega
    · rw [if_neg hjx] at hz
      rcases List.mem_cons.1 (k8 j (by simpa using hj) hz) with e | e
      · omega
      · exact e

theorem may_retire {P : PL} {X : Nat} {z : Int} (h : MayBe P) (hX : X < P.G.length) (h1 : P.S.getD X 0 = 1) : MayBe ⟨P.G, P.S.set X 2, P.W.set X z, P.F⟩ := by
  obtain ⟨k1, k2, k3, k4, k5, k6, k7, k8⟩ := h
  have hx : X < P.S.length := by omega
  have hw : X < P.W.length := by omega
  refine ⟨k1, k2, by simpa using k3, by simpa using k4, fun j hj => ?_, fun y hy => ?_, k7, fun j hj hz => ?_⟩
  · dsimp only at hj ⊢
    obtain ⟨g1, g2, g3⟩ := k5 j hj
    rw [get_set _ _ _ _ hx, get_set _ _ _ _ hw]
    refine ⟨g1, g2, ?_⟩
    by_cases hjx : j = X
    · rw [if_pos hjx]; exact .inr rfl
    · rw [if_neg hjx, if_neg hjx]; exact g3
  · obtain ⟨a, b, c⟩ := k6 y hy
    refine ⟨a, by simpa using b, ?_⟩
    rw [get_set _ _ _ _ hx, if_neg]
    · exact c
    · intro e
      rw [e] at c
      omega
  · rw [get_set _ _ _ _ hx] at hz
    by_cases hjx : j = X
    · rw [if_pos hjx] at hz; omega
    · rw [if_neg hjx] at hz
      exact k8 j (by simpa using hj) hz

theorem rec_len (P : PL) (upto : Int) (k : Nat) : (recP P upto k).G.length = P.G.length ∧ (recP P upto k).S.length = P.S.length ∧ (recP P upto k).W.length = P.W.length := by
  induction k with
  | zero => exact ⟨rfl, rfl, rfl⟩
  | succ k ih =>
    rw [recP]
    split
    · simpa [recOne] using ih
    · exact ih

theorem rec_at (P : PL) (upto : Int) (hs : P.S.length = P.G.length) (hw : P.W.length = P.G.length) (k : Nat) (hk : k ≤ P.G.length) : ∀ j,
    (recP P upto k).G.getD j 0 = (if j < k ∧ Due P upto j then P.G.getD j 0 + 1 else P.G.getD j 0) ∧
    (recP P upto k).S.getD j 0 = (if j < k ∧ Due P upto j then 0 else P.S.getD j 0) ∧
    (recP P upto k).W.getD j 0 = (if j < k ∧ Due P upto j then 0 else P.W.getD j 0) := by
  induction k with
  | zero => exact fun j => ⟨by simp [recP], by simp [recP], by simp [recP]⟩
  | succ k ih =>
    intro j
    have ih := ih (by omega)
    obtain ⟨l1, l2, l3⟩ := rec_len P upto k
    obtain ⟨a, b, c⟩ := ih j
    obtain ⟨a', b', c'⟩ := ih k
    rw [if_neg (by omega)] at a' b' c'
    rw [recP]
    by_cases hd : Due P upto k
    · rw [if_pos hd]
      simp only [recOne]
      rw [get_set _ _ _ _ (by omega), get_set _ _ _ _ (by omega), get_set _ _ _ _ (by omega), a']
      by_cases hj : j = k
      · subst hj
        rw [if_pos rfl, if_pos rfl, if_pos rfl, if_pos ⟨by omega, hd⟩, if_pos ⟨by omega, hd⟩, if_pos ⟨by omega, hd⟩]
        exact ⟨rfl, rfl, rfl⟩
      · rw [if_neg hj, if_neg hj, if_neg hj, a, b, c]
        have e : (j < k + 1 ∧ Due P upto j) ↔ (j < k ∧ Due P upto j) := by constructor <;> rintro ⟨h, h'⟩ <;> exact ⟨by omega, h'⟩
        simp only [e]
        exact ⟨trivial, trivial, trivial⟩
    · rw [if_neg hd, a, b, c]
      have e : (j < k + 1 ∧ Due P upto j) ↔ (j < k ∧ Due P upto j) := by
        constructor
        · rintro ⟨h, h'⟩
          refine ⟨?_, h'⟩
          rcases Nat.lt_or_ge j k with h1 | h1
          · exact h1
          · obtain rfl : j = k := by omega
            exact absurd h' hd
        · rintro ⟨h, h'⟩
          exact ⟨by omega, h'⟩
      simp only [e]
      exact ⟨trivial, trivial, trivial⟩

theorem rec_mem (P : PL) (upto : Int) (k : Nat) (x : Int) : x ∈ (recP P upto k).F ↔ x ∈ P.F ∨ ∃ j : Nat, j < k ∧ Due P upto j ∧ x = (j : Int) := by
  induction k with
  | zero => simp [recP]
  | succ k ih =>
    rw [recP]
    by_cases hd : Due P upto k
    · rw [if_pos hd]
      simp only [recOne, List.mem_append, List.mem_singleton, ih]
      constructor
      · rintro ((h | ⟨j, h1, h2, h3⟩) | h)
        · exact .inl h
        · exact .inr ⟨j, by omega, h2, h3⟩
        · exact .inr ⟨k, by omega, hd, h⟩
      · rintro (h | ⟨j, h1, h2, h3⟩)
        · exact .inl (.inl h)
        · rcases Nat.lt_or_ge j k with h4 | h4
          · exact .inl (.inr ⟨j, h4, h2, h3⟩)
          · obtain rfl : j = k := by omega
            exact .inr h3
    · rw [if_neg hd, ih]
      constructor
      · rintro (h | ⟨j, h1, h2, h3⟩)
        · exact .inl h
        · exact .inr ⟨j, by omega, h2, h3⟩
      · rintro (h | ⟨j, h1, h2, h3⟩)
        · exact .inl h
        · rcases Nat.lt_or_ge j k with h4 | h4
          · exact .inr ⟨j, h4, h2, h3⟩
          · obtain rfl : j = k := by omega
            exact absurd h2 hd

theorem rec_nodup {P : PL} (h : MayBe P) (upto : Int) (k : Nat) : (recP P upto k).F.Nodup := by
  obtain ⟨k1, k2, k3, k4, k5, k6, k7, k8⟩ := h
  induction k with
  | zero => exact k7
  | succ k ih =>
    rw [recP]
    by_cases hd : Due P upto k
    · rw [if_pos hd]
      simp only [recOne]
      refine List.nodup_append.2 ⟨ih, by simp, ?_⟩
      intro a ha b hb e
      obtain rfl : b = (k : Int) := by simpa using hb
      subst e
      rcases (rec_mem P upto k _).1 ha with h1 | ⟨j, h1, h2, h3⟩
      · have := (k6 _ h1).2.2
        rw [Int.toNat_natCast, hd.1] at this
        omega
      · omega
    · rw [if_neg hd]; exact ih

theorem may_rec {P : PL} (h : MayBe P) (upto : Int) (k : Nat) (hk : k ≤ P.G.length) : MayBe (recP P upto k) := by
  have h7 := rec_nodup h upto k
  obtain ⟨k1, k2, k3, k4, k5, k6, k7, k8⟩ := h
  obtain ⟨l1, l2, l3⟩ := rec_len P upto k
  have hat := rec_at P upto k3 k4 k hk
  refine ⟨by omega, by omega, by omega, by omega, fun j hj => ?_, fun y hy => ?_, h7, fun j hj hz => ?_⟩
  · obtain ⟨a, b, c⟩ := hat j
    obtain ⟨g1, g2, g3⟩ := k5 j (by omega)
    rw [a, b, c]
    by_cases hd : j < k ∧ Due P upto j
    · rw [if_pos hd, if_pos hd, if_pos hd]
      have := hd.2.2.2
      exact ⟨by omega, by omega, .inl ⟨.inl rfl, rfl⟩⟩
    · rw [if_neg hd, if_neg hd, if_neg hd]
      exact ⟨g1, g2, g3⟩
  · rcases (rec_mem P upto k y).1 hy with h1 | ⟨j, h1, h2, rfl⟩
    · obtain ⟨a, b, c⟩ := k6 y h1
      refine ⟨a, by omega, ?_⟩
      rw [(hat y.toNat).2.1]
      split
      · rfl
      · exact c
    · refine ⟨by omega, by omega, ?_⟩
      rw [(hat _).2.1, Int.toNat_natCast, if_pos ⟨h1, h2⟩]
  · rw [(hat j).2.1] at hz
    rw [rec_mem]
    by_cases hd : j < k ∧ Due P upto j
    · exact .inr ⟨j, hd.1, hd.2, rfl⟩
    · rw [if_neg hd] at hz
      exact .inl (k8 j (by omega) hz)

theorem may_reclaim {P : PL} (h : MayBe P) (upto : Int) : MayBe (recQ true P upto) := may_rec h upto _ (Nat.le_refl _)

/-- Retired, or reclaimed: the reference is of another slot's state. -/
theorem ret_none {P : PL} {r : Int} (h1 : 1 ≤ r) (h2 : r ≤ 1125899906842624) (h3 : (r - 1) % 1024 < (P.G.length : Int)) (h4 : P.S.getD ((r - 1) % 1024).toNat 0 ≠ 1) : retE true P r = 2 := by
  unfold retE
  rw [if_neg (by simp; omega), if_pos (.inl h4)]
theorem ret_zero {P : PL} {r : Int} (h : retE true P r = 0) : 1 ≤ r ∧ r ≤ 1125899906842624 ∧ (r - 1) % 1024 < (P.G.length : Int) ∧ P.S.getD ((r - 1) % 1024).toNat 0 = 1 ∧ P.G.getD ((r - 1) % 1024).toNat 0 = (r - 1) / 1024 := by
  unfold retE at h
  split at h
  · omega
  · split at h
    · omega
    · rename_i a b
      have a1 : ¬ r < 1 := fun h => a (.inr (.inl h))
      have a2 : ¬ 1125899906842624 < r := fun h => a (.inr (.inr (.inl h)))
      have a3 : ¬ (P.G.length : Int) ≤ (r - 1) % 1024 := fun h => a (.inr (.inr (.inr h)))
      exact ⟨by omega, by omega, by omega, Decidable.byContradiction fun h => b (.inl h), Decidable.byContradiction fun h => b (.inr h)⟩

theorem may_retQ {P : PL} (h : MayBe P) {r z : Int} (h0 : retE true P r = 0) : MayBe (retQ true P r z) := by
  obtain ⟨a, b, c, d, _⟩ := ret_zero h0
  unfold retQ
  rw [if_pos h0]
  exact may_retire h (by omega) d

/-- How many of S are v. -/
theorem count_three (S : List Int) (h : ∀ k, k < S.length → S.getD k 0 = 0 ∨ S.getD k 0 = 1 ∨ S.getD k 0 = 2) : S.count 1 + S.count 2 + S.count 0 = S.length := by
  induction S with
  | nil => rfl
  | cons x xs ih =>
    have h0 := h 0 (by simp)
    have ih := ih fun k hk => by simpa using h (k + 1) (by simpa using hk)
    simp only [List.getD_cons_zero] at h0
    rw [List.count_cons, List.count_cons, List.count_cons, List.length_cons]
    rcases h0 with rfl | rfl | rfl <;> simp <;> omega

theorem count_take (S : List Int) (k : Nat) (hk : k < S.length) (v : Int) : (S.take (k + 1)).count v = (S.take k).count v + if S.getD k 0 = v then 1 else 0 := by
  rw [List.take_succ_eq_append_getElem hk, List.count_append]
  simp only [List.getD_eq_getElem?_getD, List.getElem?_eq_getElem hk, Option.getD_some, List.count_singleton, beq_iff_eq]

theorem met_zero (S F : List Int) (h : ∀ k : Nat, k < S.length → F.count (k : Int) ≤ 1 ∧ (F.count (k : Int) = 1 ↔ S.getD k 0 = 0)) : ∀ k, k ≤ S.length → metSum F k = (S.take k).count 0
  | 0, _ => by simp [metSum]
  | k + 1, hk => by
    rw [metSum, met_zero S F h k (by omega), count_take S k (by omega)]
    obtain ⟨h1, h2⟩ := h k (by omega)
    by_cases hz : S.getD k 0 = 0
    · rw [if_pos hz, h2.2 hz]
    · rw [if_neg hz]
      have : F.count (k : Int) ≠ 1 := fun e => hz (h2.1 e)
      omega

theorem free_count {S F : List Int} (h : FreeOk S F) : S.count 0 = F.length := by
  obtain ⟨h1, h2⟩ := (met_iff S F).2 h
  rw [met_zero S F h1 _ (Nat.le_refl _), List.take_of_length_le (Nat.le_refl _)] at h2
  exact h2

theorem may_counts {P : PL} (h : MayBe P) : P.S.count 1 + P.S.count 2 + P.S.count 0 = P.G.length ∧ P.S.count 0 = P.F.length := by
  obtain ⟨k1, k2, k3, k4, k5, k6⟩ := h
  refine ⟨?_, free_count k6⟩
  rw [← k3]
  refine count_three P.S fun k hk => ?_
  have := (k5 k (by omega)).2.2
  omega

end Go.Proofs.Ythficfmakbblkaa.Pool

/- What the rows' frames share: a pool, and a slice of numbers, opened. No conditions. -/
namespace Go.Proofs.Ythficfmakbblkaa.Pool
open Go.Joins Go.ChangeShapes Go.WideShapes Go.ChangeAt Go.RowKit Go.Deep
set_option maxRecDepth 100000

theorem own : ownKnob Try.prog.godebug = none := by kernel_rfl
theorem laidOut : laidOutB Try.prog = true := by kernel_rfl
theorem cells3 : Try.prog.cellsOf 3 = 1 := by kernel_rfl
theorem cells24 : Try.prog.cellsOf 24 = 1 := by kernel_rfl
theorem cells26 : Try.prog.cellsOf 26 = 4 := by kernel_rfl

theorem wf_bounds {a : Int} (h : (Lit.int .i64 a).wf = true) : -9223372036854775808 ≤ a ∧ a ≤ 9223372036854775807 := by
  have h1 : IntKind.i64.min = -9223372036854775808 := by decide
  have h2 : IntKind.i64.max = 9223372036854775807 := by decide
  have h3 : IntKind.i64.min ≤ a ∧ a ≤ IntKind.i64.max := by simpa [Lit.wf] using h
  omega

/-- What a walk is told of a slice that came in. -/
def Came (w : World) (s : Nat) (A : Option Addr) (n c : Nat) (zs : List Int) : Prop :=
  Nums w w.heap.size s A n zs ∧ n ≤ c ∧ (A = none → c = 0) ∧ ∀ z ∈ zs, (Lit.int .i64 z).wf = true

section
variable {H : Type} {enc : TypeId × Value → H} {w : World} {base : Nat} {spare : Nat → Bool} {held : Bool}

theorem drop_take1 {cs : List Value} {j : Nat} {z : Value} (h : (cs.drop j).take 1 = [z]) : cs[j]? = some z := by
  have := congrArg (fun l => l[0]?) h
  simpa [List.getElem?_take] using this

theorem elem3 {m : Nat} {cs : List Value} {y : DataW H × List MemPlace} (h : DataW.trod enc Try.prog w base spare held m 3 cs = some y) : ∀ j, j < 1 → ∃ z, cs[j]? = some (.int .i64 z) ∧ (Lit.int .i64 z).wf = true := by
  obtain ⟨z, rfl, _, hz⟩ := DataW.trod_int Try.underlying3 h
  intro j hj
  obtain rfl : j = 0 := by omega
  exact ⟨z, rfl, hz⟩

/-- The number in a cell. -/
def numAt (w : World) (b o : Nat) : Int := match w.cell? ⟨b, o, none⟩ with
  | some (.int .i64 z) => z
  | _ => 0

theorem came_of {s len cap : Nat} {a : Addr} (hs : 0 < s) (hlc : len ≤ cap) (hc : ∀ i, i < len → ∀ j, j < s → ∃ z, w.cell? (a.add (i * s + j)) = some (.int .i64 z) ∧ (Lit.int .i64 z).wf = true) :
    ∃ zs, Came w s (some a) len cap zs := by
  obtain ⟨b, off, spot⟩ := a
  rcases Nat.eq_zero_or_pos len with rfl | hpos
  · exact ⟨[], Nums.nil, by omega, (fun h => by cases h), by simp⟩
  obtain ⟨z, h0, _⟩ := hc 0 hpos 0 hs
  have hsp : spot = none := by simpa [Addr.add] using World.cell?_spot h0
  subst hsp
  have hat : ∀ q, q < len * s → ∃ z, w.cell? ⟨b, off + q, none⟩ = some (.int .i64 z) ∧ (Lit.int .i64 z).wf = true := by
    intro q hq
    have h1 := hc (q / s) (Nat.div_lt_of_lt_mul (by rw [Nat.mul_comm]; exact hq)) (q % s) (Nat.mod_lt _ hs)
    rw [Addr.add_lit, Nat.mul_comm, Nat.div_add_mod] at h1
    exact h1
  refine ⟨(List.range (len * s)).map fun q => numAt w b (off + q), ⟨by simp, fun _ => ⟨b, off, rfl, ?_, fun q hq => ?_⟩⟩, hlc, (fun h => by cases h), fun z hz => ?_⟩
  · obtain ⟨z, h1, _⟩ := hat 0 (Nat.mul_pos hpos hs)
    exact World.block_lt_of_cell? w ⟨b, off + 0, none⟩ h1
  · obtain ⟨z, h1, _⟩ := hat q hq
    rw [h1]
    simp [List.getD_eq_getElem?_getD, hq, numAt, h1]
  · simp only [List.mem_map, List.mem_range] at hz
    obtain ⟨q, hq, rfl⟩ := hz
    obtain ⟨z, h1, h2⟩ := hat q hq
    simpa [numAt, h1] using h2

/-- A slice of numbers in a cell. -/
theorem flat_of {m : Nat} {cs : List Value} {y : DataW H × List MemPlace} (hf : DataW.trod enc Try.prog w base (fun _ => true) held m 24 cs = some y) : ∃ A n c zs, cs = [.slice A n c] ∧ Came w 1 A n c zs := by
  rcases open_slice Try.underlying24 hf with ⟨hcs, _⟩ | ⟨x, l, c, m, n, D, Pl, hcs, _, hl, _, hm, _, hi⟩
  · exact ⟨none, 0, 0, [], hcs, Nums.nil, by omega, fun _ => rfl, by simp⟩
  · rw [cells3] at hi
    simp only [if_true] at hm
    obtain ⟨zs, hz⟩ := came_of (w := w) (s := 1) (a := x) (by omega) hl fun i hi' j hj => by
      obtain ⟨cs', hc, htr⟩ := hi i (by omega)
      obtain ⟨_, hcl, hat⟩ := World.cells?_some hc
      obtain ⟨z, hz, hw⟩ := elem3 htr j hj
      exact ⟨z, by rw [← Go.Deep.add_add, hat j hj, hz], hw⟩
    exact ⟨some x, l, c, zs, hcs, hz⟩

theorem open_flat {a : Option Addr} {len cap : Nat} {d : DataW H} {p : List MemPlace} (h : DataW.Trod enc Try.prog w base (fun _ => true) held 24 (.slice a len cap) d p) : ∃ zs, Came w 1 a len cap zs := by
  obtain ⟨fuel, hf⟩ := h
  obtain ⟨A, n, c, zs, hcs, hz⟩ := flat_of hf
  simp [Value.cells] at hcs
  obtain ⟨rfl, rfl, rfl⟩ := hcs
  exact ⟨zs, hz⟩

/-- A pool that came in. -/
theorem open_pool {r : Reach} {b0 : Nat} {v : Value} {d : DataW H} {q : List MemPlace} (hv : Value.okWide Try.prog w r b0 26 v) (h : DataW.Trod enc Try.prog w base (fun _ => true) held 26 v d q) :
    ∃ (p : Pl) (P : PL), v = p.val ∧ Reads w w.heap.size p P := by
  obtain ⟨⟨l⟩, rfl, hsz⟩ := okWide_struct Try.underlying26 hv
  rw [cells26] at hsz
  match l, hsz with
  | [v0, v1, v2, v3], _ =>
    obtain ⟨fuel, hf⟩ := h
    obtain ⟨xs, m', _, hx, _, hlen, hg⟩ := DataW.trod_struct Try.underlying26 hf
    match xs, hlen with
    | [y0, y1, y2, y3], _ =>
      have g0 : DataW.trod enc Try.prog w base (fun _ => true) held m' 24 (([v0, v1, v2, v3].drop 0).take (Try.prog.cellsOf 24)) = some y0 := hg 0 _ rfl
      have g1 : DataW.trod enc Try.prog w base (fun _ => true) held m' 24 (([v0, v1, v2, v3].drop 1).take (Try.prog.cellsOf 24)) = some y1 := hg 1 _ rfl
      have g2 : DataW.trod enc Try.prog w base (fun _ => true) held m' 24 (([v0, v1, v2, v3].drop 2).take (Try.prog.cellsOf 24)) = some y2 := hg 2 _ rfl
      have g3 : DataW.trod enc Try.prog w base (fun _ => true) held m' 24 (([v0, v1, v2, v3].drop 3).take (Try.prog.cellsOf 24)) = some y3 := hg 3 _ rfl
      rw [cells24] at g0 g1 g2 g3
      obtain ⟨A0, n0, c0, z0, e0, k0⟩ := flat_of g0
      obtain ⟨A1, n1, c1, z1, e1, k1⟩ := flat_of g1
      obtain ⟨A2, n2, c2, z2, e2, k2⟩ := flat_of g2
      obtain ⟨A3, n3, c3, z3, e3, k3⟩ := flat_of g3
      simp at e0 e1 e2 e3
      subst e0 e1 e2 e3
      exact ⟨⟨A0, A1, A2, A3, n0, n1, n2, n3, c0, c1, c2, c3⟩, ⟨z0, z1, z2, z3⟩, rfl, k0.1, k1.1, k2.1, k3.1, k0.2.2.1, k1.2.2.1, k2.2.2.1, k3.2.2.1⟩
end
end Go.Proofs.Ythficfmakbblkaa.Pool

/- Words that the laws share. -/
namespace Go.Proofs.Ythficfmakbblkaa.Pool
open Go.RowKit

/-- In world u block h is the box of a pool q, great or not, which reads as Q; what lay below w's end is as it was. -/
structure Keep (w u : World) (h : Nat) (q : Pl) (Q : PL) : Prop where
  bel : Below w.heap.size w u
  ge : w.heap.size ≤ h
  box : PBox u h q.cs
  reads : Reads u u.heap.size q Q
theorem Keep.step {w u u' : World} {h : Nat} {q : Pl} {Q : PL} (hs : Keep w u h q Q) (hb : Below u.heap.size u u') : Keep w u' h q Q :=
  ⟨next_call hs.bel (Nat.le_refl _) hb, hs.ge, hs.box.step hb, (hs.reads.below hb (Nat.le_refl _)).more hb.size⟩
theorem Keep.alloc {w u : World} {h : Nat} {q : Pl} {Q : PL} (hs : Keep w u h q Q) (o : Obj) : Keep w (u.alloc o) h q Q := hs.step ((Below.refl _ _).alloc (Nat.le_refl _) _)
/-- A pool that came in, behind its box. -/
theorem stand_in (w : World) (q : Pl) (Q : PL) (h : Reads w w.heap.size q Q) : Keep w (w.alloc (.cells q.cs 26)) w.heap.size q Q :=
  ⟨(Below.refl _ _).alloc (Nat.le_refl _) _, Nat.le_refl _, PBox.new w _, (h.below ((Below.refl _ _).alloc (Nat.le_refl _) _) (Nat.le_refl _)).more (by simp)⟩
/-- A pool that may be is not great. -/
theorem few_may {P : PL} (h : MayBe P) : Few P := by
  have hc := may_counts h
  obtain ⟨k1, k2, k3, k4, _⟩ := h
  have : P.S.count 0 ≤ P.S.length := List.count_le_length
  exact ⟨by omega, by omega, by omega, by omega⟩
theorem yes_may {P : PL} (h : MayBe P) : Hid (true = true ↔ MayBe P) := ⟨fun _ => h, fun _ => rfl⟩

/-- The lengths of a pool that may be. -/
theorem may_lens {u : World} {B : Nat} {A0 A1 A2 A3 : Option Addr} {n0 n1 n2 n3 c0 c1 c2 c3 : Nat} {G S W F : List Int} (R : Reads u B ⟨A0, A1, A2, A3, n0, n1, n2, n3, c0, c1, c2, c3⟩ ⟨G, S, W, F⟩) (M : MayBe ⟨G, S, W, F⟩) :
    n1 = n0 ∧ n2 = n0 ∧ 1 ≤ n0 ∧ n0 ≤ 64 ∧ n3 ≤ 64 ∧ G.length = n0 ∧ S.length = n0 ∧ W.length = n0 ∧ F.length = n3 := by
  have hc := may_counts M
  obtain ⟨k1, k2, k3, k4, _⟩ := M
  have h1 := R.g.1
  have h2 := R.s.1
  have h3 := R.t.1
  have h4 := R.f.1
  dsimp only at hc k1 k2 k3 k4 h1 h2 h3 h4
  omega

theorem ret_bad {P : PL} {r : Int} (h : r < 1 ∨ 1125899906842624 < r) (z : Int) : retE true P r = 1 ∧ retQ true P r z = noP := by
  have e : retE true P r = 1 := by
    unfold retE
    rw [if_pos (by omega)]
  exact ⟨e, by unfold retQ; rw [e]; simp⟩
theorem ret_far {P : PL} {r : Int} {X : Nat} (hX : (r - 1) % 1024 = (X : Int)) (h : P.G.length ≤ X) (z : Int) : retE true P r = 1 ∧ retQ true P r z = noP := by
  have e : retE true P r = 1 := by
    unfold retE
    rw [if_pos (by rw [hX]; omega)]
  exact ⟨e, by unfold retQ; rw [e]; simp⟩
theorem ret_other {P : PL} {r g : Int} {X : Nat} (h1 : 1 ≤ r) (h2 : r ≤ 1125899906842624) (hX : (r - 1) % 1024 = (X : Int)) (hg : (r - 1) / 1024 = g) (h : X < P.G.length) (hn : ¬ (P.S.getD X 0 = 1 ∧ P.G.getD X 0 = g)) (z : Int) : retE true P r = 2 ∧ retQ true P r z = noP := by
  have e : retE true P r = 2 := by
    unfold retE
    rw [if_neg (by rw [hX]; simp; omega), if_pos]
    rw [hX, hg, Int.toNat_natCast]
    by_cases h : P.S.getD X 0 = 1
    · exact .inr fun h' => hn ⟨h, h'⟩
    · exact .inl h
  exact ⟨e, by unfold retQ; rw [e]; simp⟩
theorem ret_good {P : PL} {r g : Int} {X : Nat} (h1 : 1 ≤ r) (h2 : r ≤ 1125899906842624) (hX : (r - 1) % 1024 = (X : Int)) (hg : (r - 1) / 1024 = g) (h : X < P.G.length) (hs : P.S.getD X 0 = 1) (hgn : P.G.getD X 0 = g) (z : Int) :
    retE true P r = 0 ∧ retQ true P r z = ⟨P.G, P.S.set X 2, P.W.set X z, P.F⟩ := by
  have e : retE true P r = 0 := by
    unfold retE
    rw [if_neg (by rw [hX]; simp; omega), if_neg]
    rw [hX, hg, Int.toNat_natCast]
    exact fun h => h.elim (fun h => h hs) (fun h => h hgn)
  exact ⟨e, by unfold retQ; rw [e, if_pos rfl, hX, Int.toNat_natCast]⟩

theorem stale {P : PL} {r : Int} {X : Nat} (M : MayBe P) (h1 : 1 ≤ r) (h2 : r ≤ 1125899906842624) (hX : (r - 1) % 1024 = (X : Int)) (h : X < P.G.length) (hs : P.S.getD X 0 = 1) (z upto : Int) :
    MayBe ⟨P.G, P.S.set X 2, P.W.set X z, P.F⟩ ∧ retE true ⟨P.G, P.S.set X 2, P.W.set X z, P.F⟩ r = 2 ∧ MayBe (recQ true ⟨P.G, P.S.set X 2, P.W.set X z, P.F⟩ upto) ∧ retE true (recQ true ⟨P.G, P.S.set X 2, P.W.set X z, P.F⟩ upto) r = 2 := by
  have M1 := may_retire (z := z) M h hs
  have M2 := may_reclaim M1 upto
  have lS : X < P.S.length := by have := M.2.2.1; omega
  refine ⟨M1, ret_none h1 h2 (by show _ < (P.G.length : Int); omega) ?_, M2, ?_⟩
  · show (P.S.set X 2).getD _ 0 ≠ 1
    rw [hX, Int.toNat_natCast, get_set _ _ _ _ lS, if_pos rfl]
    omega
  · have l := rec_len ⟨P.G, P.S.set X 2, P.W.set X z, P.F⟩ upto P.G.length
    have at' := rec_at ⟨P.G, P.S.set X 2, P.W.set X z, P.F⟩ upto M1.2.2.1 M1.2.2.2.1 P.G.length (Nat.le_refl _) X
    refine ret_none h1 h2 (by show _ < ((recP _ _ P.G.length).G.length : Int); rw [l.1]; dsimp only; omega) ?_
    show (recP _ _ P.G.length).S.getD _ 0 ≠ 1
    rw [hX, Int.toNat_natCast, at'.2.1]
    dsimp only
    rw [get_set _ _ _ _ lS, if_pos rfl]
    split <;> omega


/-- How many what Reclaim tells has of each. -/
theorem rec_told {u : World} {B : Nat} {q : Pl} {P : PL} {upto : Int} (M : MayBe P) (h : Told4 u B q (recQ true P upto)) : q.n0 = P.G.length ∧ q.n1 = P.G.length ∧ q.n3 = P.F.length + recC P upto P.G.length ∧ recC P upto P.G.length ≤ P.G.length := by
  have l := rec_len P upto P.G.length
  have c := recC_le P upto P.G.length
  have h1 : (recP P upto P.G.length).G.length = q.n0 := h.g.1
  have h2 : (recP P upto P.G.length).S.length = q.n1 := h.s.1
  have h3 : (recP P upto P.G.length).F.length = q.n3 := h.f.1
  have := M.2.2.1
  omega

/-- A slot that was reclaimed, and one that was not. -/
theorem rec_cases {P : PL} (M : MayBe P) (upto : Int) {k : Nat} (hk : k < P.G.length) :
    (Due P upto k ∧ (recQ true P upto).G.getD k 0 = P.G.getD k 0 + 1 ∧ (recQ true P upto).S.getD k 0 = 0 ∧ P.S.getD k 0 = 2 ∧ P.W.getD k 0 ≤ upto ∧ P.G.getD k 0 < 1099511627775 ∧ 0 ≤ P.G.getD k 0) ∨
    (¬ Due P upto k ∧ (recQ true P upto).G.getD k 0 = P.G.getD k 0 ∧ (recQ true P upto).S.getD k 0 = P.S.getD k 0) := by
  have h := rec_at P upto M.2.2.1 M.2.2.2.1 P.G.length (Nat.le_refl _) k
  by_cases hd : Due P upto k
  · rw [if_pos ⟨hk, hd⟩, if_pos ⟨hk, hd⟩] at h
    exact .inl ⟨hd, h.1, h.2.1, hd.1, hd.2.1, hd.2.2, (M.2.2.2.2.1 k hk).1⟩
  · rw [if_neg (fun h => hd h.2), if_neg (fun h => hd h.2)] at h
    exact .inr ⟨hd, h.1, h.2.1⟩

end Go.Proofs.Ythficfmakbblkaa.Pool

/- What the document's New tells. -/
namespace Go.Proofs.Ythficfmakbblkaa.Pool
open Go.RowKit
set_option maxRecDepth 100000
set_option linter.unusedVariables false

/-- What its first statement makes: a pool of three rows, each in a block of its own. -/
structure Made3 (w wx : World) (Z : Array Value) (g g0 g1 g2 n : Nat) : Prop where
  box : PBox wx g (C4 (some ⟨g0, 0, none⟩) (some ⟨g1, 0, none⟩) (some ⟨g2, 0, none⟩) none n n n 0 n n n 0)
  r0 : wx.heap[g0]? = some (.cells Z 3 (0, 0))
  r1 : wx.heap[g1]? = some (.cells Z 3 (0, 0))
  r2 : wx.heap[g2]? = some (.cells Z 3 (0, 0))
  res : PBox wx w.heap.size zeros4
  bel : Below w.heap.size w wx
  ne : w.heap.size < g ∧ w.heap.size < g0 ∧ w.heap.size < g1 ∧ w.heap.size < g2 ∧ g ≠ g0 ∧ g ≠ g1 ∧ g ≠ g2 ∧ g0 ≠ g1 ∧ g0 ≠ g2 ∧ g1 ≠ g2

abbrev mk4 (n k g : Nat) : Value := if k = 3 then .pointer (some ⟨g, 0, none⟩) else .slice (some ⟨g, 0, none⟩) n n
abbrev ob4 (Z : Array Value) (k : Nat) : Obj := if k = 3 then .cells zeros4 26 else .cells Z 3
abbrev ls4 (b : Nat → Bool) : Array Bool := #[true, b 0, true, b 1, true, b 2, false, b 3, false]
abbrev fl4 (b : Nat → Bool) : Bool := b 0 && b 1 && b 2
def rd4 (b0 b1 b2 b3 : Bool) : List Nat :=
  (if b0 then [] else [1]) ++ (if b1 then [] else [3]) ++ (if b2 then [] else [5]) ++ (if b0 && b1 && b2 then [6] else []) ++ (if b3 then [] else [7])

theorem ready4 {md : Region.Mode} {ops : Array Oper} (h : ∀ b0 b1 b2 b3 : Bool, Region.ready md ops #[true, b0, true, b1, true, b2, false, b3, false] = rd4 b0 b1 b2 b3) (b : Nat → Bool) (hb : fl4 b = false) :
    Region.ready md ops (ls4 b) ≠ [] ∧ ∀ i ∈ Region.ready md ops (ls4 b), ∃ k, k < 4 ∧ b k = false ∧ i = op5 k := by
  have e := h (b 0) (b 1) (b 2) (b 3)
  have e' : Region.ready md ops (ls4 b) = rd4 (b 0) (b 1) (b 2) (b 3) := e
  rw [e']
  have hf : (b 0 && b 1 && b 2) = false := hb
  unfold rd4
  rw [hf]
  constructor
  · intro h0
    cases h0' : b 0 <;> cases h1' : b 1 <;> cases h2' : b 2 <;> simp [h0', h1', h2'] at h0 hf
  · intro i hi
    simp only [List.mem_append] at hi
    rcases hi with (((h | h) | h) | h) | h
    · cases h0 : b 0 <;> simp [h0] at h; exact ⟨0, by omega, h0, h⟩
    · cases h0 : b 1 <;> simp [h0] at h; exact ⟨1, by omega, h0, h⟩
    · cases h0 : b 2 <;> simp [h0] at h; exact ⟨2, by omega, h0, h⟩
    · simp at h
    · cases h0 : b 3 <;> simp [h0] at h; exact ⟨3, by omega, h0, h⟩

theorem set4l (b : Nat → Bool) (k : Nat) (hk : k < 4) : (ls4 b).setIfInBounds (op5 k) true = ls4 (upd b k true) := by
  match k, hk with
  | 0, _ => rfl
  | 1, _ => rfl
  | 2, _ => rfl
  | 3, _ => rfl

abbrev fr4 (n r : Nat) (x4 x14 x16 x18 x19 : Value) : Act :=
  ⟨#[.int .i64 (n : Int), undef, .pointer (some ⟨r, 0, none⟩), .int .i64 0, x4, undef, .int .i64 (n : Int), .bool false, .bool false, .int .i64 (n : Int), .bool false, .bool false, undef, .int .i64 (n : Int), x14, .int .i64 (n : Int), x16, .int .i64 (n : Int), x18, x19,
    undef, undef, undef, undef, undef, undef, undef, undef, undef, undef, undef, undef], []⟩

theorem made3_new {w u : World} {Z : Array Value} {n g0 g1 g2 : Nat} (hb : Below w.heap.size w u) (hx : PBox u w.heap.size zeros4) (r0 : u.heap[g0]? = some (.cells Z 3 (0, 0))) (r1 : u.heap[g1]? = some (.cells Z 3 (0, 0))) (r2 : u.heap[g2]? = some (.cells Z 3 (0, 0)))
    (l : w.heap.size < g0 ∧ w.heap.size < g1 ∧ w.heap.size < g2 ∧ g0 ≠ g1 ∧ g0 ≠ g2 ∧ g1 ≠ g2) :
    Made3 w (u.alloc (.cells (C4 (some ⟨g0, 0, none⟩) (some ⟨g1, 0, none⟩) (some ⟨g2, 0, none⟩) none n n n 0 n n n 0) 26)) Z u.heap.size g0 g1 g2 n := by
  have q0 := (Array.getElem?_eq_some_iff.1 r0).1
  have q1 := (Array.getElem?_eq_some_iff.1 r1).1
  have q2 := (Array.getElem?_eq_some_iff.1 r2).1
  refine ⟨PBox.new u _, (Below.heap_alloc u _ _ q0).trans r0, (Below.heap_alloc u _ _ q1).trans r1, (Below.heap_alloc u _ _ q2).trans r2, hx.alloc _, hb.alloc hb.size _, ?_⟩
  omega
theorem made3_old {w u : World} {Z : Array Value} {n g g0 g1 g2 : Nat} (hb : Below w.heap.size w u) (hx : PBox u w.heap.size zeros4) (hg : PBox u g zeros4) (r0 : u.heap[g0]? = some (.cells Z 3 (0, 0))) (r1 : u.heap[g1]? = some (.cells Z 3 (0, 0))) (r2 : u.heap[g2]? = some (.cells Z 3 (0, 0)))
    (l : w.heap.size < g ∧ w.heap.size < g0 ∧ w.heap.size < g1 ∧ w.heap.size < g2 ∧ g ≠ g0 ∧ g ≠ g1 ∧ g ≠ g2 ∧ g0 ≠ g1 ∧ g0 ≠ g2 ∧ g1 ≠ g2) :
    Made3 w ((((u.setCell ⟨g, 0, none⟩ (.slice (some ⟨g0, 0, none⟩) n n)).setCell ⟨g, 1, none⟩ (.slice (some ⟨g1, 0, none⟩) n n)).setCell ⟨g, 2, none⟩ (.slice (some ⟨g2, 0, none⟩) n n)).setCell ⟨g, 3, none⟩ (.slice none 0 0)) Z g g0 g1 g2 n := by
  obtain ⟨l0, l1, l2, l3, l4, l5, l6, l7⟩ := l
  refine ⟨set4_heap hg _ _ _ _, heap_free r0 l4 _ _ _ _, heap_free r1 l5 _ _ _ _, heap_free r2 l6 _ _ _ _, heap_free hx (by omega) _ _ _ _, set4_below hb (by omega) _ _ _ _, ?_⟩
  omega

def upN (k : Nat) : List Int := (List.range k).map fun i : Nat => (i : Int)
theorem upN_next (k : Nat) : upN (k + 1) = upN k ++ [(k : Int)] := by simp [upN, List.range_succ]

/-- What stands while Free is laid. -/
structure Lay (w u : World) (t gG gS gT : Nat) (A3 : Option Addr) (n k c : Nat) : Prop where
  bel : Below w.heap.size w u
  res : PBox u w.heap.size zeros4
  own : Owns u (w.heap.size + 1) ⟨some ⟨gG, 0, none⟩, some ⟨gS, 0, none⟩, some ⟨gT, 0, none⟩, A3, n, n, n, k, n, n, n, c⟩ ⟨List.replicate n 0, List.replicate n 0, List.replicate n 0, upN k⟩
  box : PBox u t (C4 (some ⟨gG, 0, none⟩) (some ⟨gS, 0, none⟩) (some ⟨gT, 0, none⟩) A3 n n n k n n n c)
  off : Off ⟨some ⟨gG, 0, none⟩, some ⟨gS, 0, none⟩, some ⟨gT, 0, none⟩, A3, n, n, n, k, n, n, n, c⟩ t
  ge : w.heap.size + 1 ≤ t

theorem Lay.first {w u : World} {Z : Array Value} {g g0 g1 g2 n : Nat} (h : Made3 w u Z g g0 g1 g2 n) (hZ : Z = (List.replicate n (Value.int .i64 0)).toArray) (hn : n ≤ 200) : Lay w u g g0 g1 g2 none n 0 0 := by
  have e : Z = (ints (List.replicate n 0)).toArray := by rw [hZ]; simp [ints]
  obtain ⟨a, b, c, d, r, i, l⟩ := h
  rw [e] at b c d
  obtain ⟨l0, l1, l2, l3, l4, l5, l6, l7, l8, l9⟩ := l
  refine ⟨i, r, ⟨own_of b (by simp) hn (by omega), own_of c (by simp) hn (by omega), own_of d (by simp) hn (by omega), World.ownsRow_nil _ _ _ _, (fun h => by cases h), (fun h => by cases h), (fun h => by cases h), (fun _ => rfl), ?_, ?_, (fun _ _ _ h => by cases h), ?_, (fun _ _ _ h => by cases h), (fun _ _ _ h => by cases h)⟩, a, ⟨?_, ?_, ?_, (fun _ h => by cases h)⟩, by omega⟩
  · intro x y hx hy
    simp only [Option.some.injEq] at hx hy
    subst hx
    subst hy
    exact l7
  · intro x y hx hy
    simp only [Option.some.injEq] at hx hy
    subst hx
    subst hy
    exact l8
  · intro x y hx hy
    simp only [Option.some.injEq] at hx hy
    subst hx
    subst hy
    exact l9
  · intro x hx
    simp only [Option.some.injEq] at hx
    subst hx
    exact l4.symm
  · intro x hx
    simp only [Option.some.injEq] at hx
    subst hx
    exact l5.symm
  · intro x hx
    simp only [Option.some.injEq] at hx
    subst hx
    exact l6.symm

theorem Lay.alloc {w u : World} {t gG gS gT : Nat} {A3 : Option Addr} {n k c : Nat} (h : Lay w u t gG gS gT A3 n k c) (o : Obj) : Lay w (u.alloc o) t gG gS gT A3 n k c :=
  ⟨h.bel.alloc h.bel.size _, h.res.alloc _, h.own.alloc _, h.box.alloc _, h.off, h.ge⟩

theorem Lay.grown {w u w2 : World} {t gG gS gT : Nat} {A3 : Option Addr} {n k c g' cap : Nat} (h : Lay w u t gG gS gT A3 n k c) (hown : w2.ownsRow (w.heap.size + 1) 3 1 (.slice (some ⟨g', 0, none⟩) (k + 1) cap) (k + 1) (ints (upN k) ++ [.int .i64 (k : Int)]))
    (hg : u.grownBy w2 (Value.slice A3 k c).ownBlock) (hl : (Value.slice A3 k c).ownBlock = some g' ∨ g' = u.heap.size) :
    PBox w2 t (C4 (some ⟨gG, 0, none⟩) (some ⟨gS, 0, none⟩) (some ⟨gT, 0, none⟩) A3 n n n k n n n c) ∧
    Lay w (w2.setCell ⟨t, 3, none⟩ (.slice (some ⟨g', 0, none⟩) (k + 1) cap)) t gG gS gT (some ⟨g', 0, none⟩) n (k + 1) cap := by
  have hb : PBox w2 t (C4 (some ⟨gG, 0, none⟩) (some ⟨gS, 0, none⟩) (some ⟨gT, 0, none⟩) A3 n n n k n n n c) := h.box.grown hg h.off.2.2.2
  have ho : Off ⟨some ⟨gG, 0, none⟩, some ⟨gS, 0, none⟩, some ⟨gT, 0, none⟩, some ⟨g', 0, none⟩, n, n, n, k + 1, n, n, n, cap⟩ t := by
    refine ⟨h.off.1, h.off.2.1, h.off.2.2.1, fun a ha => ?_⟩
    dsimp only at ha
    simp only [Option.some.injEq] at ha
    subst ha
    dsimp only
    rcases hl with h1 | rfl
    · obtain ⟨x, hx, hy⟩ := own_block_addr h1
      have := h.off.2.2.2 x hx
      omega
    · have := h.box.lt
      omega
  have hA : ∀ a, A3 = some a → w.heap.size + 1 ≤ a.block := fun a ha => (own_addr h.own.f a ha).1
  refine ⟨hb, ⟨(h.bel.grown hg h.bel.size fun j hj => ?_).setCell (by have := h.ge; simp; omega) _, (h.res.grown hg fun a ha => ?_).other (by have := h.ge; omega) _, ?_, hb.set 3 _, ho, h.ge⟩⟩
  · obtain ⟨a, ha, hb⟩ := own_block_addr hj
    have := hA a ha
    omega
  · have := hA a ha
    omega
  · rw [upN_next]
    exact (h.own.grown hown hg hl).box ho _ _

theorem cells_one (w : World) (k : Nat) (g : Nat) (hg : g = w.heap.size) : ∀ j u, ([.int .i64 (k : Int)] : List Value)[j]? = some u → (w.alloc (.cells #[.int .i64 (k : Int)] 3)).cell? ((⟨g, 0, none⟩ : Addr).add j) = some u := by
  intro j u hu
  subst hg
  rw [Addr.add_lit, Nat.zero_add, cell_of_row _ w.heap.size j _ 3 (0, 0) (heap_alloc_new w _)]
  simpa using hu

set_option maxHeartbeats 4000000 in
theorem rnew_ok (n : Nat) (w : World) (h1 : 1 ≤ n) (h2 : n ≤ 64) :
    Calls Try.prog 41 #[.int .i64 (n : Int)] w (TellE w (newP n) 0) := by
  obtain ⟨Z, HZ, hmk⟩ := make_ints n (by omega)
  go_enter Try.func41, Try.ntmps41
  have t1 : decide ((n : Int) < 1) = false := by simp; omega
  have t2 : decide ((64 : Int) < (n : Int)) = false := by simp; omega
  go_upto_region 3 with (fail)
  go_cut [4] (fun v wx => ∃ g g0 g1 g2, v = .pointer (some ⟨g, 0, none⟩) ∧ Hid (Made3 w wx Z g g0 g1 g2 n))
  case first =>
    refine wp_region_any (by kernel_rfl) ?_
    change wpAny _ _ _ _ _ _ _ (World.drew _)
    refine wpAny_take (i := 0) (v := .int .i64 (n : Int)) rfl (by kernel_rfl) (by kernel_rfl) (by kernel_rfl) (fun _ _ _ h => h) (Or.inl ⟨by rfl, by intro w; go_simp⟩) ?_
    refine wpAny_take (i := 2) (v := .int .i64 (n : Int)) rfl (by kernel_rfl) (by kernel_rfl) (by kernel_rfl) (fun _ _ _ h => h) (Or.inl ⟨by rfl, by intro w; go_simp⟩) ?_
    refine wpAny_take (i := 4) (v := .int .i64 (n : Int)) rfl (by kernel_rfl) (by kernel_rfl) (by kernel_rfl) (fun _ _ _ h => h) (Or.inl ⟨by rfl, by intro w; go_simp⟩) ?_
    refine makers w 4 (fun x => fr4 n w.heap.size (x 3) (x 0) (x 1) (x 2) undef) op5 (mk4 n) (ob4 Z) ls4 fl4 set4l (ready4 ?_) ?_ ?_ 4 (fun _ => false) (fun _ => undef) _ rfl ?_
    · intro b0 b1 b2 b3
      cases b0 <;> cases b1 <;> cases b2 <;> cases b3 <;> kernel_rfl
    · intro k hk x u K hK
      match k, hk with
      | 0, _ =>
        refine wpOp_step rfl (fun K' hK' => ?_)
        go_simp
        exact hK' _ _ hK
      | 1, _ =>
        refine wpOp_step rfl (fun K' hK' => ?_)
        go_simp
        exact hK' _ _ hK
      | 2, _ =>
        refine wpOp_step rfl (fun K' hK' => ?_)
        go_simp
        exact hK' _ _ hK
      | 3, _ =>
        refine wpOp_step rfl (fun K' hK' => ?_)
        go_simp
        exact hK' _ _ hK
    · intro b x u hf hd
      obtain ⟨hb, hx, γ, h3, h4⟩ := hd
      have hf' : b 0 = true ∧ b 1 = true ∧ b 2 = true := by simpa [fl4, and_assoc] using hf
      obtain ⟨b0, b1, b2⟩ := hf'
      obtain ⟨e0, r0, l0⟩ := h3 0 (by omega) b0
      obtain ⟨e1, r1, l1⟩ := h3 1 (by omega) b1
      obtain ⟨e2, r2, l2⟩ := h3 2 (by omega) b2
      have d01 := h4 0 1 (by omega) (by omega) (by omega) b0 b1
      have d02 := h4 0 2 (by omega) (by omega) (by omega) b0 b2
      have d12 := h4 1 2 (by omega) (by omega) (by omega) b1 b2
      show wpAny _ _ _ _ (2 + pend b 4) (ls4 b) (fr4 n w.heap.size (x 3) (x 0) (x 1) (x 2) undef) u
      rw [show x 0 = Value.slice (some ⟨γ 0, 0, none⟩) n n from e0, show x 1 = Value.slice (some ⟨γ 1, 0, none⟩) n n from e1, show x 2 = Value.slice (some ⟨γ 2, 0, none⟩) n n from e2]
      cases b3 : b 3 with
      | false =>
        rw [show pend b 4 = 1 by simp [pend, b0, b1, b2, b3], show ls4 b = #[true, true, true, true, true, true, false, false, false] by simp [ls4, b0, b1, b2, b3]]
        generalize x 3 = x4
        generalize γ 0 = g0 at *
        generalize γ 1 = g1 at *
        generalize γ 2 = g2 at *
        have HM := hide (made3_new (n := n) hb hx r0 r1 r2 ⟨l0, l1, l2, d01, d02, d12⟩)
        clear h3 h4 e0 e1 e2 b0 b1 b2 b3 r0 r1 r2 hb hf
        refine wpAny_take (i := 6) (v := .agg (C4 (some ⟨g0, 0, none⟩) (some ⟨g1, 0, none⟩) (some ⟨g2, 0, none⟩) none n n n 0 n n n 0)) rfl (by kernel_rfl) (by kernel_rfl) (by kernel_rfl) (fun _ _ _ h => h) (Or.inl ⟨by rfl, by intro w; go_simp⟩) ?_
        refine wpAny_ready (rs := [7]) (by kernel_rfl) (by simp) ?_
        refine AllReady.cons rfl (fun K hK => ?_) AllReady.nil
        go_simp
        refine hK _ _ ?_
        clear hK K
        refine wpAny_ready (rs := [8]) (by kernel_rfl) (by simp) ?_
        refine AllReady.cons rfl (fun K hK => ?_) AllReady.nil
        go_simp
        refine hK _ _ ?_
        clear hK K
        refine wpAny_done (by kernel_rfl) ?_ _
        go_wp2_with fail
        go_meet
        exact ⟨_, _, _, _, rfl, HM⟩
      | true =>
        obtain ⟨e4, r4, l4⟩ := h3 3 (by omega) b3
        have d04 := h4 3 0 (by omega) (by omega) (by omega) b3 b0
        have d14 := h4 3 1 (by omega) (by omega) (by omega) b3 b1
        have d24 := h4 3 2 (by omega) (by omega) (by omega) b3 b2
        rw [show x 3 = Value.pointer (some ⟨γ 3, 0, none⟩) from e4, show pend b 4 = 0 by simp [pend, b0, b1, b2, b3], show ls4 b = #[true, true, true, true, true, true, false, true, false] by simp [ls4, b0, b1, b2, b3]]
        generalize γ 0 = g0 at *
        generalize γ 1 = g1 at *
        generalize γ 2 = g2 at *
        generalize γ 3 = g4 at *
        have HM := hide (made3_old (n := n) hb hx r4 r0 r1 r2 ⟨l4, l0, l1, l2, d04, d14, d24, d01, d02, d12⟩)
        obtain ⟨y0, f0, y1, f1, y2, f2, y3, f3⟩ := zero_cells r4
        clear h3 h4 e0 e1 e2 e4 b0 b1 b2 b3 r0 r1 r2 r4 hb hf
        refine wpAny_take (i := 6) (v := .agg (C4 (some ⟨g0, 0, none⟩) (some ⟨g1, 0, none⟩) (some ⟨g2, 0, none⟩) none n n n 0 n n n 0)) rfl (by kernel_rfl) (by kernel_rfl) (by kernel_rfl) (fun _ _ _ h => h) (Or.inl ⟨by rfl, by intro w; go_simp⟩) ?_
        refine wpAny_ready (rs := [8]) (by kernel_rfl) (by simp) ?_
        refine AllReady.cons rfl (fun K hK => ?_) AllReady.nil
        go_simp
        refine hK _ _ ?_
        clear hK K
        refine wpAny_done (by kernel_rfl) ?_ _
        go_wp2_with fail
        go_meet
        exact ⟨_, _, _, _, rfl, HM⟩
    · exact ⟨((Below.refl _ _).alloc (Nat.le_refl _) _).drew, PBox.new w zeros4, fun _ => 0, fun k _ h => by simp at h, fun i j _ _ _ h => by simp at h⟩
  case rest =>
    obtain ⟨i0, hi0, hz0, hz1, hz2⟩ := info_parts Try.info3
    have H1 := hide hi0
    have H2 := hide hz0
    have H3 := hide hz1
    have H4 := hide hz2
    clear hi0 hz0 hz1 hz2
    obtain ⟨g, g0, g1, g2, rfl, HM⟩ := hcut
    have HL := hide (Lay.first HM.out HZ.out (by omega))
    clear HM hmk HZ t1 t2
    go_wp2
    go_loopw [21] (fun i wr => ∃ (k : Nat) (A : Option Addr) (c : Nat), k ≤ n ∧ i = .int .i64 k ∧ Hid (Lay w wr g g0 g1 g2 A n k c)) (fun i _ => n - (intOf i).toNat)
    case atStart => exact ⟨0, none, 0, by omega, rfl, HL⟩
    case round =>
      obtain ⟨k, A, c, hk, rfl, HK⟩ := hrel
      clear HL
      have hc := HK.out.box.cells
      have hl := HK.out.box.lt
      by_cases hlt : k < n
      · have HKA := hide (HK.out.alloc (.cells #[.int .i64 (k : Int)] 3))
        have HSz : Hid (w.heap.size + 1 ≤ (wr.alloc (.cells #[.int .i64 (k : Int)] 3)).heap.size) := by have := HK.out.bel.size; show _ ≤ _; simp; omega
        go_wp2_with (at_builtin; refine wpList_append_lies _ rfl _ _ 24 rfl (w.heap.size + 1) 3 i0 (.int .i64 0) 1 8 Try.underlying24 H1.out H2.out H3.out H4.out rfl (by decide) _ k _ rfl HKA.out.own.f ⟨wr.heap.size, 0, none⟩ 1 1 [.int .i64 (k : Int)] rfl rfl (cells_one _ _ _ rfl) (ints_oneCell .i64 [(k : Int)]) (by decide) (by simp only [maxLen]; omega) (by omega) HSz.out _ rfl ?_; intro g' cap w2 hown hg hl2 hlt2; have HGr := hide (HKA.out.grown hown hg hl2); have hcb := HGr.out.1.cells; have hlb := HGr.out.1.lt; have hfb := HGr.out.1.frozen; clear hown hg hl2)
        go_roundw
        case rel => exact ⟨k + 1, some ⟨g', 0, none⟩, cap, by omega, by go_num, HGr.out.2⟩
        case measure => simp [intOf]; omega
      · obtain ⟨y0, f0, y1, f1, y2, f2, y3, f3⟩ := zero_cells HK.out.res
        obtain rfl : k = n := by omega
        have HT := hide ((HK.out.own.set4 (k := w.heap.size) (by omega) (.slice (some ⟨g0, 0, none⟩) k k) (.slice (some ⟨g1, 0, none⟩) k k) (.slice (some ⟨g2, 0, none⟩) k k) (.slice A k c)).less (by omega : w.heap.size ≤ w.heap.size + 1))
        go_wp2
        refine bodyPost_ret (results_row_tmp rfl _ _ w.heap.size 26 _ (0, 0) _ rfl (set4_heap HK.out.res _ _ _ _) Try.underlying26 rfl Try.size26) rfl ⟨⟨some ⟨g0, 0, none⟩, some ⟨g1, 0, none⟩, some ⟨g2, 0, none⟩, A, k, k, k, k, k, k, k, c⟩, rfl, HT.out, set4_below HK.out.bel (Nat.le_refl _) _ _ _ _⟩

set_option maxHeartbeats 400000 in
theorem rnew_no (n : Int) (w : World) (h : Hid (n < 1 ∨ 64 < n)) : Calls Try.prog 41 #[.int .i64 n] w (TellE w noP 1) := by
  by_cases c1 : n < 1
  · have d1 : decide (n < 1) = true := by simpa using c1
    go_enter Try.func41, Try.ntmps41
    go_wp2
    refine bodyPost_ret (results_row_tmp rfl _ _ w.heap.size 26 _ (0, 0) _ rfl (heap_alloc_new _ _) Try.underlying26 rfl Try.size26) rfl ⟨noPl, rfl, owns_none _ _, (Below.refl _ _).alloc (Nat.le_refl _) _⟩
  · have d1 : decide (n < 1) = false := by simpa using c1
    have d2 : decide (64 < n) = true := by have := h.out; simp; omega
    go_enter Try.func41, Try.ntmps41
    go_wp2
    refine bodyPost_ret (results_row_tmp rfl _ _ w.heap.size 26 _ (0, 0) _ rfl (heap_alloc_new _ _) Try.underlying26 rfl Try.size26) rfl ⟨noPl, rfl, owns_none _ _, (Below.refl _ _).alloc (Nat.le_refl _) _⟩

end Go.Proofs.Ythficfmakbblkaa.Pool

/- What Count tells, of any pool that is not great: the code's and the document's. -/
namespace Go.Proofs.Ythficfmakbblkaa.Pool
open Go.RowKit
set_option maxRecDepth 100000
set_option linter.unusedVariables false

/-- How many slots are in state v. -/
def cnt (b : Bool) (S : List Int) (v : Int) : Int := if b then ((S.count v : Nat) : Int) else 0

theorem count_is (S : List Int) (k : Nat) (hk : k < S.length) {x : Int} (hx : S.getD k 0 = x) (v : Int) {a : Nat} (ha : (S.take k).count v = a) : (S.take (k + 1)).count v = a + if x = v then 1 else 0 := by
  rw [count_take S k hk, ha, hx]
theorem cnt_all {S : List Int} {k : Nat} (hk : S.length ≤ k) {v : Int} {a : Nat} (ha : (S.take k).count v = a) : cnt true S v = (a : Int) := by
  rw [List.take_of_length_le hk] at ha
  simp [cnt, ha]

set_option maxHeartbeats 2000000 in
theorem count_any (p : Pl) (P : PL) (B : Nat) (b : Bool) (w : World) (hr : Reads w B p P) (hB : B ≤ w.heap.size) (hm : Small p) (hb : Hid (b = true ↔ MayBe P)) :
    Calls Try.prog 29 #[p.val] w (Drew (.tuple #[.int .i64 (cnt b P.S 1), .int .i64 (cnt b P.S 2), .int .i64 (cnt b P.S 0)]) w) := by
  obtain ⟨A0, A1, A2, A3, n0, n1, n2, n3, c0, c1, c2, c3⟩ := p
  obtain ⟨G, S, W, F⟩ := P
  have HM := hide hm
  have m1 : n1 ≤ 200 := hm.n1
  have B0 := hide ((Below.refl w.heap.size w).alloc (Nat.le_refl _) (.cells (C4 A0 A1 A2 A3 n0 n1 n2 n3 c0 c1 c2 c3) 26))
  have X0 := hide (PBox.new w (C4 A0 A1 A2 A3 n0 n1 n2 n3 c0 c1 c2 c3))
  have R0 := hide (hr.below B0.out hB)
  have ls := hide (show S.length = n1 by have := hr.s.1; simpa using this)
  clear hr hm
  dsimp only
  go_enter Try.func29, Try.ntmps29
  go_wp2_with fail
  refine (mayBe_any ⟨A0, A1, A2, A3, n0, n1, n2, n3, c0, c1, c2, c3⟩ ⟨G, S, W, F⟩ B b _ R0.out (Nat.le_trans hB B0.out.size) HM.out hb).mono ?_
  rintro e u1 ⟨rfl, hu1⟩
  have B1 := hide (next_call B0.out (Nat.le_refl _) hu1)
  have X1 := hide (X0.out.step hu1)
  have R1 := hide (R0.out.below hu1 (Nat.le_trans hB B0.out.size))
  clear hu1 X0 R0
  have hc := X1.out.cells
  have hl := X1.out.lt
  cases b with
  | false =>
    go_wp2
    go_ret3
    exact ⟨rfl, B1.out⟩
  | true =>
    have HSt : Hid (∀ k, k < n1 → S.getD k 0 = 0 ∨ S.getD k 0 = 1 ∨ S.getD k 0 = 2) := fun k hk => by
      obtain ⟨k1, k2, k3, k4, k5, k6⟩ := may_of hb rfl
      have := (k5 k (by have := ls.out; dsimp only at k3 ⊢; omega)).2.2
      dsimp only at this
      omega
    go_wp2
    clear hc hl
    go_loopw [2, 3, 4, 13] (fun l r f i wr => ∃ k a c d : Nat, k ≤ n1 ∧ i = .int .i64 k ∧ l = .int .i64 (a : Int) ∧ r = .int .i64 (c : Int) ∧ f = .int .i64 (d : Int) ∧ a ≤ k ∧ c ≤ k ∧ d ≤ k ∧ wr = u1 ∧ Hid ((S.take k).count 1 = a) ∧ Hid ((S.take k).count 2 = c) ∧ Hid ((S.take k).count 0 = d))
      (fun _ _ _ i _ => n1 - (intOf i).toNat)
    case atStart => exact ⟨0, 0, 0, 0, by omega, rfl, rfl, rfl, rfl, by omega, by omega, by omega, rfl, rfl, rfl, rfl⟩
    case round =>
      obtain ⟨k, a, c, d, hk, rfl, rfl, rfl, rfl, ha, hc', hd, rfl, HA, HC, HD⟩ := hrel
      by_cases hlt : k < n1
      · obtain ⟨bS, oS, eS, hbS, cS⟩ := R1.out.s.at_ hlt
        dsimp only at eS cS
        subst eS
        have HK : Hid (k < S.length) := by show _ < _; rw [ls.out]; exact hlt
        rcases HSt.out k hlt with h0 | h0 | h0
        · have N1 := hide (count_is S k HK.out h0 1 HA.out)
          have N2 := hide (count_is S k HK.out h0 2 HC.out)
          have N0 := hide (count_is S k HK.out h0 0 HD.out)
          rw [h0] at cS
          clear h0
          go_wp2
          go_roundw
          case rel => exact ⟨k + 1, a, c, d + 1, by omega, by go_num, rfl, rfl, by go_num, by omega, by omega, by omega, trivial, N1, N2, N0⟩
          case measure => simp [intOf]; omega
        · have N1 := hide (count_is S k HK.out h0 1 HA.out)
          have N2 := hide (count_is S k HK.out h0 2 HC.out)
          have N0 := hide (count_is S k HK.out h0 0 HD.out)
          rw [h0] at cS
          clear h0
          go_wp2
          go_roundw
          case rel => exact ⟨k + 1, a + 1, c, d, by omega, by go_num, by go_num, rfl, rfl, by omega, by omega, by omega, trivial, N1, N2, N0⟩
          case measure => simp [intOf]; omega
        · have N1 := hide (count_is S k HK.out h0 1 HA.out)
          have N2 := hide (count_is S k HK.out h0 2 HC.out)
          have N0 := hide (count_is S k HK.out h0 0 HD.out)
          rw [h0] at cS
          clear h0
          go_wp2
          go_roundw
          case rel => exact ⟨k + 1, a, c + 1, d, by omega, by go_num, rfl, by go_num, rfl, by omega, by omega, by omega, trivial, N1, N2, N0⟩
          case measure => simp [intOf]; omega
      · have HKL : Hid (S.length ≤ k) := by show _ ≤ _; rw [ls.out]; omega
        have Q1 := hide (cnt_all HKL.out HA.out)
        have Q2 := hide (cnt_all HKL.out HC.out)
        have Q0 := hide (cnt_all HKL.out HD.out)
        go_wp2
        go_ret3
        exact ⟨by rw [Q1.out, Q2.out, Q0.out]; rfl, B1.out⟩

/-- Block g is an array of three numbers. -/
def ABox (u : World) (g : Nat) (a b c : Int) : Prop := u.heap[g]? = some (.cells #[.int .i64 a, .int .i64 b, .int .i64 c] 67 (0, 0))
theorem ABox.lt {u : World} {g : Nat} {a b c : Int} (h : ABox u g a b c) : g < u.heap.size := (Array.getElem?_eq_some_iff.1 h).1
theorem ABox.cells {u : World} {g : Nat} {a b c : Int} (h : ABox u g a b c) : ∀ i, u.cell? ⟨g, i, none⟩ = (#[.int .i64 a, .int .i64 b, .int .i64 c] : Array Value)[i]? := fun i => cell_of_row u g i _ 67 (0, 0) h
theorem ABox.frozen {u : World} {g : Nat} {a b c : Int} (h : ABox u g a b c) : ∀ i, u.frozen? ⟨g, i, none⟩ = false := fun i => frozen_of_row u g i _ 67 h
theorem ABox.set0 {u : World} {g : Nat} {a b c : Int} (h : ABox u g a b c) (x : Int) : ABox (u.setCell ⟨g, 0, none⟩ (.int .i64 x)) g x b c := heap_setCell_same u g 0 _ 67 _ h
theorem ABox.set1 {u : World} {g : Nat} {a b c : Int} (h : ABox u g a b c) (x : Int) : ABox (u.setCell ⟨g, 1, none⟩ (.int .i64 x)) g a x c := heap_setCell_same u g 1 _ 67 _ h
theorem ABox.set2 {u : World} {g : Nat} {a b c : Int} (h : ABox u g a b c) (x : Int) : ABox (u.setCell ⟨g, 2, none⟩ (.int .i64 x)) g a b x := heap_setCell_same u g 2 _ 67 _ h

/-- What the document's Count knows of a world. -/
structure Arr (w u : World) (cs : Array Value) (a b c : Nat) : Prop where
  bel : Below w.heap.size w u
  box : PBox u w.heap.size cs
  arr : ABox u (w.heap.size + 1) (a : Int) (b : Int) (c : Int)

end Go.Proofs.Ythficfmakbblkaa.Pool

/- What the document's Same tells of two pools that read alike: true. -/
namespace Go.Proofs.Ythficfmakbblkaa.Pool
open Go.RowKit
set_option maxRecDepth 100000
set_option linter.unusedVariables false

/-- What is kept: both boxes, and what both read as. -/
def Both (w u : World) (p q : Pl) (P : PL) (B B' : Nat) : Prop :=
  (Below w.heap.size w u ∧ PBox u w.heap.size p.cs ∧ PBox u (w.heap.size + 1) q.cs) ∧ (B ≤ w.heap.size ∧ B' ≤ w.heap.size) ∧ Reads u B p P ∧ Reads u B' q P
theorem Both.step {w u u' : World} {p q : Pl} {P : PL} {B B' : Nat} (h : Both w u p q P B B') (hb : Below u.heap.size u u') : Both w u' p q P B B' :=
  ⟨⟨next_call h.1.1 (Nat.le_refl _) hb, h.1.2.1.step hb, h.1.2.2.step hb⟩, h.2.1, h.2.2.1.below hb (Nat.le_trans h.2.1.1 h.1.1.size), h.2.2.2.below hb (Nat.le_trans h.2.1.2 h.1.1.size)⟩
theorem Both.first {w : World} {p q : Pl} {P : PL} {B B' : Nat} (h : Reads w B p P) (h' : Reads w B' q P) (hB : B ≤ w.heap.size) (hB' : B' ≤ w.heap.size) : Both w ((w.alloc (.cells p.cs 26)).alloc (.cells q.cs 26)) p q P B B' := by
  have b := ((Below.refl w.heap.size w).alloc (Nat.le_refl _) (.cells p.cs 26)).alloc (by simp) (.cells q.cs 26)
  exact ⟨⟨b, (PBox.new w _).alloc _, heap_alloc2_new w _ _⟩, ⟨hB, hB'⟩, h.below b hB, h'.below b hB'⟩

set_option maxHeartbeats 1000000 in
theorem samep_yes (p q : Pl) (P : PL) (B B' : Nat) (w : World) (h : Reads w B p P) (h' : Reads w B' q P) (hB : B ≤ w.heap.size) (hB' : B' ≤ w.heap.size) (hm : Small p) :
    Calls Try.prog 30 #[p.val, q.val] w (Drew (.bool true) w) := by
  have K0 := hide (Both.first h h' hB hB')
  obtain ⟨A0, A1, A2, A3, n0, n1, n2, n3, c0, c1, c2, c3⟩ := p
  obtain ⟨D0, D1, D2, D3, e0, e1, e2, e3, d0, d1, d2, d3⟩ := q
  obtain rfl : n0 = e0 := by have h1 := h.g.1; have h2 := h'.g.1; dsimp only at h1 h2; omega
  obtain rfl : n1 = e1 := by have h1 := h.s.1; have h2 := h'.s.1; dsimp only at h1 h2; omega
  obtain rfl : n2 = e2 := by have h1 := h.t.1; have h2 := h'.t.1; dsimp only at h1 h2; omega
  obtain rfl : n3 = e3 := by have h1 := h.f.1; have h2 := h'.f.1; dsimp only at h1 h2; omega
  obtain ⟨m0, m1, m2, m3⟩ := hm
  dsimp only at m0 m1 m2 m3
  clear h h'
  go_enter Try.func30, Try.ntmps30
  go_wp2_with fail
  refine (same_yes _ _ _ _ _ _ _ P.G _ (K0.out.2.2.1.g) (K0.out.2.2.2.g) m0).mono ?_
  rintro e u1 ⟨rfl, b1⟩
  have K1 := hide (K0.out.step b1)
  clear b1
  have hc := K1.out.1.2.1.cells
  have hl := K1.out.1.2.1.lt
  have hd := K1.out.1.2.2.cells
  have hm := K1.out.1.2.2.lt
  go_wp2_with fail
  refine (same_yes _ _ _ _ _ _ _ P.S _ (K1.out.2.2.1.s) (K1.out.2.2.2.s) m1).mono ?_
  rintro e u2 ⟨rfl, b2⟩
  have K2 := hide (K1.out.step b2)
  clear b2 hc hl hd hm
  have hc := K2.out.1.2.1.cells
  have hl := K2.out.1.2.1.lt
  have hd := K2.out.1.2.2.cells
  have hm := K2.out.1.2.2.lt
  go_wp2_with fail
  refine (same_yes _ _ _ _ _ _ _ P.W _ (K2.out.2.2.1.t) (K2.out.2.2.2.t) m2).mono ?_
  rintro e u3 ⟨rfl, b3⟩
  have K3 := hide (K2.out.step b3)
  clear b3 hc hl hd hm
  have hc := K3.out.1.2.1.cells
  have hl := K3.out.1.2.1.lt
  have hd := K3.out.1.2.2.cells
  have hm := K3.out.1.2.2.lt
  go_wp2_with fail
  refine (same_yes _ _ _ _ _ _ _ P.F _ (K3.out.2.2.1.f) (K3.out.2.2.2.f) m3).mono ?_
  rintro e u4 ⟨rfl, b4⟩
  have K4 := hide (K3.out.step b4)
  clear b4 hc hl hd hm
  have hc := K4.out.1.2.1.cells
  have hl := K4.out.1.2.1.lt
  have hd := K4.out.1.2.2.cells
  have hm := K4.out.1.2.2.lt
  go_wp2
  go_ret
  exact ⟨rfl, K4.out.1.1⟩

end Go.Proofs.Ythficfmakbblkaa.Pool

/- Words for PoolDoes: several boxes at once; rows of whatever numbers that are written. -/
namespace Go.Proofs.Ythficfmakbblkaa.Pool
open Go.RowKit
set_option linter.unusedVariables false

theorem few_take {P : PL} {b : Bool} (hf : Few P) : Few (takeQ b P) := by
  obtain ⟨h1, h2, h3, h4⟩ := hf
  unfold takeQ
  split
  · rename_i x xs hF
    rw [hF] at h4
    exact ⟨h1, by simpa using h2, h3, by simp at h4 ⊢; omega⟩
  · simp [Few, noP]
theorem few_ret {P : PL} {b : Bool} (hf : Few P) (r z : Int) : Few (retQ b P r z) := by
  obtain ⟨h1, h2, h3, h4⟩ := hf
  unfold retQ
  split
  · exact ⟨h1, by simpa using h2, by simpa using h3, h4⟩
  · simp [Few, noP]
theorem few_rec {P : PL} {b : Bool} (hb : b = true ↔ MayBe P) (upto : Int) : Few (recQ b P upto) := by
  cases b with
  | true => exact few_may (may_reclaim (hb.1 rfl) upto)
  | false => simp [Few, noP, recQ]

/-- A told pool in a box, from block B on. -/
structure Bx (v u : World) (h : Nat) (q : Pl) (Q : PL) : Prop where
  box : PBox u h q.cs
  told : Told4 u v.heap.size q Q
  small : Small q
theorem Bx.step {v u u' : World} {h : Nat} {q : Pl} {Q : PL} (x : Bx v u h q Q) (hb : Below u.heap.size u u') : Bx v u' h q Q := ⟨x.box.step hb, x.told.below hb, x.small⟩
theorem Bx.first {v u u1 : World} {q : Pl} {Q : PL} (hv : Below v.heap.size v u1) (ht : Told4 u u1.heap.size q Q) (hf : Few Q) : Bx v (u.alloc (.cells q.cs 26)) u.heap.size q Q :=
  ⟨PBox.new u _, (ht.less hv.size).below ((Below.refl _ _).alloc (Nat.le_refl _) _), ht.small hf⟩

/-- Rows of numbers that may be written. -/
def IRow (u : World) (B : Nat) (A : Option Addr) (n : Nat) : Prop :=
  0 < n → ∃ g off cs, A = some ⟨g, off, none⟩ ∧ B ≤ g ∧ u.heap[g]? = some (.cells cs 3 (0, 0)) ∧ ∀ i, i < n → ∃ z, cs[off + i]? = some (.int .i64 z)
theorem Row.irow {u : World} {B n : Nat} {A : Option Addr} {zs : List Int} (h : Row u B A n zs) : IRow u B A n := fun hn => by
  obtain ⟨g, off, cs, e, hB, hg, hc⟩ := h.2 hn
  exact ⟨g, off, cs, e, hB, hg, fun i hi => ⟨_, hc i hi⟩⟩
theorem IRow.below {u u' : World} {B n : Nat} {A : Option Addr} (h : IRow u B A n) (hb : Below u.heap.size u u') : IRow u' B A n := fun hn => by
  obtain ⟨g, off, cs, e, hB, hg, hc⟩ := h hn
  exact ⟨g, off, cs, e, hB, (hb.block g (Array.getElem?_eq_some_iff.1 hg).1).trans hg, hc⟩
theorem IRow.set {u : World} {B n : Nat} {A : Option Addr} (h : IRow u B A n) (g' k : Nat) (z : Int) : IRow (u.setCell ⟨g', k, none⟩ (.int .i64 z)) B A n := fun hn => by
  obtain ⟨g, off, cs, e, hB, hg, hc⟩ := h hn
  by_cases hgg : g' = g
  · subst hgg
    refine ⟨g', off, cs.setIfInBounds k (.int .i64 z), e, hB, heap_setCell_same u g' k cs 3 _ hg, fun i hi => ?_⟩
    obtain ⟨x, hx⟩ := hc i hi
    by_cases hk : k = off + i
    · subst hk
      have := (Array.getElem?_eq_some_iff.1 hx).1
      exact ⟨z, by simp [this]⟩
    · exact ⟨x, by rw [Array.getElem?_setIfInBounds, if_neg hk]; exact hx⟩
  · exact ⟨g, off, cs, e, hB, (Below.heap_setCell u ⟨g', k, none⟩ _ g (by simpa using Ne.symm hgg)).trans hg, hc⟩
/-- One cell of it. -/
theorem IRow.at_ {u : World} {B n k : Nat} {A : Option Addr} (h : IRow u B A n) (hk : k < n) : ∃ g off z cs, A = some ⟨g, off, none⟩ ∧ B ≤ g ∧ g < u.heap.size ∧ u.cell? ⟨g, off + k, none⟩ = some (.int .i64 z) ∧ u.frozen? ⟨g, off + k, none⟩ = false ∧ u.heap[g]? = some (.cells cs 3 (0, 0)) := by
  obtain ⟨g, off, cs, e, hB, hg, hc⟩ := h (by omega)
  obtain ⟨z, hz⟩ := hc k hk
  exact ⟨g, off, z, cs, e, hB, (Array.getElem?_eq_some_iff.1 hg).1, (cell_of_row u g (off + k) cs 3 (0, 0) hg).trans hz, frozen_of_row u g (off + k) cs 3 hg, hg⟩

/-- What stands while the told pools are written. -/
structure Lp (v u : World) (m : Nat) (cs : Array Value) (X : Pl → Prop) : Prop where
  bel : Below v.heap.size v u
  arr : PBox u m cs
  wrt : ∀ q, X q → IRow u v.heap.size q.A1 q.n1 ∧ IRow u v.heap.size q.A3 q.n3 ∧ Small q

theorem Lp.alloc {v u : World} {m : Nat} {cs : Array Value} {X : Pl → Prop} (h : Lp v u m cs X) (o : Obj) : Lp v (u.alloc o) m cs X :=
  ⟨h.bel.alloc h.bel.size _, h.arr.alloc _, fun q hq => ⟨(h.wrt q hq).1.below ((Below.refl _ _).alloc (Nat.le_refl _) _), (h.wrt q hq).2.1.below ((Below.refl _ _).alloc (Nat.le_refl _) _), (h.wrt q hq).2.2⟩⟩
theorem box_not {u : World} {g g' : Nat} {cs cs' : Array Value} (h : PBox u g cs) (h' : u.heap[g']? = some (.cells cs' 3 (0, 0))) : g' ≠ g := by
  intro e
  subst e
  have h2 : some (Obj.cells cs 26 (0, 0)) = some (Obj.cells cs' 3 (0, 0)) := h.symm.trans h'
  simp at h2
theorem Lp.set {v u : World} {m g k : Nat} {cs cs' : Array Value} {X : Pl → Prop} (h : Lp v u m cs X) (hB : v.heap.size ≤ g) (hg : u.heap[g]? = some (.cells cs' 3 (0, 0))) (z : Int) : Lp v (u.setCell ⟨g, k, none⟩ (.int .i64 z)) m cs X :=
  ⟨h.bel.setCell hB _, h.arr.other (box_not h.arr hg) _, fun q hq => ⟨(h.wrt q hq).1.set _ _ _, (h.wrt q hq).2.1.set _ _ _, (h.wrt q hq).2.2⟩⟩

/-- The three pools, one behind the other. -/
abbrev cs12 (a c i : Pl) : Array Value := #[.slice a.A0 a.n0 a.c0, .slice a.A1 a.n1 a.c1, .slice a.A2 a.n2 a.c2, .slice a.A3 a.n3 a.c3, .slice c.A0 c.n0 c.c0, .slice c.A1 c.n1 c.c1, .slice c.A2 c.n2 c.c2, .slice c.A3 c.n3 c.c3, .slice i.A0 i.n0 i.c0, .slice i.A1 i.n1 i.c1, .slice i.A2 i.n2 i.c2, .slice i.A3 i.n3 i.c3]
theorem arr_at {u : World} {m k : Nat} {a c i : Pl} (h : PBox u m (cs12 a c i)) (hk : k < 3) : ∃ q : Pl, (q = a ∨ q = c ∨ q = i) ∧ u.cell? ⟨m, k * 4, none⟩ = some (.slice q.A0 q.n0 q.c0) ∧ u.cell? ⟨m, k * 4 + 1, none⟩ = some (.slice q.A1 q.n1 q.c1) ∧ u.cell? ⟨m, k * 4 + 2, none⟩ = some (.slice q.A2 q.n2 q.c2) ∧ u.cell? ⟨m, k * 4 + 3, none⟩ = some (.slice q.A3 q.n3 q.c3) := by
  match k, hk with
  | 0, _ => exact ⟨a, .inl rfl, h.cells 0, h.cells 1, h.cells 2, h.cells 3⟩
  | 1, _ => exact ⟨c, .inr (.inl rfl), h.cells 4, h.cells 5, h.cells 6, h.cells 7⟩
  | 2, _ => exact ⟨i, .inr (.inr rfl), h.cells 8, h.cells 9, h.cells 10, h.cells 11⟩

end Go.Proofs.Ythficfmakbblkaa.Pool

/- Words for PoolWhole and PoolOnce: a pool in a box, and the references that were told. -/
namespace Go.Proofs.Ythficfmakbblkaa.Pool
open Go.RowKit
set_option linter.unusedVariables false

theorem Row.grown {u w2 : World} {B n m c : Nat} {A A' : Option Addr} {zs : List Int} (h : Row u B A' n zs) (hg : u.grownBy w2 (Value.slice A m c).ownBlock) (hA : ∀ a, A = some a → a.block < B) : Row w2 B A' n zs :=
  ⟨h.1, fun hn => by
    obtain ⟨g, off, cs, e, hB, hgg, hc⟩ := h.2 hn
    refine ⟨g, off, cs, e, hB, (hg.block g (Array.getElem?_eq_some_iff.1 hgg).1 fun e => ?_).trans hgg, hc⟩
    obtain ⟨a, ha, hb⟩ := own_block_addr e.symm
    have := hA a ha
    omega⟩
theorem Told4.grown {u w2 : World} {B m c : Nat} {A : Option Addr} {q : Pl} {Q : PL} (h : Told4 u B q Q) (hg : u.grownBy w2 (Value.slice A m c).ownBlock) (hA : ∀ a, A = some a → a.block < B) : Told4 w2 B q Q :=
  ⟨h.g.grown hg hA, h.s.grown hg hA, h.t.grown hg hA, h.f.grown hg hA, h.zg, h.zs, h.zt, h.zf⟩

/-- The pool q stands in box h; the slice at A is the call's own and holds the references rs. -/
structure Wh (w u : World) (h : Nat) (q : Pl) (Q : PL) (A : Option Addr) (m c : Nat) (rs : List Int) : Prop where
  st : Stand w u h q Q
  own : u.ownsRow w.heap.size 3 1 (.slice A m c) m (ints rs)
  off : ∀ a, A = some a → a.block ≠ h

section
variable {w u u' : World} {h : Nat} {q q' : Pl} {Q Q' : PL} {A : Option Addr} {m c : Nat} {rs : List Int}
theorem Wh.step (x : Wh w u h q Q A m c rs) (hb : Below u.heap.size u u') : Wh w u' h q Q A m c rs := ⟨x.st.step hb, own_below x.own hb, x.off⟩
theorem Wh.alloc (x : Wh w u h q Q A m c rs) (o : Obj) : Wh w (u.alloc o) h q Q A m c rs := x.step ((Below.refl _ _).alloc (Nat.le_refl _) _)
theorem own_put (x : u.ownsRow w.heap.size 3 1 (.slice A m c) m (ints rs)) (ho : ∀ a, A = some a → a.block ≠ h) : (World.put u h q').ownsRow w.heap.size 3 1 (.slice A m c) m (ints rs) :=
  own_far (own_far (own_far (own_far x ho _ _) ho _ _) ho _ _) ho _ _
/-- A told pool is laid into the box. -/
theorem Wh.put (x : Wh w u h q Q A m c rs) (ht : Told4 u' u.heap.size q' Q') (hb : Below u.heap.size u u') (hf : Few Q') : Wh w (World.put u' h q') h q' Q' A m c rs :=
  ⟨x.st.next ht hb hf, own_put (own_below x.own hb) x.off, x.off⟩
theorem Wh.lay {B : Nat} (x : Wh w u h q Q A m c rs) (ht : Told4 u B q' Q') (hB : h < B) (hf : Few Q') : Wh w (World.put u h q') h q' Q' A m c rs :=
  ⟨⟨set4_below x.st.bel x.st.ge _ _ _ _, x.st.ge, set4_box x.st.box _ _ _ _, (ht.set4 hB _ _ _ _).reads, ht.small hf⟩, own_put x.own x.off, x.off⟩
/-- A reference is laid behind the others. -/
theorem Wh.grow {w2 : World} {B g' cap : Nat} {r : Int} (x : Wh w u h q Q A m c rs) (T : Told4 u B q Q) (hA : ∀ a, A = some a → a.block < B) (hown : w2.ownsRow w.heap.size 3 1 (.slice (some ⟨g', 0, none⟩) (m + 1) cap) (m + 1) (ints rs ++ [.int .i64 r]))
    (hg : u.grownBy w2 (Value.slice A m c).ownBlock) (hl : (Value.slice A m c).ownBlock = some g' ∨ g' = u.heap.size) : Wh w w2 h q Q (some ⟨g', 0, none⟩) (m + 1) cap (rs ++ [r]) := by
  refine ⟨⟨x.st.bel.grown hg x.st.bel.size fun k hk => ?_, x.st.ge, x.st.box.grown hg x.off, (T.grown hg hA).reads, x.st.small⟩, by simpa [ints] using hown, fun a ha => ?_⟩
  · obtain ⟨a, ha, hb⟩ := own_block_addr hk
    have := (own_addr x.own a ha).1
    omega
  · simp only [Option.some.injEq] at ha
    subst ha
    dsimp only
    rcases hl with h1 | rfl
    · obtain ⟨a, ha, hb⟩ := own_block_addr h1
      have := x.off a ha
      omega
    · have := x.st.box.lt
      omega
end

/-- Behind Retire's statement: all as before, and the told pool in a box of its own. -/
structure Af (w u : World) (h : Nat) (q : Pl) (Q : PL) (A : Option Addr) (m c : Nat) (rs : List Int) (hb : Nat) (q' : Pl) (Q' : PL) : Prop where
  wh : Wh w u h q Q A m c rs
  box : PBox u hb q'.cs
  told : ∃ B, Told4 u B q' Q' ∧ h < B

section
variable {w u u1 : World} {h : Nat} {q q' : Pl} {Q Q' : PL} {A : Option Addr} {m c : Nat} {rs : List Int}
theorem below_al {o : Obj} (hb : Below u.heap.size u u1) : Below u.heap.size u (u1.alloc o) := hb.alloc hb.size o
theorem box_before (b : Below (u.drew.alloc (.cells zeros4 26)).heap.size (u.drew.alloc (.cells zeros4 26)) u1) : PBox u1 u.heap.size zeros4 :=
  (b.block u.heap.size (by show _ < (u.alloc _).heap.size; simp)).trans (heap_alloc_new u _)
theorem below_before (b : Below (u.drew.alloc (.cells zeros4 26)).heap.size (u.drew.alloc (.cells zeros4 26)) u1) : Below u.heap.size u u1 :=
  (((Below.refl u.heap.size u).drew).alloc (Nat.le_refl _) (.cells zeros4 26)).trans (b.mono (by show _ ≤ (u.alloc _).heap.size; simp))
/-- The box was laid ahead of the call. -/
theorem af_before (x : Wh w u h q Q A m c rs) (b : Below (u.drew.alloc (.cells zeros4 26)).heap.size (u.drew.alloc (.cells zeros4 26)) u1) (t : Told4 u1 (u.drew.alloc (.cells zeros4 26)).heap.size q' Q') : Af w (World.put u1 u.heap.size q') h q Q A m c rs u.heap.size q' Q' := by
  have hs : (u.drew.alloc (.cells zeros4 26)).heap.size = u.heap.size + 1 := by show (u.alloc _).heap.size = _; simp
  refine ⟨x.step (set4_below (below_before b) (Nat.le_refl _) _ _ _ _), set4_box (box_before b) _ _ _ _, _, t.set4 (by omega) _ _ _ _, ?_⟩
  have := x.st.box.lt
  omega
/-- .. behind it. -/
theorem af_behind (x : Wh w u h q Q A m c rs) (b : Below u.drew.heap.size u.drew u1) (t : Told4 u1 u.drew.heap.size q' Q') : Af w (u1.alloc (.cells q'.cs 26)) h q Q A m c rs u1.heap.size q' Q' := by
  have b' : Below u.heap.size u u1 := (Below.refl u.heap.size u).drew.trans b
  exact ⟨(x.step b').alloc _, PBox.new u1 _, _, t.below ((Below.refl _ _).alloc (Nat.le_refl _) _), x.st.box.lt⟩
end

/-- A reference of one of n slots. -/
def Good (n : Nat) (r : Int) : Prop := 1 ≤ r ∧ r ≤ 1125899906842624 ∧ (r - 1) % 1024 < (n : Int)

theorem take_full {Q : PL} (h : Q.F = []) : takeE true Q = 3 ∧ takeQ true Q = noP := by
  simp [takeE, takeQ, h]
theorem take_good {Q : PL} {n : Nat} (M : MayBe Q) (hn : Q.G.length = n) {x : Int} {xs : List Int} (h : Q.F = x :: xs) : takeE true Q = 0 ∧ MayBe (takeQ true Q) ∧ (takeQ true Q).G.length = n ∧ Good n (takeR true Q) := by
  have hq : takeQ true Q = ⟨Q.G, Q.S.set x.toNat 1, Q.W, xs⟩ := by simp [takeQ, h]
  have hr : takeR true Q = 1 + 1024 * Q.G.getD x.toNat 0 + x := by simp [takeR, h]
  refine ⟨by simp [takeE, h], by rw [hq]; exact may_take M h, by rw [hq]; exact hn, ?_⟩
  obtain ⟨k1, k2, k3, k4, k5, k6, _⟩ := M
  rw [h] at k6
  obtain ⟨x1, x2, _⟩ := k6 x (by simp)
  obtain ⟨g1, g2, _⟩ := k5 x.toNat (by omega)
  rw [hr]
  exact ⟨by omega, by omega, by omega⟩
theorem ret_either {Q : PL} {n : Nat} (M : MayBe Q) (hn : Q.G.length = n) {r : Int} (hr : Good n r) (z : Int) : (retE true Q r = 0 ∧ MayBe (retQ true Q r z) ∧ (retQ true Q r z).G.length = n) ∨ (retE true Q r = 2 ∧ retQ true Q r z = noP) := by
  obtain ⟨h1, h2, h3⟩ := hr
  by_cases hk : retE true Q r = 0
  · refine .inl ⟨hk, may_retQ M hk, ?_⟩
    unfold retQ
    rw [if_pos hk]
    exact hn
  · refine .inr ⟨?_, by unfold retQ; rw [if_neg hk]⟩
    unfold retE at hk ⊢
    rw [if_neg (by simp; omega)] at hk ⊢
    split at hk
    · rw [if_pos (by assumption)]
    · exact absurd rfl hk
theorem rec_good {Q : PL} {n : Nat} (M : MayBe Q) (hn : Q.G.length = n) (upto : Int) : MayBe (recQ true Q upto) ∧ (recQ true Q upto).G.length = n :=
  ⟨may_reclaim M upto, by show (recP _ _ _).G.length = _; rw [(rec_len Q upto _).1, hn]⟩
theorem cnt_good {Q : PL} {n : Nat} (M : MayBe Q) (hn : Q.G.length = n) : cnt true Q.S 1 + cnt true Q.S 2 + cnt true Q.S 0 = (n : Int) ∧ cnt true Q.S 0 = (Q.F.length : Int) ∧ 0 ≤ cnt true Q.S 1 ∧ 0 ≤ cnt true Q.S 2 ∧ cnt true Q.S 1 ≤ 64 ∧ cnt true Q.S 2 ≤ 64 ∧ cnt true Q.S 0 ≤ 64 ∧ 0 ≤ cnt true Q.S 0 := by
  have h := may_counts M
  have := M.2.1
  simp only [cnt, if_true]
  omega
theorem new_good {n : Nat} (h1 : 1 ≤ n) (h2 : n ≤ 64) : MayBe (newP n) ∧ (newP n).G.length = n := by
  refine ⟨⟨by simpa [newP] using h1, by simpa [newP] using h2, by simp [newP], by simp [newP], fun k hk => ?_, fun x hx => ?_, ?_, fun k hk _ => ?_⟩, by simp [newP]⟩
  · have hk' : k < n := by simpa [newP] using hk
    simp [newP, SlotOk, List.getD_eq_getElem?_getD, hk']
  · simp only [newP, List.mem_map, List.mem_range] at hx
    obtain ⟨i, hi, rfl⟩ := hx
    simp [newP, List.getD_eq_getElem?_getD, hi]
  · simp only [newP]
    exact List.Pairwise.map _ (fun a b h e => h (by omega)) List.nodup_range
  · have hk' : k < n := by simpa [newP] using hk
    simp only [newP, List.mem_map, List.mem_range]
    exact ⟨k, hk', rfl⟩

end Go.Proofs.Ythficfmakbblkaa.Pool
