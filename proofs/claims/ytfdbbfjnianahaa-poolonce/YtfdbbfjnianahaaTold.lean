/- Words: a pool that was told: it reads so, and its cells may be written. What Take, Retire and Reclaim come to, as functions. -/
import Derived.Test.YtfdbbfjnianahaaNew1
import Derived.Test.YtfdbbfjnianahaaMath
namespace Go.Proofs.Ytfdbbfjnianahaa
open Go.RowKit

/-- The slice at A, of n numbers, reads as zs and lies in a row from block B on, that may be written. -/
def Row (u : World) (B : Nat) (A : Option Addr) (n : Nat) (zs : List Int) : Prop :=
  zs.length = n ∧ (0 < n → ∃ g off cs, A = some ⟨g, off, none⟩ ∧ B ≤ g ∧ u.heap[g]? = some (.cells cs 3 (0, 0)) ∧ ∀ i, i < n → cs[off + i]? = some (.int .i64 (zs.getD i 0)))

section
variable {u u' : World} {B B' n : Nat} {A : Option Addr} {zs : List Int}
theorem Row.nil : Row u B A 0 [] := ⟨rfl, fun h => absurd h (by omega)⟩
theorem Row.nums (h : Row u B A n zs) : Nums u u.heap.size 1 A n zs :=
  ⟨by have := h.1; omega, fun hn => by
    obtain ⟨g, off, cs, e, _, hg, hc⟩ := h.2 hn
    exact ⟨g, off, e, (Array.getElem?_eq_some_iff.1 hg).1, fun i hi => (cell_of_row u g (off + i) cs 3 (0, 0) hg).trans (hc i (by omega))⟩⟩
theorem Row.below (h : Row u B A n zs) (hb : Below u.heap.size u u') : Row u' B A n zs :=
  ⟨h.1, fun hn => by
    obtain ⟨g, off, cs, e, hB, hg, hc⟩ := h.2 hn
    exact ⟨g, off, cs, e, hB, (hb.block g (Array.getElem?_eq_some_iff.1 hg).1).trans hg, hc⟩⟩
theorem Row.less (h : Row u B A n zs) (hB : B' ≤ B) : Row u B' A n zs :=
  ⟨h.1, fun hn => by
    obtain ⟨g, off, cs, e, hb, r⟩ := h.2 hn
    exact ⟨g, off, cs, e, Nat.le_trans hB hb, r⟩⟩
theorem Row.free (h : Row u B A n zs) {k : Nat} (hk : k < B) (i : Nat) (x : Value) : Row (u.setCell ⟨k, i, none⟩ x) B A n zs :=
  ⟨h.1, fun hn => by
    obtain ⟨g, off, cs, e, hB, hg, hc⟩ := h.2 hn
    exact ⟨g, off, cs, e, hB, (Below.heap_setCell u ⟨k, i, none⟩ x g (by simp; omega)).trans hg, hc⟩⟩
theorem Row.set4 (h : Row u B A n zs) {k : Nat} (hk : k < B) (p q r s : Value) : Row ((((u.setCell ⟨k, 0, none⟩ p).setCell ⟨k, 1, none⟩ q).setCell ⟨k, 2, none⟩ r).setCell ⟨k, 3, none⟩ s) B A n zs :=
  (((h.free hk 0 p).free hk 1 q).free hk 2 r).free hk 3 s
theorem row_of_own {c : Nat} (h : u.ownsRow B 3 1 (.slice A n c) n (ints zs)) : Row u B A n zs := by
  have hl : zs.length = n := by simpa using h.1
  refine ⟨hl, fun hn => ?_⟩
  rcases h.2 with ⟨_, h0⟩ | ⟨g, cap, cur, h1, hB, hg, hc, hm, hs, ht⟩
  · omega
  · simp only [Value.slice.injEq] at h1
    refine ⟨g, 0, cur, h1.1, hB, hg, fun i hi => ?_⟩
    have e : (cur.toList.take (n * 1))[i]? = (ints zs)[i]? := by rw [ht]
    rw [List.getElem?_take, if_pos (by omega)] at e
    rw [Nat.zero_add, ← Array.getElem?_toList, e]
    simp [List.getD_eq_getElem?_getD, show i < zs.length by omega]
/-- Without its first. -/
theorem row_tail {g n c : Nat} {x : Int} {xs : List Int} (h : u.ownsRow B 3 1 (.slice (some ⟨g, 0, none⟩) n c) n (ints (x :: xs))) : Row u B (some ⟨g, 1, none⟩) (n - 1) xs := by
  obtain ⟨hl, h2⟩ := row_of_own h
  refine ⟨by simp at hl; omega, fun hn => ?_⟩
  obtain ⟨g', off, cs, e, hB, hg, hc⟩ := h2 (by omega)
  simp only [Option.some.injEq, Addr.mk.injEq, and_true] at e
  obtain ⟨rfl, rfl⟩ := e
  refine ⟨_, 1, cs, rfl, hB, hg, fun i hi => ?_⟩
  have := hc (i + 1) (by omega)
  rw [show 0 + (i + 1) = 1 + i by omega] at this
  simpa using this
theorem own_cap {c : Nat} (h : u.ownsRow B 3 1 (.slice A n c) n (ints zs)) : n ≤ c ∧ c ≤ maxLen := by
  rcases h.2 with ⟨h1, h0⟩ | ⟨g, cap, cur, h1, hB, hg, hc, hm, hs, ht⟩
  · simp at h1; simp only [maxLen]; omega
  · simp at h1; omega
end

structure Told4 (u : World) (B : Nat) (q : Pl) (Q : PL) : Prop where
  g : Row u B q.A0 q.n0 Q.G
  s : Row u B q.A1 q.n1 Q.S
  t : Row u B q.A2 q.n2 Q.W
  f : Row u B q.A3 q.n3 Q.F
  zg : q.A0 = none → q.c0 = 0
  zs : q.A1 = none → q.c1 = 0
  zt : q.A2 = none → q.c2 = 0
  zf : q.A3 = none → q.c3 = 0

section
variable {u u' : World} {B B' : Nat} {q : Pl} {Q : PL}
theorem Told4.reads (h : Told4 u B q Q) : Reads u u.heap.size q Q := ⟨h.g.nums, h.s.nums, h.t.nums, h.f.nums, h.zg, h.zs, h.zt, h.zf⟩
theorem Told4.below (h : Told4 u B q Q) (hb : Below u.heap.size u u') : Told4 u' B q Q := ⟨h.g.below hb, h.s.below hb, h.t.below hb, h.f.below hb, h.zg, h.zs, h.zt, h.zf⟩
theorem Told4.less (h : Told4 u B q Q) (hB : B' ≤ B) : Told4 u B' q Q := ⟨h.g.less hB, h.s.less hB, h.t.less hB, h.f.less hB, h.zg, h.zs, h.zt, h.zf⟩
theorem Owns.told (h : Owns u B q Q) : Told4 u B q Q := ⟨row_of_own h.g, row_of_own h.s, row_of_own h.t, row_of_own h.f, h.zg, h.zs, h.zt, h.zf⟩
theorem told_none (u : World) (B : Nat) : Told4 u B noPl noP := (owns_none u B).told
end

/-- What a call tells: a pool and a number; a pool and two. -/
def Tell2 (w : World) (Q : PL) (x : Int) (e : Ending) (w' : World) : Prop := ∃ q : Pl, e = .returned (.tuple #[q.val, .int .i64 x]) ∧ Told4 w' w.heap.size q Q ∧ Below w.heap.size w w'
def Tell3 (w : World) (Q : PL) (x y : Int) (e : Ending) (w' : World) : Prop := ∃ q : Pl, e = .returned (.tuple #[q.val, .int .i64 x, .int .i64 y]) ∧ Told4 w' w.heap.size q Q ∧ Below w.heap.size w w'

/-- A struct result and two more. -/
theorem results_row_two {P : Program} {fn : Func} {p u v : Tmp} {ty : TypeId} (h : fn.results = #[.cell p ty, .tmp u, .tmp v]) (tmps : Array Value) (w : World) (g : Nat) (t : TypeId) (cs : Array Value) (fr : Nat × Nat) (d : TypeDesc)
    (hp : tmps.getD p undef = .pointer (some ⟨g, 0, none⟩)) (hg : w.heap[g]? = some (.cells cs t fr))
    (hu : P.underlying ty = some d) (hd : (match d with | .struct _ | .array _ _ => true | _ => false) = true) (hi : (P.info? ty).map (·.size) = some cs.size) :
    (results fn tmps).run P w = .ok (.tuple #[.agg cs, tmps.getD u undef, tmps.getD v undef]) w := by
  have hp' : tmps[p]?.getD undef = .pointer (some ⟨g, 0, none⟩) := by simpa using hp
  simp [results, h, hp', asAddr, run_loadVar_row w g t ty cs fr d hg hu hd hi]

/-- What Take tells of a pool that may be (b), or not. -/
def takeQ (b : Bool) (P : PL) : PL := match b, P.F with
  | true, x :: xs => ⟨P.G, P.S.set x.toNat 1, P.W, xs⟩
  | _, _ => noP
def takeR (b : Bool) (P : PL) : Int := match b, P.F with
  | true, x :: _ => 1 + 1024 * P.G.getD x.toNat 0 + x
  | _, _ => 0
def takeE (b : Bool) (P : PL) : Int := match b, P.F with
  | true, _ :: _ => 0
  | true, [] => 3
  | false, _ => 1

/-- What Retire tells. -/
def retE (b : Bool) (P : PL) (r : Int) : Int :=
  if b = false ∨ r < 1 ∨ 1125899906842624 < r ∨ (P.G.length : Int) ≤ (r - 1) % 1024 then 1
  else if P.S.getD ((r - 1) % 1024).toNat 0 ≠ 1 ∨ P.G.getD ((r - 1) % 1024).toNat 0 ≠ (r - 1) / 1024 then 2 else 0
def retQ (b : Bool) (P : PL) (r when_ : Int) : PL :=
  if retE b P r = 0 then ⟨P.G, P.S.set ((r - 1) % 1024).toNat 2, P.W.set ((r - 1) % 1024).toNat when_, P.F⟩ else noP

/-- Slot k is to be reclaimed. -/
def Due (P : PL) (upto : Int) (k : Nat) : Prop := P.S.getD k 0 = 2 ∧ P.W.getD k 0 ≤ upto ∧ P.G.getD k 0 < 1099511627775
instance (P : PL) (upto : Int) (k : Nat) : Decidable (Due P upto k) := by unfold Due; infer_instance
/-- One slot reclaimed. -/
def recOne (Q : PL) (k : Nat) : PL := ⟨Q.G.set k (Q.G.getD k 0 + 1), Q.S.set k 0, Q.W.set k 0, Q.F ++ [(k : Int)]⟩
/-- The first k slots gone through. -/
def recP (P : PL) (upto : Int) : Nat → PL
  | 0 => P
  | k + 1 => if Due P upto k then recOne (recP P upto k) k else recP P upto k
def recC (P : PL) (upto : Int) : Nat → Nat
  | 0 => 0
  | k + 1 => if Due P upto k then recC P upto k + 1 else recC P upto k
def recQ (b : Bool) (P : PL) (upto : Int) : PL := if b then recP P upto P.G.length else noP
def recN (b : Bool) (P : PL) (upto : Int) : Int := if b then (recC P upto P.G.length : Int) else 0

end Go.Proofs.Ytfdbbfjnianahaa
