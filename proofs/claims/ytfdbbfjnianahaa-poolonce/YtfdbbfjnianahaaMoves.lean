/- How an own pool is kept while its cells are written. -/
import Derived.Test.YtfdbbfjnianahaaTold
namespace Go.Proofs.Ytfdbbfjnianahaa
open Go.RowKit

section
variable {u : World} {B n : Nat} {A : Option Addr} {c : Nat} {zs : List Int}
/-- A cell of another row is written. -/
theorem own_far (h : u.ownsRow B 3 1 (.slice A n c) n (ints zs)) {k : Nat} (hk : ∀ a, A = some a → a.block ≠ k) (i : Nat) (v : Value) : (u.setCell ⟨k, i, none⟩ v).ownsRow B 3 1 (.slice A n c) n (ints zs) := by
  refine ⟨h.1, ?_⟩
  rcases h.2 with h0 | ⟨g, cap, cur, h1, hB, hg, r⟩
  · exact .inl h0
  · simp only [Value.slice.injEq] at h1
    have := hk _ h1.1
    exact .inr ⟨g, cap, cur, by simp [h1], hB, (Below.heap_setCell u ⟨k, i, none⟩ v g (by simpa using this)).trans hg, r⟩
end

section
variable {u : World} {B : Nat} {A0 A1 A2 A3 : Option Addr} {n0 n1 n2 n3 c0 c1 c2 c3 : Nat} {G S W F : List Int}
theorem Owns.free {q : Pl} {P : PL} (h : Owns u B q P) {k : Nat} (hk : k < B) (i : Nat) (x : Value) : Owns (u.setCell ⟨k, i, none⟩ x) B q P :=
  ⟨own_free h.g hk i x, own_free h.s hk i x, own_free h.t hk i x, own_free h.f hk i x, h.zg, h.zs, h.zt, h.zf, h.gs, h.gt, h.gf, h.st, h.sf, h.tf⟩
theorem Owns.set4 {q : Pl} {P : PL} (h : Owns u B q P) {k : Nat} (hk : k < B) (p r s t : Value) : Owns ((((u.setCell ⟨k, 0, none⟩ p).setCell ⟨k, 1, none⟩ r).setCell ⟨k, 2, none⟩ s).setCell ⟨k, 3, none⟩ t) B q P :=
  (((h.free hk 0 p).free hk 1 r).free hk 2 s).free hk 3 t
theorem Owns.alloc {q : Pl} {P : PL} (h : Owns u B q P) (o : Obj) : Owns (u.alloc o) B q P :=
  ⟨h.g.alloc o, h.s.alloc o, h.t.alloc o, h.f.alloc o, h.zg, h.zs, h.zt, h.zf, h.gs, h.gt, h.gf, h.st, h.sf, h.tf⟩
theorem Owns.less {q : Pl} {P : PL} {B' : Nat} (h : Owns u B q P) (hB : B' ≤ B) : Owns u B' q P :=
  ⟨own_less h.g hB, own_less h.s hB, own_less h.t hB, own_less h.f hB, h.zg, h.zs, h.zt, h.zf, h.gs, h.gt, h.gf, h.st, h.sf, h.tf⟩
theorem Owns.below {q : Pl} {P : PL} {u' : World} (h : Owns u B q P) (hb : Below u.heap.size u u') : Owns u' B q P :=
  ⟨own_below h.g hb, own_below h.s hb, own_below h.t hb, own_below h.f hb, h.zg, h.zs, h.zt, h.zf, h.gs, h.gt, h.gf, h.st, h.sf, h.tf⟩
theorem Owns.setS {g : Nat} (h : Owns u B ⟨A0, some ⟨g, 0, none⟩, A2, A3, n0, n1, n2, n3, c0, c1, c2, c3⟩ ⟨G, S, W, F⟩) (k : Nat) (x : Int) :
    Owns (u.setCell ⟨g, k, none⟩ (.int .i64 x)) B ⟨A0, some ⟨g, 0, none⟩, A2, A3, n0, n1, n2, n3, c0, c1, c2, c3⟩ ⟨G, S.set k x, W, F⟩ :=
  ⟨own_far h.g (fun a ha => h.gs a _ ha rfl) _ _, own_set h.s k x, own_far h.t (fun a ha => (h.st _ a rfl ha).symm) _ _, own_far h.f (fun a ha => (h.sf _ a rfl ha).symm) _ _, h.zg, h.zs, h.zt, h.zf, h.gs, h.gt, h.gf, h.st, h.sf, h.tf⟩
theorem Owns.setT {g : Nat} (h : Owns u B ⟨A0, A1, some ⟨g, 0, none⟩, A3, n0, n1, n2, n3, c0, c1, c2, c3⟩ ⟨G, S, W, F⟩) (k : Nat) (x : Int) :
    Owns (u.setCell ⟨g, k, none⟩ (.int .i64 x)) B ⟨A0, A1, some ⟨g, 0, none⟩, A3, n0, n1, n2, n3, c0, c1, c2, c3⟩ ⟨G, S, W.set k x, F⟩ :=
  ⟨own_far h.g (fun a ha => h.gt a _ ha rfl) _ _, own_far h.s (fun a ha => h.st a _ ha rfl) _ _, own_set h.t k x, own_far h.f (fun a ha => (h.tf _ a rfl ha).symm) _ _, h.zg, h.zs, h.zt, h.zf, h.gs, h.gt, h.gf, h.st, h.sf, h.tf⟩
theorem Owns.setG {g : Nat} (h : Owns u B ⟨some ⟨g, 0, none⟩, A1, A2, A3, n0, n1, n2, n3, c0, c1, c2, c3⟩ ⟨G, S, W, F⟩) (k : Nat) (x : Int) :
    Owns (u.setCell ⟨g, k, none⟩ (.int .i64 x)) B ⟨some ⟨g, 0, none⟩, A1, A2, A3, n0, n1, n2, n3, c0, c1, c2, c3⟩ ⟨G.set k x, S, W, F⟩ :=
  ⟨own_set h.g k x, own_far h.s (fun a ha => (h.gs _ a rfl ha).symm) _ _, own_far h.t (fun a ha => (h.gt _ a rfl ha).symm) _ _, own_far h.f (fun a ha => (h.gf _ a rfl ha).symm) _ _, h.zg, h.zs, h.zt, h.zf, h.gs, h.gt, h.gf, h.st, h.sf, h.tf⟩
/-- Without Free's first. -/
theorem Owns.tail {g : Nat} {x : Int} {xs : List Int} (h : Owns u B ⟨A0, A1, A2, some ⟨g, 0, none⟩, n0, n1, n2, n3, c0, c1, c2, c3⟩ ⟨G, S, W, x :: xs⟩) (c : Nat) :
    Told4 u B ⟨A0, A1, A2, some ⟨g, 1, none⟩, n0, n1, n2, n3 - 1, c0, c1, c2, c⟩ ⟨G, S, W, xs⟩ :=
  ⟨row_of_own h.g, row_of_own h.s, row_of_own h.t, row_tail h.f, h.zg, h.zs, h.zt, fun h => by cases h⟩
theorem Owns.tail1 {g : Nat} {x : Int} {xs : List Int} (h : Owns u B ⟨A0, A1, A2, some ⟨g, 0, none⟩, n0, n1, n2, 1, c0, c1, c2, c3⟩ ⟨G, S, W, x :: xs⟩) (c : Nat) :
    Told4 u B ⟨A0, A1, A2, some ⟨g, 0, none⟩, n0, n1, n2, 0, c0, c1, c2, c⟩ ⟨G, S, W, xs⟩ := by
  have e : xs = [] := by have := h.f.1; simpa using this
  subst e
  exact ⟨row_of_own h.g, row_of_own h.s, row_of_own h.t, Row.nil, h.zg, h.zs, h.zt, fun h => by cases h⟩
end
end Go.Proofs.Ytfdbbfjnianahaa
