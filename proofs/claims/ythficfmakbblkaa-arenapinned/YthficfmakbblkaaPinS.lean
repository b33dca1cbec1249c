/- A list of pairs, lengthened by some pairs or by none, in a statement whose order is drawn. -/
import Derived.Test.YthficfmakbblkaaPinR
import Derived.Deep.AppendLies
import Derived.Deep.Upon
import Derived.Deep.AppendSrc
namespace Go.Proofs.Ythficfmakbblkaa
open Go.Joins Go.ChangeShapes Go.WideShapes Go.ChangeAt Go.RowKit Go.Deep
open Pool (Pl PL MayBe noP noPl Drew Told4 Row upd ints)
set_option linter.unusedVariables false
set_option maxRecDepth 100000

theorem below_grown {w u u' : World} {B : Nat} {row : Option Nat} (b : Below B w u) (hg : u.grownBy u' row) (hB : B ≤ u.heap.size) (hr : ∀ k, row = some k → B ≤ k) : Below B w u' := by
  first
  | exact b.grown hg hB hr
  | exact b.grownBy hg hB hr
  | exact b.grow hg hB hr
theorem own_fits {u : World} {B : Nat} {v : Sl} {xs : List Value} (h : u.ownsRow B 54 2 v.val v.n xs) : v.n ≤ v.c := by
  rcases h.2 with ⟨h1, h2⟩ | ⟨g, cap, cur, h1, _, _, h3, _⟩
  · omega
  · unfold Sl.val at h1
    injection h1 with _ _ e
    omega
theorem own_from {u : World} {B : Nat} {v : Sl} {xs : List Value} (h : u.ownsRow B 54 2 v.val v.n xs) : ∀ k, v.val.ownBlock = some k → B ≤ k := fun k hk => by
  rcases h.2 with ⟨h1, h2⟩ | ⟨g, cap, cur, h1, hB, _⟩
  · rw [h1] at hk; cases hk
  · rw [h1] at hk; cases hk; exact hB
theorem step_app54 {ops : Array Oper} {o : Oper} {a : Act} {K : Act → World → Prop} {Q : Exit → Act → World → Prop} {E : Prop} (w : World) (hgd : o.guard = none) (s x : Operand)
    (ho : o.op = .call { callee := .builtin .append, args := #[s, x], argTypes := #[52, 52] })
    (B : Nat) (v : Sl) (xs : List Value) (hs : a.eval s = v.val) (hown : w.ownsRow B 54 2 v.val v.n xs)
    (ad : Addr) (m c : Nat) (news : List Value) (hx : a.eval x = .slice (some ad) m c) (hl : news.length = m * 2) (hnews : ∀ j u, news[j]? = some u → w.cell? (ad.add j) = some u) (h1 : ∀ u ∈ news, u.oneCell' = true)
    (h63 : v.n + m ≤ 1000) (hB : B ≤ w.heap.size)
    (h : ∀ (v' : Sl) (w' : World), v'.n = v.n + m → w'.ownsRow B 54 2 v'.val (v.n + m) (xs ++ news) → Below B w w' → K (a.put o.dst v'.val) w') :
    if Region.wanted o (yielded ops a.tmps) = true then Oper.wp Try.prog o a w K Q else E := by
  obtain ⟨i0, hi0, hz0, hz1, hz2⟩ := info_parts info54
  by_cases hm : m = 0
  · subst hm
    obtain rfl : news = [] := List.length_eq_zero_iff.1 (by omega)
    have hw : Region.wanted o (yielded ops a.tmps) = true := by simp [Region.wanted, hgd]
    rw [if_pos hw]
    have hr := run_append_nothing (P := Try.prog) w 52 52 o.type 54 i0 Try.underlying52 hi0 v.A v.n v.c (own_fits hown) (.slice (some ad) 0 c) (Src.ofSlice w Try.underlying52 ad 0 c [] (by simp) (by simp) (by simp))
    have hs' : a.eval s = .slice v.A v.n v.c := hs
    unfold Oper.wp execOp
    simp only [ho, resolve, invoke, builtin, Sem.run_bind, Sem.run_pure, Result.andThen_ok, List.map_toArray, List.map_cons, List.map_nil, hs', hx, hr]
    exact h v w (by omega) (by simpa using hown) (Below.refl _ _)
  · refine step_append_lies w hgd s x 52 ho B 54 i0 (.agg #[.int .i64 0, .int .i64 0]) 2 16 Try.underlying52 hi0 hz0 hz1 hz2 rfl (by decide) v.val v.n xs hs hown ad m c news hx hl hnews h1 (by omega) (by simp only [maxLen]; omega) (by omega) hB _ rfl ?_
    intro g cap w' h2 h3 h4 h5
    exact h ⟨some ⟨g, 0, none⟩, v.n + m, cap⟩ w' rfl h2 (below_grown (Below.refl _ _) h3 hB (own_from hown))
end Go.Proofs.Ythficfmakbblkaa
