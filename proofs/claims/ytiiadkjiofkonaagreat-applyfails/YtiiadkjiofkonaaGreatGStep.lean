/- A list of numbers (pairs, edges), lengthened by another one, nil or not, in a statement whose order is drawn. -/
import Derived.Test.YtiiadkjiofkonaaGreatGWalksC
import Derived.Deep.AppendLies
import Derived.Deep.Upon
import Derived.Deep.AppendSrc
import Derived.Deep.RegionLaw
namespace Go.Proofs.YtiiadkjiofkonaaGreat
open Go.RowKit
set_option linter.unusedVariables false

theorem own_fits {w : World} {B e size n c : Nat} {A : Option Addr} {xs : List Value} (h : w.ownsRow B e size (.slice A n c) n xs) : n ≤ c := by
  rcases h.2 with ⟨h1, h2⟩ | ⟨g, cap, cur, h1, _, _, h3, _⟩
  · omega
  · injection h1 with _ _ e
    omega

/-- One append, as a step of a drawn statement: whatever cells are to be copied, some or none. -/
theorem step_row {ops : Array Oper} {o : Oper} {a : Act} {K : Act → World → Prop} {Q : Exit → Act → World → Prop} {E : Prop} (w : World) (t e : TypeId) (size bytes : Nat) (z : Value) (hgd : o.guard = none) (s x : Operand)
    (ho : o.op = .call { callee := .builtin .append, args := #[s, x], argTypes := #[t, t] }) (ht : Tryz.prog.underlying t = some (.slice e)) (hinfo : (Tryz.prog.info? e).map (fun i => (i.zero, i.size, i.bytes)) = some (some z, size, bytes)) (hzs : z.cells.size = size) (hsz : 0 < size) (hbs : bytes ≤ 1000)
    (B : Nat) (A : Option Addr) (n c : Nat) (ys : List Value) (hs : a.eval s = .slice A n c) (hown : w.ownsRow B e size (.slice A n c) n ys)
    (A2 : Option Addr) (m c2 : Nat) (zs : List Value) (hx : a.eval x = .slice A2 m c2) (hA2 : A2 = none → c2 = 0) (hl : zs.length = m * size) (hnews : ∀ ad, A2 = some ad → ∀ j u, zs[j]? = some u → w.cell? (ad.add j) = some u) (h0 : A2 = none → m = 0) (h1c : ∀ u ∈ zs, u.oneCell' = true)
    (h63 : n + m ≤ 1000000) (hB : B ≤ w.heap.size)
    (h : ∀ (A' : Option Addr) (c' : Nat) (w' : World), Hid (w'.ownsRow B e size (.slice A' (n + m) c') (n + m) (ys ++ zs)) → w.grownBy w' (Value.slice A n c).ownBlock → ((Value.slice A' (n + m) c').ownBlock = (Value.slice A n c).ownBlock ∨ ∃ ad, A' = some ad ∧ ad.block = w.heap.size) → K (a.put o.dst (.slice A' (n + m) c')) w') :
    if Region.wanted o (yielded ops a.tmps) = true then Oper.wp Tryz.prog o a w K Q else E := by
  obtain ⟨i0, hi0, hz0, hz1, hz2⟩ := info_parts hinfo
  have hw : Region.wanted o (yielded ops a.tmps) = true := by simp [Region.wanted, hgd]
  have hrefl : w.grownBy w (Value.slice A n c).ownBlock := World.grownBy.refl _ _
  cases A2 with
  | none =>
    obtain rfl := h0 rfl
    obtain rfl := hA2 rfl
    obtain rfl : zs = [] := List.length_eq_zero_iff.1 (by omega)
    rw [if_pos hw]
    have hrun := run_append_owned_none (P := Tryz.prog) w B t o.type e i0 size ht hi0 _ n ys hown
    unfold Oper.wp
    simp [execOp, ho, resolve, invoke, builtin, hs, hx, hrun, Result.andThen]
    exact h A c w (by show World.ownsRow _ _ _ _ _ _ _; simpa using hown) hrefl (.inl rfl)
  | some ad =>
    by_cases hm : m = 0
    · subst hm
      obtain rfl : zs = [] := List.length_eq_zero_iff.1 (by omega)
      rw [if_pos hw]
      have hr := run_append_nothing (P := Tryz.prog) w t t o.type e i0 ht hi0 A n c (own_fits hown) (.slice (some ad) 0 c2) (Src.ofSlice w ht ad 0 c2 [] (by simp) (by simp) (by simp))
      unfold Oper.wp execOp
      simp only [ho, resolve, invoke, builtin, Sem.run_bind, Sem.run_pure, Result.andThen_ok, List.map_toArray, List.map_cons, List.map_nil, hs, hx, hr]
      exact h A c w (by show World.ownsRow _ _ _ _ _ _ _; simpa using hown) hrefl (.inl rfl)
    · have hbb : (n + m) * bytes ≤ 140737488355328 := Nat.le_trans (Nat.mul_le_mul h63 hbs) (by decide)
      refine step_append_lies w hgd s x t ho B e i0 z size bytes ht hi0 hz0 hz1 hz2 hzs hsz _ n ys hs hown ad m c2 zs hx hl (hnews ad rfl) h1c (by omega) (by simp only [maxLen]; omega) hbb hB _ rfl ?_
      intro g cap w' h2 h3 h4 h5
      refine h (some ⟨g, 0, none⟩) cap w' h2 h3 ?_
      rcases h4 with x | x
      · exact .inl x.symm
      · exact .inr ⟨_, rfl, x⟩
end Go.Proofs.YtiiadkjiofkonaaGreat
