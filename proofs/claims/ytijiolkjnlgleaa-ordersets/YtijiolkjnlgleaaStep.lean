/- A list of numbers, lengthened by some or by none, in a statement whose order is drawn; and where a list is cut. -/
import Derived.Test.YtijiolkjnlgleaaLaws
import Derived.Deep.AppendLies
import Derived.Deep.Upon
import Derived.Deep.AppendSrc
import Derived.Deep.RegionHeld3
namespace Go.Proofs.Ytijiolkjnlgleaa
open Go.Joins Go.ChangeShapes Go.WideShapes Go.ChangeAt Go.RowKit Go.Deep
set_option linter.unusedVariables false

theorem step_app {ops : Array Oper} {o : Oper} {a : Act} {K : Act → World → Prop} {Q : Exit → Act → World → Prop} {E : Prop} (w : World) (hgd : o.guard = none) (s x : Operand)
    (ho : o.op = .call { callee := .builtin .append, args := #[s, x], argTypes := #[22, 22] })
    (B : Nat) (A : Option Addr) (n c : Nat) (ys : List Int) (hs : a.eval s = .slice A n c) (hown : w.ownsRow B 3 1 (.slice A n c) n (ints ys))
    (ad : Addr) (m c2 : Nat) (zs : List Int) (hx : a.eval x = .slice (some ad) m c2) (hl : zs.length = m) (hnews : ∀ j u, (ints zs)[j]? = some u → w.cell? (ad.add j) = some u)
    (h63 : n + m ≤ 1000) (hB : B ≤ w.heap.size)
    (h : ∀ (A' : Option Addr) (c' : Nat) (w' : World), Hid (w'.ownsRow B 3 1 (.slice A' (n + m) c') (n + m) (ints (ys ++ zs))) → Hid (Below B w w') → K (a.put o.dst (.slice A' (n + m) c')) w') :
    if Region.wanted o (yielded ops a.tmps) = true then Oper.wp Try.prog o a w K Q else E := by
  obtain ⟨i0, hi0, hz0, hz1, hz2⟩ := info_parts Try.info3
  by_cases hm : m = 0
  · subst hm
    obtain rfl : zs = [] := List.length_eq_zero_iff.1 (by omega)
    have hw : Region.wanted o (yielded ops a.tmps) = true := by simp [Region.wanted, hgd]
    rw [if_pos hw]
    have hf : n ≤ c := by
      rcases hown.2 with ⟨h1, h2⟩ | ⟨g, cap, cur, h1, _, _, h3, _⟩
      · omega
      · injection h1 with _ _ e
        omega
    have hr := run_append_nothing (P := Try.prog) w 22 22 o.type 3 i0 Try.underlying22 hi0 A n c hf (.slice (some ad) 0 c2) (Src.ofSlice w Try.underlying22 ad 0 c2 [] (by simp) (by simp) (by simp))
    unfold Oper.wp execOp
    simp only [ho, resolve, invoke, builtin, Sem.run_bind, Sem.run_pure, Result.andThen_ok, List.map_toArray, List.map_cons, List.map_nil, hs, hx, hr]
    exact h A c w (by show World.ownsRow _ _ _ _ _ _ _; simpa using hown) (Below.refl _ _)
  · refine step_append_lies w hgd s x 22 ho B 3 i0 (.int .i64 0) 1 8 Try.underlying22 hi0 hz0 hz1 hz2 rfl (by decide) _ n (ints ys) hs hown ad m c2 (ints zs) hx (by simp [hl]) hnews (ints_oneCell _ _) (by omega) (by simp only [maxLen]; omega) (by omega) hB _ rfl ?_
    intro g cap w' h2 h3 h4 h5
    exact h (some ⟨g, 0, none⟩) cap w' (by show World.ownsRow _ _ _ _ _ _ _; simpa using h2) ((Below.refl _ _).grown h3 hB fun j ej => (hown.lt j ej).1)

theorem own_turn {u : World} {B m k c : Nat} {A : Option Addr} {xs ys : List Int} (h : u.ownsRow B 3 1 (.slice A (0 + m + k) c) (0 + m + k) (ints ([] ++ xs ++ ys))) : u.ownsRow B 3 1 (.slice A (m + k) c) (m + k) (ints (xs ++ ys)) := by
  rw [Nat.zero_add, List.nil_append] at h
  exact h

section
variable {u : World} {b off n k B : Nat} {zs : List Int}
/-- The cells from k on. -/
theorem news_drop (h : Nums u B 1 (some ⟨b, off, none⟩) n zs) (hk : k ≤ n) : ∀ j v, (ints (zs.drop k))[j]? = some v → u.cell? ((⟨b, off + k, none⟩ : Addr).add j) = some v := by
  intro j v hv
  have hl := h.1
  have hj : j < (zs.drop k).length := by have := (List.getElem?_eq_some_iff.1 hv).1; simpa using this
  rw [List.length_drop] at hj
  obtain ⟨b', off', e, _, hc⟩ := h.at_ (k := k + j) (by omega)
  simp only [Option.some.injEq, Addr.mk.injEq, and_true] at e
  obtain ⟨rfl, rfl⟩ := e
  rw [Addr.add_lit, Nat.add_assoc, hc, ← hv]
  simp [show k + j < zs.length by omega]
/-- The first k cells. -/
theorem news_take (h : Nums u B 1 (some ⟨b, off, none⟩) n zs) (hk : k ≤ n) : ∀ j v, (ints (zs.take k))[j]? = some v → u.cell? ((⟨b, off, none⟩ : Addr).add j) = some v := by
  intro j v hv
  have hl := h.1
  have hj : j < (zs.take k).length := by have := (List.getElem?_eq_some_iff.1 hv).1; simpa using this
  rw [List.length_take] at hj
  obtain ⟨b', off', e, _, hc⟩ := h.at_ (k := j) (by omega)
  simp only [Option.some.injEq, Addr.mk.injEq, and_true] at e
  obtain ⟨rfl, rfl⟩ := e
  rw [Addr.add_lit, hc, ← hv]
  have h1 : j < zs.length := by omega
  have h2 : j < k := by omega
  simp [h1, h2]
end

/-- By how many the list is turned. -/
theorem turn_k (a : Int) (n : Nat) (h1 : 1 ≤ n) (h2 : n ≤ 200) : ∃ k : Nat, k < n ∧ (wrap64 (a.tmod n + n)).tmod n = (k : Int) := by
  have b1 : a.tmod n < n := Int.tmod_lt_of_pos a (by omega)
  have b2 : -(n : Int) < a.tmod n := by
    have := Int.tmod_lt_of_pos (-a) (b := (n : Int)) (by omega)
    rw [Int.neg_tmod] at this
    omega
  have e : wrap64 (a.tmod n + n) = a.tmod n + n := by unfold wrap64; omega
  rw [e, Int.tmod_eq_emod_of_nonneg (by omega)]
  have h3 := Int.emod_nonneg (a.tmod n + n) (b := (n : Int)) (by omega)
  have h4 := Int.emod_lt_of_pos (a.tmod n + n) (b := (n : Int)) (by omega)
  exact ⟨((a.tmod n + n) % n).toNat, by omega, by omega⟩
end Go.Proofs.Ytijiolkjnlgleaa
