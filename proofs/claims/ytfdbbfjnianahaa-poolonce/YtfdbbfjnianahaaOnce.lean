/- Plain mathematics of PoolOnce: which references were told. -/
import Derived.Test.YtfdbbfjnianahaaWhole
namespace Go.Proofs.Ytfdbbfjnianahaa

/-- The references rs were told of Q, each once: each is of an elder generation than its slot's, or of a slot that is not free. -/
def Used (Q : PL) (rs : List Int) : Prop :=
  rs.Nodup ∧ ∀ r ∈ rs, ∃ (X : Nat) (g : Int), r = 1 + 1024 * g + (X : Int) ∧ X < Q.G.length ∧ 0 ≤ g ∧ (g < Q.G.getD X 0 ∨ (g = Q.G.getD X 0 ∧ Q.S.getD X 0 ≠ 0))

theorem used_take {Q : PL} (M : MayBe Q) {x : Int} {xs : List Int} (h : Q.F = x :: xs) {rs : List Int} (hu : Used Q rs) : takeR true Q ∉ rs ∧ Used (takeQ true Q) (rs ++ [takeR true Q]) := by
  have hq : takeQ true Q = ⟨Q.G, Q.S.set x.toNat 1, Q.W, xs⟩ := by simp [takeQ, h]
  have hr : takeR true Q = 1 + 1024 * Q.G.getD x.toNat 0 + x := by simp [takeR, h]
  obtain ⟨k1, k2, k3, k4, k5, k6, _⟩ := M
  rw [h] at k6
  obtain ⟨x1, x2, x3⟩ := k6 x (by simp)
  have hx : x.toNat < Q.S.length := by omega
  obtain ⟨g1, g2, _⟩ := k5 x.toNat (by omega)
  have hnot : takeR true Q ∉ rs := by
    intro hm
    obtain ⟨X, g, e, hX, hg, hc⟩ := hu.2 _ hm
    rw [hr] at e
    have e1 : X = x.toNat := by omega
    subst e1
    rcases hc with hc | ⟨_, hc⟩
    · omega
    · exact hc x3
  refine ⟨hnot, ?_, ?_⟩
  · refine List.nodup_append.2 ⟨hu.1, by simp, ?_⟩
    intro a ha b hb e
    obtain rfl : b = takeR true Q := by simpa using hb
    subst e
    exact hnot ha
  · intro r hrm
    rw [hq]
    dsimp only
    rcases List.mem_append.1 hrm with hm | hm
    · obtain ⟨X, g, e, hX, hg, hc⟩ := hu.2 r hm
      refine ⟨X, g, e, hX, hg, ?_⟩
      rw [get_set _ _ _ _ hx]
      by_cases hXx : X = x.toNat
      · subst hXx
        rw [if_pos rfl]
        rcases hc with hc | ⟨hc, hc'⟩
        · exact .inl hc
        · exact absurd x3 hc'
      · rw [if_neg hXx]
        exact hc
    · obtain rfl : r = takeR true Q := by simpa using hm
      refine ⟨x.toNat, Q.G.getD x.toNat 0, by rw [hr]; omega, by omega, by omega, .inr ⟨rfl, ?_⟩⟩
      rw [get_set _ _ _ _ hx, if_pos rfl]
      omega

theorem used_ret {Q : PL} (M : MayBe Q) {rs : List Int} (hu : Used Q rs) {r : Int} (z : Int) (h0 : retE true Q r = 0) : Used (retQ true Q r z) rs := by
  obtain ⟨a, b, c, d, _⟩ := ret_zero h0
  have hx : ((r - 1) % 1024).toNat < Q.S.length := by have := M.2.2.1; omega
  unfold retQ
  rw [if_pos h0]
  refine ⟨hu.1, fun y hy => ?_⟩
  obtain ⟨X, g, e, hX, hg, hc⟩ := hu.2 y hy
  refine ⟨X, g, e, hX, hg, ?_⟩
  dsimp only
  rcases hc with hc | ⟨hc, hc'⟩
  · exact .inl hc
  · refine .inr ⟨hc, ?_⟩
    rw [get_set _ _ _ _ hx]
    split
    · omega
    · exact hc'

theorem used_rec {Q : PL} (M : MayBe Q) {rs : List Int} (hu : Used Q rs) (upto : Int) : Used (recQ true Q upto) rs := by
  refine ⟨hu.1, fun y hy => ?_⟩
  obtain ⟨X, g, e, hX, hg, hc⟩ := hu.2 y hy
  refine ⟨X, g, e, by show X < (recP _ _ _).G.length; rw [(rec_len Q upto _).1]; exact hX, hg, ?_⟩
  rcases rec_cases M upto hX with ⟨_, v1, v2, _⟩ | ⟨_, v1, v2⟩
  · rw [v1]
    rcases hc with hc | ⟨hc, _⟩
    · exact .inl (by omega)
    · exact .inl (by omega)
  · rw [v1, v2]
    exact hc

theorem used_new (n : Nat) : Used (newP n) [] := ⟨by simp, fun r hr => by simp at hr⟩

end Go.Proofs.Ytfdbbfjnianahaa
