/- Words that the laws share. -/
import Derived.Test.YtfdbbfjnianahaaLive
import Derived.Test.YtfdbbfjnianahaaMath2
import Derived.Test.YtfdbbfjnianahaaGrown
import Derived.Deep.QuietTactic
import Derived.BigQuiet
import Derived.IntWalk
namespace Go.Proofs.Ytfdbbfjnianahaa
open Go.RowKit

/-- In world u block h is the box of a pool q, great or not, which reads as Q; what lay below w's end is as it was. -/
structure Keep (w u : World) (h : Nat) (q : Pl) (Q : PL) : Prop where
  bel : Below w.heap.size w u
  ge : w.heap.size ≤ h
  box : PBox u h q.cs
  reads : Reads u u.heap.size q Q
theorem Keep.step {w u u' : World} {h : Nat} {q : Pl} {Q : PL} (hs : Keep w u h q Q) (hb : Below u.heap.size u u') : Keep w u' h q Q :=
  ⟨next_call hs.bel (Nat.le_refl _) hb, hs.ge, hs.box.step hb, (hs.reads.below hb (Nat.le_refl _)).more hb.size⟩
theorem Keep.alloc {w u : World} {h : Nat} {q : Pl} {Q : PL} (hs : Keep w u h q Q) (o : Obj) : Keep w (u.alloc o) h q Q := hs.step ((Below.refl _ _).alloc (Nat.le_refl _) _)
/-- A pool that came in, behind its box. -/
theorem stand_in (w : World) (q : Pl) (Q : PL) (h : Reads w w.heap.size q Q) : Keep w (w.alloc (.cells q.cs 24)) w.heap.size q Q :=
  ⟨(Below.refl _ _).alloc (Nat.le_refl _) _, Nat.le_refl _, PBox.new w _, (h.below ((Below.refl _ _).alloc (Nat.le_refl _) _) (Nat.le_refl _)).more (by simp)⟩
/-- A pool that may be is not great. -/
theorem few_may {P : PL} (h : MayBe P) : Few P := by
  have hc := may_counts h
  obtain ⟨k1, k2, k3, k4, _⟩ := h
  have : P.S.count 0 ≤ P.S.length := List.count_le_length
  exact ⟨by omega, by omega, by omega, by omega⟩
theorem yes_may {P : PL} (h : MayBe P) : Hid (true = true ↔ MayBe P) := ⟨fun _ => h, fun _ => rfl⟩

/-- The lengths of a pool that may be. -/
theorem may_lens {u : World} {B : Nat} {A0 A1 A2 A3 : Option Addr} {n0 n1 n2 n3 c0 c1 c2 c3 : Nat} {G S W F : List Int} (R : Reads u B ⟨A0, A1, A2, A3, n0, n1, n2, n3, c0, c1, c2, c3⟩ ⟨G, S, W, F⟩) (M : MayBe ⟨G, S, W, F⟩) :
    n1 = n0 ∧ n2 = n0 ∧ 1 ≤ n0 ∧ n0 ≤ 64 ∧ n3 ≤ 64 ∧ G.length = n0 ∧ S.length = n0 ∧ W.length = n0 ∧ F.length = n3 := by
  have hc := may_counts M
  obtain ⟨k1, k2, k3, k4, _⟩ := M
  have h1 := R.g.1
  have h2 := R.s.1
  have h3 := R.t.1
  have h4 := R.f.1
  dsimp only at hc k1 k2 k3 k4 h1 h2 h3 h4
  omega

theorem ret_bad {P : PL} {r : Int} (h : r < 1 ∨ 1125899906842624 < r) (z : Int) : retE true P r = 1 ∧ retQ true P r z = noP := by
  have e : retE true P r = 1 := by
    unfold retE
    rw [if_pos (by omega)]
  exact ⟨e, by unfold retQ; rw [e]; simp⟩
theorem ret_far {P : PL} {r : Int} {X : Nat} (hX : (r - 1) % 1024 = (X : Int)) (h : P.G.length ≤ X) (z : Int) : retE true P r = 1 ∧ retQ true P r z = noP := by
  have e : retE true P r = 1 := by
    unfold retE
    rw [if_pos (by rw [hX]; omega)]
  exact ⟨e, by unfold retQ; rw [e]; simp⟩
theorem ret_other {P : PL} {r g : Int} {X : Nat} (h1 : 1 ≤ r) (h2 : r ≤ 1125899906842624) (hX : (r - 1) % 1024 = (X : Int)) (hg : (r - 1) / 1024 = g) (h : X < P.G.length) (hn : ¬ (P.S.getD X 0 = 1 ∧ P.G.getD X 0 = g)) (z : Int) : retE true P r = 2 ∧ retQ true P r z = noP := by
  have e : retE true P r = 2 := by
    unfold retE
    rw [if_neg (by rw [hX]; simp; omega), if_pos]
    rw [hX, hg, Int.toNat_natCast]
    by_cases h : P.S.getD X 0 = 1
    · exact .inr fun h' => hn ⟨h, h'⟩
    · exact .inl h
  exact ⟨e, by unfold retQ; rw [e]; simp⟩
theorem ret_good {P : PL} {r g : Int} {X : Nat} (h1 : 1 ≤ r) (h2 : r ≤ 1125899906842624) (hX : (r - 1) % 1024 = (X : Int)) (hg : (r - 1) / 1024 = g) (h : X < P.G.length) (hs : P.S.getD X 0 = 1) (hgn : P.G.getD X 0 = g) (z : Int) :
    retE true P r = 0 ∧ retQ true P r z = ⟨P.G, P.S.set X 2, P.W.set X z, P.F⟩ := by
  have e : retE true P r = 0 := by
    unfold retE
    rw [if_neg (by rw [hX]; simp; omega), if_neg]
    rw [hX, hg, Int.toNat_natCast]
    exact fun h => h.elim (fun h => h hs) (fun h => h hgn)
  exact ⟨e, by unfold retQ; rw [e, if_pos rfl, hX, Int.toNat_natCast]⟩

theorem stale {P : PL} {r : Int} {X : Nat} (M : MayBe P) (h1 : 1 ≤ r) (h2 : r ≤ 1125899906842624) (hX : (r - 1) % 1024 = (X : Int)) (h : X < P.G.length) (hs : P.S.getD X 0 = 1) (z upto : Int) :
    MayBe ⟨P.G, P.S.set X 2, P.W.set X z, P.F⟩ ∧ retE true ⟨P.G, P.S.set X 2, P.W.set X z, P.F⟩ r = 2 ∧ MayBe (recQ true ⟨P.G, P.S.set X 2, P.W.set X z, P.F⟩ upto) ∧ retE true (recQ true ⟨P.G, P.S.set X 2, P.W.set X z, P.F⟩ upto) r = 2 := by
  have M1 := may_retire (z := z) M h hs
  have M2 := may_reclaim M1 upto
  have lS : X < P.S.length := by have := M.2.2.1; omega
  refine ⟨M1, ret_none h1 h2 (by show _ < (P.G.length : Int); omega) ?_, M2, ?_⟩
  · show (P.S.set X 2).getD _ 0 ≠ 1
    rw [hX, Int.toNat_natCast, get_set _ _ _ _ lS, if_pos rfl]
    omega
  · have l := rec_len ⟨P.G, P.S.set X 2, P.W.set X z, P.F⟩ upto P.G.length
    have at' := rec_at ⟨P.G, P.S.set X 2, P.W.set X z, P.F⟩ upto M1.2.2.1 M1.2.2.2.1 P.G.length (Nat.le_refl _) X
    refine ret_none h1 h2 (by show _ < ((recP _ _ P.G.length).G.length : Int); rw [l.1]; dsimp only; omega) ?_
    show (recP _ _ P.G.length).S.getD _ 0 ≠ 1
    rw [hX, Int.toNat_natCast, at'.2.1]
    dsimp only
    rw [get_set _ _ _ _ lS, if_pos rfl]
    split <;> omega


/-- How many what Reclaim tells has of each. -/
theorem rec_told {u : World} {B : Nat} {q : Pl} {P : PL} {upto : Int} (M : MayBe P) (h : Told4 u B q (recQ true P upto)) : q.n0 = P.G.length ∧ q.n1 = P.G.length ∧ q.n3 = P.F.length + recC P upto P.G.length ∧ recC P upto P.G.length ≤ P.G.length := by
  have l := rec_len P upto P.G.length
  have c := recC_le P upto P.G.length
  have h1 : (recP P upto P.G.length).G.length = q.n0 := h.g.1
  have h2 : (recP P upto P.G.length).S.length = q.n1 := h.s.1
  have h3 : (recP P upto P.G.length).F.length = q.n3 := h.f.1
  have := M.2.2.1
  omega

/-- A slot that was reclaimed, and one that was not. -/
theorem rec_cases {P : PL} (M : MayBe P) (upto : Int) {k : Nat} (hk : k < P.G.length) :
    (Due P upto k ∧ (recQ true P upto).G.getD k 0 = P.G.getD k 0 + 1 ∧ (recQ true P upto).S.getD k 0 = 0 ∧ P.S.getD k 0 = 2 ∧ P.W.getD k 0 ≤ upto ∧ P.G.getD k 0 < 1099511627775 ∧ 0 ≤ P.G.getD k 0) ∨
    (¬ Due P upto k ∧ (recQ true P upto).G.getD k 0 = P.G.getD k 0 ∧ (recQ true P upto).S.getD k 0 = P.S.getD k 0) := by
  have h := rec_at P upto M.2.2.1 M.2.2.2.1 P.G.length (Nat.le_refl _) k
  by_cases hd : Due P upto k
  · rw [if_pos ⟨hk, hd⟩, if_pos ⟨hk, hd⟩] at h
    exact .inl ⟨hd, h.1, h.2.1, hd.1, hd.2.1, hd.2.2, (M.2.2.2.2.1 k hk).1⟩
  · rw [if_neg (fun h => hd h.2), if_neg (fun h => hd h.2)] at h
    exact .inr ⟨hd, h.1, h.2.1⟩

end Go.Proofs.Ytfdbbfjnianahaa
