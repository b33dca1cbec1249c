/- How an own pool is kept while Free grows. What Reclaim's lists are, slot by slot. -/
import Derived.Test.YtfdbbfjnianahaaWalksT
import Derived.Deep.AppendLies
namespace Go.Proofs.Ytfdbbfjnianahaa
open Go.RowKit

theorem own_block_addr {A : Option Addr} {n c g : Nat} (h : (Value.slice A n c).ownBlock = some g) : ∃ a, A = some a ∧ a.block = g := by
  rcases A with _ | ⟨b, o, s⟩
  · simp [Value.ownBlock] at h
  · exact ⟨_, rfl, by simpa [Value.ownBlock] using h⟩

section
variable {u w2 : World} {B : Nat} {A0 A1 A2 A3 : Option Addr} {n0 n1 n2 n3 c0 c1 c2 c3 g' cap : Nat} {G S W F : List Int} {k : Int}

/-- A row that is not the one that grows. -/
theorem own_kept {A : Option Addr} {n c : Nat} {zs : List Int} (h : u.ownsRow B 3 1 (.slice A n c) n (ints zs)) (hg : u.grownBy w2 (Value.slice A3 n3 c3).ownBlock) (ap : Apart A A3) : w2.ownsRow B 3 1 (.slice A n c) n (ints zs) := by
  refine ⟨h.1, ?_⟩
  rcases h.2 with h0 | ⟨g, cap, cur, h1, hB, hgg, r⟩
  · exact .inl h0
  · refine .inr ⟨g, cap, cur, h1, hB, (hg.block g (Array.getElem?_eq_some_iff.1 hgg).1 fun e => ?_).trans hgg, r⟩
    simp only [Value.slice.injEq] at h1
    obtain ⟨a, ha, hb⟩ := own_block_addr e.symm
    exact ap _ _ h1.1 ha hb.symm

theorem apart_grown {A : Option Addr} {n c : Nat} {zs : List Int} (h : u.ownsRow B 3 1 (.slice A n c) n (ints zs)) (ap : Apart A A3) (hl : (Value.slice A3 n3 c3).ownBlock = some g' ∨ g' = u.heap.size) : Apart A (some ⟨g', 0, none⟩) := by
  intro a b ha hb
  simp only [Option.some.injEq] at hb
  subst hb
  rcases hl with h1 | rfl
  · obtain ⟨x, hx, hy⟩ := own_block_addr h1
    have := ap _ _ ha hx
    dsimp only
    omega
  · have := (own_addr h a ha).2
    dsimp only
    omega

theorem Owns.grown (h : Owns u B ⟨A0, A1, A2, A3, n0, n1, n2, n3, c0, c1, c2, c3⟩ ⟨G, S, W, F⟩) (hown : w2.ownsRow B 3 1 (.slice (some ⟨g', 0, none⟩) (n3 + 1) cap) (n3 + 1) (ints F ++ [.int .i64 k]))
    (hg : u.grownBy w2 (Value.slice A3 n3 c3).ownBlock) (hl : (Value.slice A3 n3 c3).ownBlock = some g' ∨ g' = u.heap.size) :
    Owns w2 B ⟨A0, A1, A2, some ⟨g', 0, none⟩, n0, n1, n2, n3 + 1, c0, c1, c2, cap⟩ ⟨G, S, W, F ++ [k]⟩ :=
  ⟨own_kept h.g hg h.gf, own_kept h.s hg h.sf, own_kept h.t hg h.tf, by simpa [ints] using hown, h.zg, h.zs, h.zt, (fun h => by cases h), h.gs, h.gt, apart_grown h.g h.gf hl, h.st, apart_grown h.s h.sf hl, apart_grown h.t h.tf hl⟩
end

/-- No row of q lies in block t. -/
def Off (q : Pl) (t : Nat) : Prop := (∀ a, q.A0 = some a → a.block ≠ t) ∧ (∀ a, q.A1 = some a → a.block ≠ t) ∧ (∀ a, q.A2 = some a → a.block ≠ t) ∧ (∀ a, q.A3 = some a → a.block ≠ t)
theorem Owns.off {u : World} {B t : Nat} {q : Pl} {P : PL} (h : Owns u B q P) (ht : u.heap.size ≤ t) : Off q t :=
  ⟨fun a ha => by have := (own_addr h.g a ha).2; omega, fun a ha => by have := (own_addr h.s a ha).2; omega, fun a ha => by have := (own_addr h.t a ha).2; omega, fun a ha => by have := (own_addr h.f a ha).2; omega⟩
theorem Owns.box {u : World} {B t : Nat} {q : Pl} {P : PL} (h : Owns u B q P) (ho : Off q t) (i : Nat) (v : Value) : Owns (u.setCell ⟨t, i, none⟩ v) B q P :=
  ⟨own_far h.g ho.1 _ _, own_far h.s ho.2.1 _ _, own_far h.t ho.2.2.1 _ _, own_far h.f ho.2.2.2 _ _, h.zg, h.zs, h.zt, h.zf, h.gs, h.gt, h.gf, h.st, h.sf, h.tf⟩

/-- A block that is not the row that grows. -/
theorem PBox.grown {u w2 : World} {g : Nat} {cs : Array Value} {A : Option Addr} {n c : Nat} (h : PBox u g cs) (hg : u.grownBy w2 (Value.slice A n c).ownBlock) (hA : ∀ a, A = some a → a.block ≠ g) : PBox w2 g cs := by
  refine (hg.block g h.lt fun e => ?_).trans h
  obtain ⟨a, ha, hb⟩ := own_block_addr e.symm
  exact hA a ha hb
theorem Two.grown {w u w2 : World} {cs : Array Value} {A : Option Addr} {n c : Nat} (h : Two w u cs) (hg : u.grownBy w2 (Value.slice A n c).ownBlock) (hA : ∀ a, A = some a → w.heap.size + 2 ≤ a.block) : Two w w2 cs := by
  refine ⟨h.1.grown hg h.1.size fun k hk => ?_, h.2.1.grown hg fun a ha => ?_, h.2.2.grown hg fun a ha => ?_⟩
  · obtain ⟨a, ha, hb⟩ := own_block_addr hk
    have := hA a ha
    omega
  · have := hA a ha
    omega
  · have := hA a ha
    omega

/- The lists. -/
theorem recP_len (P : PL) (upto : Int) (k : Nat) : (recP P upto k).G.length = P.G.length ∧ (recP P upto k).S.length = P.S.length ∧ (recP P upto k).W.length = P.W.length := by
  induction k with
  | zero => exact ⟨rfl, rfl, rfl⟩
  | succ k ih =>
    rw [recP]
    split
    · simpa [recOne] using ih
    · exact ih
theorem recP_later (P : PL) (upto : Int) (k : Nat) : ∀ j, k ≤ j → (recP P upto k).G.getD j 0 = P.G.getD j 0 ∧ (recP P upto k).S.getD j 0 = P.S.getD j 0 ∧ (recP P upto k).W.getD j 0 = P.W.getD j 0 := by
  induction k with
  | zero => exact fun j _ => ⟨rfl, rfl, rfl⟩
  | succ k ih =>
    intro j hj
    rw [recP]
    split
    · obtain ⟨a, b, c⟩ := ih j (by omega)
      refine ⟨?_, ?_, ?_⟩
      · rw [← a]; simp [recOne, List.getD_eq_getElem?_getD, show ¬ k = j by omega]
      · rw [← b]; simp [recOne, List.getD_eq_getElem?_getD, show ¬ k = j by omega]
      · rw [← c]; simp [recOne, List.getD_eq_getElem?_getD, show ¬ k = j by omega]
    · exact ih j (by omega)
theorem recC_le (P : PL) (upto : Int) (k : Nat) : recC P upto k ≤ k ∧ (recP P upto k).F.length = P.F.length + recC P upto k := by
  induction k with
  | zero => exact ⟨Nat.le_refl _, rfl⟩
  | succ k ih =>
    rw [recP, recC]
    split
    · simp [recOne]; omega
    · omega

end Go.Proofs.Ytfdbbfjnianahaa
