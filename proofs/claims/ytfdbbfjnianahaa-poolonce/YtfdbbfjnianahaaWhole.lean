/- Words for PoolWhole and PoolOnce: a pool in a box, and the references that were told. -/
import Derived.Test.YtfdbbfjnianahaaLaw
import Derived.Test.YtfdbbfjnianahaaWalksX
import Derived.Deep.RegionHeld3
import Derived.Deep.DeepCutAuto
import Derived.Deep.CutRange
namespace Go.Proofs.Ytfdbbfjnianahaa
open Go.RowKit
set_option linter.unusedVariables false

theorem Row.grown {u w2 : World} {B n m c : Nat} {A A' : Option Addr} {zs : List Int} (h : Row u B A' n zs) (hg : u.grownBy w2 (Value.slice A m c).ownBlock) (hA : ∀ a, A = some a → a.block < B) : Row w2 B A' n zs :=
  ⟨h.1, fun hn => by
    obtain ⟨g, off, cs, e, hB, hgg, hc⟩ := h.2 hn
    refine ⟨g, off, cs, e, hB, (hg.block g (Array.getElem?_eq_some_iff.1 hgg).1 fun e => ?_).trans hgg, hc⟩
    obtain ⟨a, ha, hb⟩ := own_block_addr e.symm
    have := hA a ha
    omega⟩
theorem Told4.grown {u w2 : World} {B m c : Nat} {A : Option Addr} {q : Pl} {Q : PL} (h : Told4 u B q Q) (hg : u.grownBy w2 (Value.slice A m c).ownBlock) (hA : ∀ a, A = some a → a.block < B) : Told4 w2 B q Q :=
  ⟨h.g.grown hg hA, h.s.grown hg hA, h.t.grown hg hA, h.f.grown hg hA, h.zg, h.zs, h.zt, h.zf⟩

/-- The pool q stands in box h; the slice at A is the call's own and holds the references rs. -/
structure Wh (w u : World) (h : Nat) (q : Pl) (Q : PL) (A : Option Addr) (m c : Nat) (rs : List Int) : Prop where
  st : Stand w u h q Q
  own : u.ownsRow w.heap.size 3 1 (.slice A m c) m (ints rs)
  off : ∀ a, A = some a → a.block ≠ h

section
variable {w u u' : World} {h : Nat} {q q' : Pl} {Q Q' : PL} {A : Option Addr} {m c : Nat} {rs : List Int}
theorem Wh.step (x : Wh w u h q Q A m c rs) (hb : Below u.heap.size u u') : Wh w u' h q Q A m c rs := ⟨x.st.step hb, own_below x.own hb, x.off⟩
theorem Wh.alloc (x : Wh w u h q Q A m c rs) (o : Obj) : Wh w (u.alloc o) h q Q A m c rs := x.step ((Below.refl _ _).alloc (Nat.le_refl _) _)
theorem own_put (x : u.ownsRow w.heap.size 3 1 (.slice A m c) m (ints rs)) (ho : ∀ a, A = some a → a.block ≠ h) : (World.put u h q').ownsRow w.heap.size 3 1 (.slice A m c) m (ints rs) :=
  own_far (own_far (own_far (own_far x ho _ _) ho _ _) ho _ _) ho _ _
/-- A told pool is laid into the box. -/
theorem Wh.put (x : Wh w u h q Q A m c rs) (ht : Told4 u' u.heap.size q' Q') (hb : Below u.heap.size u u') (hf : Few Q') : Wh w (World.put u' h q') h q' Q' A m c rs :=
  ⟨x.st.next ht hb hf, own_put (own_below x.own hb) x.off, x.off⟩
theorem Wh.lay {B : Nat} (x : Wh w u h q Q A m c rs) (ht : Told4 u B q' Q') (hB : h < B) (hf : Few Q') : Wh w (World.put u h q') h q' Q' A m c rs :=
  ⟨⟨set4_below x.st.bel x.st.ge _ _ _ _, x.st.ge, set4_box x.st.box _ _ _ _, (ht.set4 hB _ _ _ _).reads, ht.small hf⟩, own_put x.own x.off, x.off⟩
/-- A reference is laid behind the others. -/
theorem Wh.grow {w2 : World} {B g' cap : Nat} {r : Int} (x : Wh w u h q Q A m c rs) (T : Told4 u B q Q) (hA : ∀ a, A = some a → a.block < B) (hown : w2.ownsRow w.heap.size 3 1 (.slice (some ⟨g', 0, none⟩) (m + 1) cap) (m + 1) (ints rs ++ [.int .i64 r]))
    (hg : u.grownBy w2 (Value.slice A m c).ownBlock) (hl : (Value.slice A m c).ownBlock = some g' ∨ g' = u.heap.size) : Wh w w2 h q Q (some ⟨g', 0, none⟩) (m + 1) cap (rs ++ [r]) := by
  refine ⟨⟨x.st.bel.grown hg x.st.bel.size fun k hk => ?_, x.st.ge, x.st.box.grown hg x.off, (T.grown hg hA).reads, x.st.small⟩, by simpa [ints] using hown, fun a ha => ?_⟩
  · obtain ⟨a, ha, hb⟩ := own_block_addr hk
    have := (own_addr x.own a ha).1
    omega
  · simp only [Option.some.injEq] at ha
    subst ha
    dsimp only
    rcases hl with h1 | rfl
    · obtain ⟨a, ha, hb⟩ := own_block_addr h1
      have := x.off a ha
      omega
    · have := x.st.box.lt
      omega
end

/-- Behind Retire's statement: all as before, and the told pool in a box of its own. -/
structure Af (w u : World) (h : Nat) (q : Pl) (Q : PL) (A : Option Addr) (m c : Nat) (rs : List Int) (hb : Nat) (q' : Pl) (Q' : PL) : Prop where
  wh : Wh w u h q Q A m c rs
  box : PBox u hb q'.cs
  told : ∃ B, Told4 u B q' Q' ∧ h < B

section
variable {w u u1 : World} {h : Nat} {q q' : Pl} {Q Q' : PL} {A : Option Addr} {m c : Nat} {rs : List Int}
theorem below_al {o : Obj} (hb : Below u.heap.size u u1) : Below u.heap.size u (u1.alloc o) := hb.alloc hb.size o
theorem box_before (b : Below (u.drew.alloc (.cells zeros4 24)).heap.size (u.drew.alloc (.cells zeros4 24)) u1) : PBox u1 u.heap.size zeros4 :=
  (b.block u.heap.size (by show _ < (u.alloc _).heap.size; simp)).trans (heap_alloc_new u _)
theorem below_before (b : Below (u.drew.alloc (.cells zeros4 24)).heap.size (u.drew.alloc (.cells zeros4 24)) u1) : Below u.heap.size u u1 :=
  (((Below.refl u.heap.size u).drew).alloc (Nat.le_refl _) (.cells zeros4 24)).trans (b.mono (by show _ ≤ (u.alloc _).heap.size; simp))
/-- The box was laid ahead of the call. -/
theorem af_before (x : Wh w u h q Q A m c rs) (b : Below (u.drew.alloc (.cells zeros4 24)).heap.size (u.drew.alloc (.cells zeros4 24)) u1) (t : Told4 u1 (u.drew.alloc (.cells zeros4 24)).heap.size q' Q') : Af w (World.put u1 u.heap.size q') h q Q A m c rs u.heap.size q' Q' := by
  have hs : (u.drew.alloc (.cells zeros4 24)).heap.size = u.heap.size + 1 := by show (u.alloc _).heap.size = _; simp
  refine ⟨x.step (set4_below (below_before b) (Nat.le_refl _) _ _ _ _), set4_box (box_before b) _ _ _ _, _, t.set4 (by omega) _ _ _ _, ?_⟩
  have := x.st.box.lt
  omega
/-- .. behind it. -/
theorem af_behind (x : Wh w u h q Q A m c rs) (b : Below u.drew.heap.size u.drew u1) (t : Told4 u1 u.drew.heap.size q' Q') : Af w (u1.alloc (.cells q'.cs 24)) h q Q A m c rs u1.heap.size q' Q' := by
  have b' : Below u.heap.size u u1 := (Below.refl u.heap.size u).drew.trans b
  exact ⟨(x.step b').alloc _, PBox.new u1 _, _, t.below ((Below.refl _ _).alloc (Nat.le_refl _) _), x.st.box.lt⟩
end

/-- A reference of one of n slots. -/
def Good (n : Nat) (r : Int) : Prop := 1 ≤ r ∧ r ≤ 1125899906842624 ∧ (r - 1) % 1024 < (n : Int)

theorem take_full {Q : PL} (h : Q.F = []) : takeE true Q = 3 ∧ takeQ true Q = noP := by
  simp [takeE, takeQ, h]
theorem take_good {Q : PL} {n : Nat} (M : MayBe Q) (hn : Q.G.length = n) {x : Int} {xs : List Int} (h : Q.F = x :: xs) : takeE true Q = 0 ∧ MayBe (takeQ true Q) ∧ (takeQ true Q).G.length = n ∧ Good n (takeR true Q) := by
  have hq : takeQ true Q = ⟨Q.G, Q.S.set x.toNat 1, Q.W, xs⟩ := by simp [takeQ, h]
  have hr : takeR true Q = 1 + 1024 * Q.G.getD x.toNat 0 + x := by simp [takeR, h]
  refine ⟨by simp [takeE, h], by rw [hq]; exact may_take M h, by rw [hq]; exact hn, ?_⟩
  obtain ⟨k1, k2, k3, k4, k5, k6, _⟩ := M
  rw [h] at k6
  obtain ⟨x1, x2, _⟩ := k6 x (by simp)
  obtain ⟨g1, g2, _⟩ := k5 x.toNat (by omega)
  rw [hr]
  exact ⟨by omega, by omega, by omega⟩
theorem ret_either {Q : PL} {n : Nat} (M : MayBe Q) (hn : Q.G.length = n) {r : Int} (hr : Good n r) (z : Int) : (retE true Q r = 0 ∧ MayBe (retQ true Q r z) ∧ (retQ true Q r z).G.length = n) ∨ (retE true Q r = 2 ∧ retQ true Q r z = noP) := by
  obtain ⟨h1, h2, h3⟩ := hr
  by_cases hk : retE true Q r = 0
  · refine .inl ⟨hk, may_retQ M hk, ?_⟩
    unfold retQ
    rw [if_pos hk]
    exact hn
  · refine .inr ⟨?_, by unfold retQ; rw [if_neg hk]⟩
    unfold retE at hk ⊢
    rw [if_neg (by simp; omega)] at hk ⊢
    split at hk
    · rw [if_pos (by assumption)]
    · exact absurd rfl hk
theorem rec_good {Q : PL} {n : Nat} (M : MayBe Q) (hn : Q.G.length = n) (upto : Int) : MayBe (recQ true Q upto) ∧ (recQ true Q upto).G.length = n :=
  ⟨may_reclaim M upto, by show (recP _ _ _).G.length = _; rw [(rec_len Q upto _).1, hn]⟩
theorem cnt_good {Q : PL} {n : Nat} (M : MayBe Q) (hn : Q.G.length = n) : cnt true Q.S 1 + cnt true Q.S 2 + cnt true Q.S 0 = (n : Int) ∧ cnt true Q.S 0 = (Q.F.length : Int) ∧ 0 ≤ cnt true Q.S 1 ∧ 0 ≤ cnt true Q.S 2 ∧ cnt true Q.S 1 ≤ 64 ∧ cnt true Q.S 2 ≤ 64 ∧ cnt true Q.S 0 ≤ 64 ∧ 0 ≤ cnt true Q.S 0 := by
  have h := may_counts M
  have := M.2.1
  simp only [cnt, if_true]
  omega
theorem new_good {n : Nat} (h1 : 1 ≤ n) (h2 : n ≤ 64) : MayBe (newP n) ∧ (newP n).G.length = n := by
  refine ⟨⟨by simpa [newP] using h1, by simpa [newP] using h2, by simp [newP], by simp [newP], fun k hk => ?_, fun x hx => ?_, ?_, fun k hk _ => ?_⟩, by simp [newP]⟩
  · have hk' : k < n := by simpa [newP] using hk
    simp [newP, SlotOk, List.getD_eq_getElem?_getD, hk']
  · simp only [newP, List.mem_map, List.mem_range] at hx
    obtain ⟨i, hi, rfl⟩ := hx
    simp [newP, List.getD_eq_getElem?_getD, hi]
  · simp only [newP]
    exact List.Pairwise.map _ (fun a b h e => h (by omega)) List.nodup_range
  · have hk' : k < n := by simpa [newP] using hk
    simp only [newP, List.mem_map, List.mem_range]
    exact ⟨k, hk', rfl⟩

end Go.Proofs.Ytfdbbfjnianahaa
