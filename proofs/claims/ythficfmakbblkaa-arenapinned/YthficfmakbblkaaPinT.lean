/- A step that retires: what stands as the lists that were seen are gone through. -/
import Derived.Test.YthficfmakbblkaaPinS
namespace Go.Proofs.Ythficfmakbblkaa
open Go.Joins Go.ChangeShapes Go.WideShapes Go.ChangeAt Go.RowKit Go.Deep
open Pool (Pl PL MayBe noP noPl Drew Told4 Row upd ints)
set_option linter.unusedVariables false
set_option maxRecDepth 100000

theorem own_as54 {u : World} {B k : Nat} {v : Sl} {xs : List Value} (h : u.ownsRow B 54 2 v.val k xs) (e : v.n = k) : u.ownsRow B 54 2 v.val v.n xs := by rw [e]; exact h
theorem news_step {u u' : World} {b o B : Nat} {L : List Value} (h : ∀ j v, L[j]? = some v → u.cell? ((⟨b, o, none⟩ : Addr).add j) = some v) (hb : Below B u u') (hB : b < B) : ∀ j v, L[j]? = some v → u'.cell? ((⟨b, o, none⟩ : Addr).add j) = some v := fun j v hj => by
  have h1 := h j v hj
  rw [Addr.add_lit] at h1 ⊢
  exact (hb.cell (p := ⟨b, o + j, none⟩) hB).trans h1
theorem cut_list {C0 : List (Int × Int)} {a ln : Nat} (hl : ln = C0.length) : ([] ++ ints (flat ((C0.drop 0).take a))) ++ ints (flat ((C0.drop (a + 1)).take (ln - (a + 1)))) = ints (flat (C0.eraseIdx a)) := by
  rw [List.eraseIdx_eq_take_drop_succ, flat_append, List.take_of_length_le (l := C0.drop (a + 1)) (by simp; omega)]
  unfold ints
  simp
theorem cut_last {C0 : List (Int × Int)} {a : Nat} (hl : a + 1 = C0.length) : ([] ++ ints (flat ((C0.drop 0).take a))) ++ [] = ints (flat (C0.eraseIdx a)) := by
  have e : C0.drop (a + 1) = [] := List.drop_of_length_le (by omega)
  rw [List.eraseIdx_eq_take_drop_succ, e]
  simp

section
variable {w u u' wr : World} {h g9 g10 TN : Nat} {s s' : Sh} {X X' : SL} {pb : List Bool} {R R' : Nat → Sl} {C C' : Nat → List (Int × Int)} {j k gx : Nat} {p : Int × Int} {sl : Int} {v2 : Sl} {L : List (Int × Int)}
theorem Pn.cut {m : Nat} {xs : List Value} (P : Pn w u h g9 g10 TN s X pb R C) (b : Below u.heap.size u u') (e : v2.n = m) (o : u'.ownsRow u.heap.size 54 2 v2.val m xs) (hx : xs = ints (flat L)) : Pn w u' h g9 g10 TN s X pb (upd R 0 v2) (upd C 0 L) :=
  P.turn0 b (by rw [e, ← hx]; exact o)

/-- The lists of the first k threads were gone through. -/
structure Gt (w u : World) (h g9 g10 TN : Nat) (s : Sh) (X : SL) (pb : List Bool) (C : Nat → List (Int × Int)) (j gx : Nat) (p : Int × Int) (sl : Int) (v2 : Sl) (L : List (Int × Int)) (k : Nat) (R' : Nat → Sl) (C' : Nat → List (Int × Int)) : Prop where
  pn : Pn w u h g9 g10 TN s X pb R' C'
  r0 : R' 0 = v2
  c0 : C' 0 = L
  sn : ((List.range TN).map fun i => C' (i + 1)) = addS pb ((List.range TN).map fun i => C (i + 1)) (p.1, sl) k
  keep : ∀ i, k ≤ i → C' (i + 1) = C (i + 1)
  few : ∀ i, (C' i).length ≤ j + 1
  off : ∀ i, i < TN + 1 → ∀ a, (R' i).A = some a → a.block ≠ gx
  bx : u.heap[gx]? = some (.cells #[.int .i64 p.1, .int .i64 p.2] 54 (0, 0))

theorem off_first {x2 : World} {m : Nat} {xs : List Value} (P : Pn w wr h g9 g10 TN s X pb R C) (o : Obj) (hown : x2.ownsRow (wr.alloc o).heap.size 54 2 v2.val m xs) : ∀ i, i < TN + 1 → ∀ a, (upd R 0 v2 i).A = some a → a.block ≠ wr.heap.size := fun i hi a ha => by
  by_cases e : i = 0
  · subst e
    rw [Pool.upd_same] at ha
    have h1 := (own_blk (w := wr.alloc o) hown ha).1
    simp at h1
    omega
  · rw [Pool.upd_other _ _ e] at ha
    have := P.lR hi ha
    omega
theorem Gt.first (P : Pn w u h g9 g10 TN s X pb (upd R 0 v2) (upd C 0 L)) (hoff : ∀ i, i < TN + 1 → ∀ a, (upd R 0 v2 i).A = some a → a.block ≠ gx) (hb : u.heap[gx]? = some (.cells #[.int .i64 p.1, .int .i64 p.2] 54 (0, 0))) (hf : ∀ i, (C i).length ≤ j) (hL : L.length ≤ j) :
    Gt w u h g9 g10 TN s X pb C j gx p sl v2 L 0 (upd R 0 v2) (upd C 0 L) :=
  ⟨P, Pool.upd_same _ _ _, Pool.upd_same _ _ _, (seen_zero C TN L).symm, fun i _ => Pool.upd_other _ _ (by omega), fun i => by
    by_cases e : i = 0
    · subst e; rw [Pool.upd_same]; omega
    · rw [Pool.upd_other _ _ e]; have := hf i; omega, hoff, hb⟩
theorem Gt.skip (T : Gt w u h g9 g10 TN s X pb C j gx p sl v2 L k R' C') (hp : pb.getD k false = false) : Gt w u h g9 g10 TN s X pb C j gx p sl v2 L (k + 1) R' C' :=
  ⟨T.pn, T.r0, T.c0, by rw [addS, if_neg (by rw [hp]; decide)]; exact T.sn, fun i hi => T.keep i (by omega), T.few, T.off, T.bx⟩
theorem Gt.step (T : Gt w u h g9 g10 TN s X pb C j gx p sl v2 L k R' C') (b : Below u.heap.size u u') : Gt w u' h g9 g10 TN s X pb C j gx p sl v2 L k R' C' :=
  ⟨T.pn.step b, T.r0, T.c0, T.sn, T.keep, T.few, T.off, (b.block gx (Array.getElem?_eq_some_iff.1 T.bx).1).trans T.bx⟩
theorem Gt.add {g' cap m : Nat} (T : Gt w u h g9 g10 TN s X pb C j gx p sl v2 L k R' C') (hk : k < TN) (hp : pb.getD k false = true) (hf : ∀ i, (C i).length ≤ j)
    (hown : u'.ownsRow w.heap.size 54 2 (.slice (some ⟨g', 0, none⟩) m cap) m (ints (flat (C' (k + 1))) ++ [.int .i64 p.1, .int .i64 sl]))
    (hg : u.grownBy u' (R' (k + 1)).val.ownBlock) (hl : (R' (k + 1)).val.ownBlock = some g' ∨ g' = u.heap.size) :
    Gt w (u'.setCell ⟨g9, k, none⟩ (.slice (some ⟨g', 0, none⟩) m cap)) h g9 g10 TN s X pb C j gx p sl v2 L (k + 1) (upd R' (k + 1) ⟨some ⟨g', 0, none⟩, m, cap⟩) (upd C' (k + 1) (C' (k + 1) ++ [(p.1, sl)])) := by
  have e : ints (flat (C' (k + 1))) ++ [.int .i64 p.1, .int .i64 sl] = ints (flat (C' (k + 1) ++ [(p.1, sl)])) := by
    rw [flat_append]; unfold ints; rw [List.map_append]; rfl
  rw [e] at hown
  have hgl : gx < u.heap.size := (Array.getElem?_eq_some_iff.1 T.bx).1
  have hg' : g' ≠ gx := by
    rcases hl with x | x
    · obtain ⟨a, ha, rfl⟩ := oblk x
      exact T.off _ (by omega) a ha
    · omega
  refine ⟨T.pn.growS hk hown hg hl, ?_, ?_, ?_, fun i hi => ?_, fun i => ?_, fun i hi a ha => ?_, ?_⟩
  · rw [Pool.upd_other _ _ (by omega)]; exact T.r0
  · rw [Pool.upd_other _ _ (by omega)]; exact T.c0
  · rw [addS, if_pos hp, ← T.sn, seen_get C hk, ← T.keep k (Nat.le_refl _)]
    exact (seen_upd C' TN k _).symm
  · rw [Pool.upd_other _ _ (by omega)]; exact T.keep i (by omega)
  · by_cases e : i = k + 1
    · subst e
      rw [Pool.upd_same, T.keep k (Nat.le_refl _)]
      have := hf (k + 1)
      simp
      omega
    · rw [Pool.upd_other _ _ e]; exact T.few i
  · by_cases e : i = k + 1
    · subst e
      rw [Pool.upd_same] at ha
      simp only [Option.some.injEq] at ha
      subst ha
      exact hg'
    · rw [Pool.upd_other _ _ e] at ha
      exact T.off i hi a ha
  · have h9 : gx ≠ g9 := box_ne (t := 54) (t' := 52) T.bx T.pn.sb (by decide)
    rw [heap_setCell_other _ _ _ _ h9]
    refine (hg.block gx hgl fun e => ?_).trans T.bx
    obtain ⟨a, ha, hb⟩ := oblk e.symm
    exact T.off _ (by omega) a ha hb
/-- What the statement that lengthens a list reads. -/
theorem Gt.reads {A : Option Addr} {n c : Nat} (T : Gt w u h g9 g10 TN s X pb C j gx p sl v2 L k R' C') (hk : k < TN) (hr : R' (k + 1) = ⟨A, n, c⟩) : u.cell? ⟨g9, k, none⟩ = some (.slice A n c) ∧ u.cell? ⟨gx, 0, none⟩ = some (.int .i64 p.1) := by
  refine ⟨?_, (cell_of_row u gx 0 _ 54 (0, 0) T.bx).trans rfl⟩
  have h1 := T.pn.head_at hk
  rw [hr] at h1
  exact h1
theorem Gt.reads2 {A : Option Addr} {n c : Nat} (T : Gt w u h g9 g10 TN s X pb C j gx p sl v2 L k R' C') (hk : k < TN) (hr : R' (k + 1) = ⟨A, n, c⟩) (hg : u.grownBy u' (Value.slice A n c).ownBlock) : u'.cell? ⟨g9, k, none⟩ = some (.slice A n c) ∧ u'.cell? ⟨gx, 0, none⟩ = some (.int .i64 p.1) := by
  obtain ⟨h1, h2⟩ := T.reads hk hr
  have hv : (R' (k + 1)).val = Value.slice A n c := by rw [hr]; rfl
  refine ⟨(World.cell?_of_block (w := u) (hg.block g9 T.pn.l9 fun e => ?_)).trans h1, (World.cell?_of_block (w := u) (hg.block gx (Array.getElem?_eq_some_iff.1 T.bx).1 fun e => ?_)).trans h2⟩
  · rw [← hv] at e
    obtain ⟨a, ha, hb⟩ := oblk e.symm
    obtain ⟨_, _, cur, hc⟩ := own_blk (T.pn.ls.own (k + 1) (by omega)) ha
    rw [hb] at hc
    exact box_ne (t := 52) (t' := 54) T.pn.sb hc (by decide) rfl
  · rw [← hv] at e
    obtain ⟨a, ha, hb⟩ := oblk e.symm
    exact T.off _ (by omega) a ha hb
theorem Gt.owns {A : Option Addr} {n c : Nat} (T : Gt w u h g9 g10 TN s X pb C j gx p sl v2 L k R' C') (hk : k < TN) (hr : R' (k + 1) = ⟨A, n, c⟩) : u.ownsRow w.heap.size 54 2 (.slice A n c) n (ints (flat (C' (k + 1)))) := by
  have h1 := T.pn.ls.own (k + 1) (by omega)
  rw [hr] at h1
  exact h1
theorem Gt.lens {A : Option Addr} {n c : Nat} (T : Gt w u h g9 g10 TN s X pb C j gx p sl v2 L k R' C') (hk : k < TN) (hr : R' (k + 1) = ⟨A, n, c⟩) (hf : ∀ i, (C i).length ≤ j) : n ≤ j := by
  have h1 := T.pn.many (i := k + 1) (by omega)
  rw [hr, T.keep k (Nat.le_refl _)] at h1
  have := hf (k + 1)
  dsimp only at h1
  omega
theorem Gt.frz (T : Gt w u h g9 g10 TN s X pb C j gx p sl v2 L k R' C') : u.frozen? ⟨g9, k, none⟩ = false := frozen_of_row _ _ _ _ 52 T.pn.sb
theorem Gt.bx0 (T : Gt w u h g9 g10 TN s X pb C j gx p sl v2 L k R' C') : u.cell? ⟨gx, 0, none⟩ = some (.int .i64 p.1) := (cell_of_row u gx 0 _ 54 (0, 0) T.bx).trans rfl
theorem Gt.frz2 {A : Option Addr} {n c : Nat} (T : Gt w u h g9 g10 TN s X pb C j gx p sl v2 L k R' C') (hk : k < TN) (hr : R' (k + 1) = ⟨A, n, c⟩) (hg : u.grownBy u' (Value.slice A n c).ownBlock) : u'.frozen? ⟨g9, k, none⟩ = false := by
  have hv : (R' (k + 1)).val = Value.slice A n c := by rw [hr]; rfl
  refine (World.frozen?_of_block (w := u) (hg.block g9 T.pn.l9 fun e => ?_)).trans T.frz
  rw [← hv] at e
  obtain ⟨a, ha, hb⟩ := oblk e.symm
  obtain ⟨_, _, cur, hc⟩ := own_blk (T.pn.ls.own (k + 1) (by omega)) ha
  rw [hb] at hc
  exact box_ne (t := 52) (t' := 54) T.pn.sb hc (by decide) rfl
theorem Gt.more {A : Option Addr} {n c g' cap m : Nat} (T : Gt w u h g9 g10 TN s X pb C j gx p sl v2 L k R' C') (hk : k < TN) (hr : R' (k + 1) = ⟨A, n, c⟩) (hp : pb.getD k false = true) (hf : ∀ i, (C i).length ≤ j)
    (hown : u'.ownsRow w.heap.size 54 2 (.slice (some ⟨g', 0, none⟩) m cap) m (ints (flat (C' (k + 1))) ++ [.int .i64 p.1, .int .i64 sl]))
    (hg : u.grownBy u' (Value.slice A n c).ownBlock) (hl : (Value.slice A n c).ownBlock = some g' ∨ g' = u.heap.size) :
    Gt w (u'.setCell ⟨g9, k, none⟩ (.slice (some ⟨g', 0, none⟩) m cap)) h g9 g10 TN s X pb C j gx p sl v2 L (k + 1) (upd R' (k + 1) ⟨some ⟨g', 0, none⟩, m, cap⟩) (upd C' (k + 1) (C' (k + 1) ++ [(p.1, sl)])) := by
  have hv : (R' (k + 1)).val = Value.slice A n c := by rw [hr]; rfl
  exact T.add hk hp hf hown (by rw [hv]; exact hg) (by rw [hv]; exact hl)
/-- At the end of the step. -/
theorem Gt.std {lA : Option Addr} {ln lc a : Nat} {X0 : SL} {s0 : Sh} {u0 : World} (S : Std w u0 h g9 g10 TN s0 X0 pb R C lA ln lc j) (T : Gt w u h g9 g10 TN s X pb C j gx p sl v2 ((C 0).eraseIdx a) TN R' C')
    (I : Inv X pb (addS pb ((List.range TN).map fun i => C (i + 1)) (p.1, sl) X0.Z.length) ((C 0).eraseIdx a)) : Std w u h g9 g10 TN s X pb R' C' v2.A v2.n v2.c (j + 1) := by
  rw [S.len, ← T.sn, ← T.c0] at I
  have hl : X.Z.length = TN := by rw [← I.lp, S.inv.lp, S.len]
  exact ⟨T.r0, T.pn, I, hl, T.few⟩
end
end Go.Proofs.Ythficfmakbblkaa
