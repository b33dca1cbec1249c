/- Words: lists of pairs that the call itself grows, each in a row of its own, beside what is shared. -/
import Derived.Test.YthficfmakbblkaaPinM
namespace Go.Proofs.Ythficfmakbblkaa
open Go.RowKit
open Pool (Pl PL MayBe noP noPl Drew Told4 Row upd ints)
set_option linter.unusedVariables false

def flat (L : List (Int × Int)) : List Int := L.flatMap fun p => [p.1, p.2]
theorem flat_append (L M : List (Int × Int)) : flat (L ++ M) = flat L ++ flat M := by simp [flat]
theorem flat_len (L : List (Int × Int)) : (flat L).length = L.length * 2 := by
  induction L with
  | nil => rfl
  | cons p L ih => simp [flat] at ih ⊢; omega
theorem flat_take (L : List (Int × Int)) (k : Nat) : flat (L.take k) = (flat L).take (k * 2) := by
  induction L generalizing k with
  | nil => simp [flat]
  | cons p L ih =>
    cases k with
    | zero => simp [flat]
    | succ k =>
      have := ih k
      simp only [flat, List.take_succ_cons, List.flatMap_cons] at this ⊢
      rw [this, show (k + 1) * 2 = k * 2 + 2 by omega]
      simp
theorem flat_drop (L : List (Int × Int)) (k : Nat) : flat (L.drop k) = (flat L).drop (k * 2) := by
  induction L generalizing k with
  | nil => simp [flat]
  | cons p L ih =>
    cases k with
    | zero => simp [flat]
    | succ k =>
      have := ih k
      simp only [flat, List.drop_succ_cons, List.flatMap_cons] at this ⊢
      rw [this, show (k + 1) * 2 = k * 2 + 2 by omega]
      simp
theorem flat_at (L : List (Int × Int)) (k : Nat) {p : Int × Int} (h : L[k]? = some p) : (flat L)[k * 2]? = some p.1 ∧ (flat L)[k * 2 + 1]? = some p.2 := by
  induction L generalizing k with
  | nil => simp at h
  | cons q L ih =>
    cases k with
    | zero =>
      simp at h
      subst h
      simp [flat]
    | succ k =>
      simp at h
      have := ih k h
      simp only [flat, List.flatMap_cons] at this ⊢
      rw [show (k + 1) * 2 = k * 2 + 2 by omega, show k * 2 + 2 + 1 = (k * 2 + 1) + 2 by omega]
      simpa using this

def Sl.val (x : Sl) : Value := .slice x.A x.n x.c

/-- N lists, each in a row of its own. -/
structure Lists (w u : World) (N : Nat) (R : Nat → Sl) (C : Nat → List (Int × Int)) : Prop where
  own : ∀ i, i < N → u.ownsRow w.heap.size 54 2 (R i).val (R i).n (ints (flat (C i)))
  ap : ∀ i j, i < N → j < N → i ≠ j → ∀ a b, (R i).A = some a → (R j).A = some b → a.block ≠ b.block

section
variable {w u u' : World} {N : Nat} {R : Nat → Sl} {C : Nat → List (Int × Int)}
theorem own_other {v : Value} {n : Nat} {xs : List Value} (h : u.ownsRow w.heap.size 54 2 v n xs) (hb : ∀ (g : Nat) (cur : Array Value), u.heap[g]? = some (Obj.cells cur 54 (0, 0)) → u'.heap[g]? = u.heap[g]?) : u'.ownsRow w.heap.size 54 2 v n xs := by
  refine ⟨h.1, ?_⟩
  rcases h.2 with h0 | ⟨g, cap, cur, h1, hB, hg, r⟩
  · exact .inl h0
  · exact .inr ⟨g, cap, cur, h1, hB, (hb g cur hg).trans hg, r⟩
theorem own_blk {x : Sl} {n : Nat} {xs : List Value} (h : u.ownsRow w.heap.size 54 2 x.val n xs) {a : Addr} (ha : x.A = some a) : w.heap.size ≤ a.block ∧ a.block < u.heap.size ∧ ∃ cur, u.heap[a.block]? = some (Obj.cells cur 54 (0, 0)) := by
  rcases h.2 with ⟨h1, _⟩ | ⟨g, cap, cur, h1, hB, hg, r⟩
  · unfold Sl.val at h1
    rw [ha] at h1
    cases h1
  · unfold Sl.val at h1
    rw [ha] at h1
    simp only [Value.slice.injEq, Option.some.injEq] at h1
    obtain ⟨rfl, _, _⟩ := h1
    exact ⟨hB, (Array.getElem?_eq_some_iff.1 hg).1, cur, hg⟩
theorem Lists.same (h : Lists w u N R C) (hb : ∀ (g : Nat) (cur : Array Value), u.heap[g]? = some (Obj.cells cur 54 (0, 0)) → u'.heap[g]? = u.heap[g]?) : Lists w u' N R C := ⟨fun i hi => own_other (h.own i hi) hb, h.ap⟩
theorem Lists.step (h : Lists w u N R C) (b : Below u.heap.size u u') : Lists w u' N R C := h.same fun g cur hg => b.block g (Array.getElem?_eq_some_iff.1 hg).1
/-- Another block is written. -/
theorem Lists.row (h : Lists w u N R C) {g : Nat} {cs : Array Value} {t : TypeId} (hg : u.heap[g]? = some (Obj.cells cs t (0, 0))) (ht : t ≠ 54) (cs' : Array Value) : Lists w (u.setRow g cs') N R C :=
  h.same fun k cur hk => setRow_other u g k cs' fun e => by
    rw [e, hg] at hk
    simp only [Option.some.injEq, Obj.cells.injEq] at hk
    exact ht hk.2.1
theorem Lists.cell (h : Lists w u N R C) {g : Nat} {cs : Array Value} {t : TypeId} (hg : u.heap[g]? = some (Obj.cells cs t (0, 0))) (ht : t ≠ 54) (i : Nat) (v : Value) : Lists w (u.setCell ⟨g, i, none⟩ v) N R C :=
  h.same fun k cur hk => heap_setCell_other u ⟨g, i, none⟩ k v fun e => by
    have e' : k = g := e
    rw [e', hg] at hk
    simp only [Option.some.injEq, Obj.cells.injEq] at hk
    exact ht hk.2.1
/-- One is another one now, in a row apart from the others. -/
theorem Lists.turn (h : Lists w u N R C) {i : Nat} (hi : i < N) {x : Sl} {L : List (Int × Int)} (hown : u'.ownsRow w.heap.size 54 2 x.val x.n (ints (flat L))) (hk : ∀ j, j < N → j ≠ i → u'.ownsRow w.heap.size 54 2 (R j).val (R j).n (ints (flat (C j))))
    (hx : ∀ j, j < N → j ≠ i → ∀ a b, x.A = some a → (R j).A = some b → a.block ≠ b.block) : Lists w u' N (upd R i x) (upd C i L) := by
  refine ⟨fun j hj => ?_, fun j k hj hk' hne a b ha hb => ?_⟩
  · by_cases e : j = i
    · subst e
      rw [Pool.upd_same, Pool.upd_same]
      exact hown
    · rw [Pool.upd_other _ _ e, Pool.upd_other _ _ e]
      exact hk j hj e
  · by_cases e : j = i
    · subst e
      rw [Pool.upd_same] at ha
      rw [Pool.upd_other _ _ (Ne.symm hne)] at hb
      exact hx k hk' (Ne.symm hne) a b ha hb
    · rw [Pool.upd_other _ _ e] at ha
      by_cases e2 : k = i
      · subst e2
        rw [Pool.upd_same] at hb
        exact (hx j hj e b a hb ha).symm
      · rw [Pool.upd_other _ _ e2] at hb
        exact h.ap j k hj hk' hne a b ha hb
/-- Something is laid behind one of them. -/
theorem Lists.grow (h : Lists w u N R C) {i : Nat} (hi : i < N) {g' cap m : Nat} {L : List (Int × Int)} (hown : u'.ownsRow w.heap.size 54 2 (.slice (some ⟨g', 0, none⟩) m cap) m (ints (flat L)))
    (hg : u.grownBy u' (R i).val.ownBlock) (hl : (R i).val.ownBlock = some g' ∨ g' = u.heap.size) : Lists w u' N (upd R i ⟨some ⟨g', 0, none⟩, m, cap⟩) (upd C i L) := by
  have hb : ∀ a, (R i).A = some a → (R i).val.ownBlock = some a.block := fun a ha => by unfold Sl.val; rw [ha]; rfl
  refine h.turn hi hown (fun j hj hne => ?_) fun j hj hne a b ha hb' => ?_
  · refine (h.own j hj).kept hg ?_
    cases hA : (R j).A with
    | none => exact .inl (by unfold Sl.val; rw [hA]; rfl)
    | some b =>
      refine .inr fun e => ?_
      rw [show (R j).val.ownBlock = some b.block by unfold Sl.val; rw [hA]; rfl] at e
      cases hAi : (R i).A with
      | none =>
        rw [show (R i).val.ownBlock = none by unfold Sl.val; rw [hAi]; rfl] at e
        cases e
      | some a =>
        rw [hb a hAi] at e
        simp only [Option.some.injEq] at e
        exact h.ap j i hj hi hne b a hA hAi e
  · simp only [Option.some.injEq] at ha
    subst ha
    dsimp only
    obtain ⟨_, hlt, _⟩ := own_blk (h.own j hj) hb'
    rcases hl with e | e
    · cases hAi : (R i).A with
      | none =>
        rw [show (R i).val.ownBlock = none by unfold Sl.val; rw [hAi]; rfl] at e
        cases e
      | some a =>
        rw [hb a hAi] at e
        simp only [Option.some.injEq] at e
        rw [← e]
        exact (h.ap j i hj hi hne b a hb' hAi).symm
    · omega
end
end Go.Proofs.Ythficfmakbblkaa

namespace Go.Proofs.Ythficfmakbblkaa
open Go.RowKit
open Pool (Pl PL MayBe noP noPl Drew Told4 Row upd ints)
set_option linter.unusedVariables false

/-- The headers of the lists from the second on. -/
def heads (R : Nat → Sl) (n : Nat) : Array Value := ((List.range n).map fun i => (R (i + 1)).val).toArray
def bools (pb : List Bool) : Array Value := (pb.map Value.bool).toArray

/-- What is shared stands in the box at h; the headers of the lists that were seen at g, who is pinned at k; the first list is that of what is live. -/
structure Pn (w u : World) (h g k n : Nat) (s : Sh) (X : SL) (pb : List Bool) (R : Nat → Sl) (C : Nat → List (Int × Int)) : Prop where
  st : St w u h s X
  sb : u.heap[g]? = some (Obj.cells (heads R n) 52 (0, 0))
  pk : u.heap[k]? = some (Obj.cells (bools pb) 4 (0, 0))
  ls : Lists w u (n + 1) R C
  o9 : ¬ s.Has g
  o10 : ¬ s.Has k
  oR : ∀ i, i < n + 1 → ∀ a, (R i).A = some a → ¬ s.Has a.block
  ge9 : w.heap.size ≤ g
  ge10 : w.heap.size ≤ k

section
variable {w u u' : World} {h g k n : Nat} {s s' : Sh} {X X' : SL} {pb : List Bool} {R : Nat → Sl} {C : Nat → List (Int × Int)}
theorem Pn.step (P : Pn w u h g k n s X pb R C) (b : Below u.heap.size u u') : Pn w u' h g k n s X pb R C :=
  ⟨P.st.step b, (b.block _ (Array.getElem?_eq_some_iff.1 P.sb).1).trans P.sb, (b.block _ (Array.getElem?_eq_some_iff.1 P.pk).1).trans P.pk, P.ls.step b, P.o9, P.o10, P.oR, P.ge9, P.ge10⟩
theorem Pn.alloc (P : Pn w u h g k n s X pb R C) (o : Obj) : Pn w (u.alloc o) h g k n s X pb R C := P.step ((Below.refl _ _).alloc (Nat.le_refl _) _)
theorem Pn.l9 (P : Pn w u h g k n s X pb R C) : g < u.heap.size := (Array.getElem?_eq_some_iff.1 P.sb).1
theorem Pn.l10 (P : Pn w u h g k n s X pb R C) : k < u.heap.size := (Array.getElem?_eq_some_iff.1 P.pk).1
theorem Pn.lR (P : Pn w u h g k n s X pb R C) {i : Nat} (hi : i < n + 1) {a : Addr} (ha : (R i).A = some a) : a.block < u.heap.size := (own_blk (P.ls.own i hi) ha).2.1
theorem box_ne {a b : Nat} {x y : Array Value} {t t' : TypeId} (ha : u.heap[a]? = some (Obj.cells x t (0, 0))) (hb : u.heap[b]? = some (Obj.cells y t' (0, 0))) (ht : t ≠ t') : a ≠ b := fun e => by
  rw [e, hb] at ha
  simp only [Option.some.injEq, Obj.cells.injEq] at ha
  exact ht ha.2.1.symm
/-- Beside a box that was just laid. -/
theorem Pn.side (P : Pn w u h g k n s X pb R C) (b : Below u.heap.size u u') (cs : Array Value) : Pn w ((u'.alloc (.cells zeros16 31)).setRow u'.heap.size cs) h g k n s X pb R C := by
  have P' := P.step b
  have hl9 := P'.l9
  have hl10 := P'.l10
  refine ⟨P.st.side b cs, (setRow_other _ _ _ _ (by omega)).trans ((Below.heap_alloc _ _ _ hl9).trans P'.sb), (setRow_other _ _ _ _ (by omega)).trans ((Below.heap_alloc _ _ _ hl10).trans P'.pk), ?_, P.o9, P.o10, P.oR, P.ge9, P.ge10⟩
  exact (P'.ls.step ((Below.refl _ _).alloc (Nat.le_refl _) (.cells zeros16 31))).row (t := 31) (heap_alloc_new _ _) (by decide) cs
/-- What was told is laid into the box. -/
theorem Pn.next (P : Pn w u h g k n s X pb R C) (S : Sees u' s' X') (K : Kin u s s') (b : Below u.heap.size u u') : Pn w (u'.setRow h s'.cs) h g k n s' X' pb R C := by
  have P' := P.step b
  have hk : ∀ c, c < u.heap.size → ¬ s.Has c → ¬ s'.Has c := fun c hc hn hb => by
    rcases K c hb with x | x
    · omega
    · exact hn x
  exact ⟨P.st.next S K b, (setRow_other _ _ _ _ (box_ne (t := 52) (t' := 31) P'.sb P'.st.box (by decide))).trans P'.sb, (setRow_other _ _ _ _ (box_ne (t := 4) (t' := 31) P'.pk P'.st.box (by decide))).trans P'.pk,
    P'.ls.row P'.st.box (by decide) _, hk _ P.l9 P.o9, hk _ P.l10 P.o10, fun i hi a ha => hk _ (P.lR hi ha) (P.oR i hi a ha), P.ge9, P.ge10⟩
/-- .. by a box of its own. -/
theorem Pn.put (P : Pn w u h g k n s X pb R C) (S : Sees u' s' X') (K : Kin u s s') (b : Below u.heap.size u u') :
    SBox ((u'.alloc (.cells zeros16 31)).setRow u'.heap.size s'.cs) u'.heap.size s' ∧ SBox ((u'.alloc (.cells zeros16 31)).setRow u'.heap.size s'.cs) h s ∧
    Pn w (((u'.alloc (.cells zeros16 31)).setRow u'.heap.size s'.cs).setRow h s'.cs) h g k n s' X' pb R C := by
  have b1 := (P.st.step b).bel
  have F := St.first b1 S
  have Pd := P.side b s'.cs
  have hk : ∀ c, c < u.heap.size → ¬ s.Has c → ¬ s'.Has c := fun c hc hn hb => by
    rcases K c hb with x | x
    · omega
    · exact hn x
  have hh := hk h P.st.box.lt P.st.off
  exact ⟨F.box, Pd.st.box, ⟨below_setRow Pd.st.bel P.st.ge _, P.st.ge, Pd.st.box.put _, F.sees.row hh _, hh⟩, (setRow_other _ _ _ _ (box_ne (t := 52) (t' := 31) Pd.sb Pd.st.box (by decide))).trans Pd.sb, (setRow_other _ _ _ _ (box_ne (t := 4) (t' := 31) Pd.pk Pd.st.box (by decide))).trans Pd.pk,
    Pd.ls.row Pd.st.box (by decide) _, hk _ P.l9 P.o9, hk _ P.l10 P.o10, fun i hi a ha => hk _ (P.lR hi ha) (P.oR i hi a ha), P.ge9, P.ge10⟩
/-- Who is pinned is written. -/
theorem Pn.pin (P : Pn w u h g k n s X pb R C) (i : Nat) (x : Bool) : Pn w (u.setCell ⟨k, i, none⟩ (.bool x)) h g k n s X (pb.set i x) R C := by
  have hb : (bools pb).setIfInBounds i (.bool x) = bools (pb.set i x) := by
    unfold bools
    rw [List.setIfInBounds_toArray, List.map_set]
  have n1 := box_ne (t := 52) (t' := 4) P.sb P.pk (by decide)
  have n2 := box_ne (t := 31) (t' := 4) P.st.box P.pk (by decide)
  refine ⟨⟨P.st.bel.setCell (p := ⟨k, i, none⟩) P.ge10 _, P.st.ge, P.st.box.other n2 _ _, P.st.sees.cell P.o10 _ _, P.st.off⟩, (heap_setCell_other _ _ _ _ n1).trans P.sb, ?_, P.ls.cell P.pk (by decide) _ _, P.o9, P.o10, P.oR, P.ge9, P.ge10⟩
  rw [← hb]
  exact heap_setCell_same u k i _ 4 _ P.pk
theorem heads_set (R : Nat → Sl) (n i : Nat) (x : Sl) : (heads R n).setIfInBounds i x.val = heads (upd R (i + 1) x) n := by
  unfold heads
  rw [List.setIfInBounds_toArray]
  congr 1
  apply List.ext_getElem?
  intro j
  by_cases hj : j < n
  · by_cases e : i = j
    · subst e
      simp [hj, Pool.upd]
    · simp [e, hj, Pool.upd, Ne.symm e]
  · rw [List.getElem?_eq_none (by simp; omega), List.getElem?_eq_none (by simp; omega)]
/-- A list that was seen is another one: its header is written. -/
theorem Pn.head (P : Pn w u h g k n s X pb R C) {i : Nat} {x : Sl} {L : List (Int × Int)} (ls : Lists w u (n + 1) (upd R (i + 1) x) (upd C (i + 1) L)) (ho : ∀ a, x.A = some a → ¬ s.Has a.block) : Pn w (u.setCell ⟨g, i, none⟩ x.val) h g k n s X pb (upd R (i + 1) x) (upd C (i + 1) L) := by
  have n1 := box_ne (t := 4) (t' := 52) P.pk P.sb (by decide)
  have n2 := box_ne (t := 31) (t' := 52) P.st.box P.sb (by decide)
  refine ⟨⟨P.st.bel.setCell (p := ⟨g, i, none⟩) P.ge9 _, P.st.ge, P.st.box.other n2 _ _, P.st.sees.cell P.o9 _ _, P.st.off⟩, ?_, (heap_setCell_other _ _ _ _ n1).trans P.pk, ls.cell P.sb (by decide) _ _, P.o9, P.o10, fun j hj a ha => ?_, P.ge9, P.ge10⟩
  · rw [← heads_set]
    exact heap_setCell_same u g i _ 52 _ P.sb
  · by_cases e : j = i + 1
    · subst e
      rw [Pool.upd_same] at ha
      exact ho a ha
    · rw [Pool.upd_other _ _ e] at ha
      exact P.oR j hj a ha
/-- A list that was seen is empty now. -/
theorem Pn.empty (P : Pn w u h g k n s X pb R C) {i : Nat} (hi : i < n) : Pn w (u.setCell ⟨g, i, none⟩ (.slice none 0 0)) h g k n s X pb (upd R (i + 1) noSl) (upd C (i + 1) []) :=
  P.head (x := noSl) (P.ls.turn (by omega) (World.ownsRow_nil _ _ _ _) (fun j hj _ => P.ls.own j hj) fun j hj _ a b ha => by cases ha) fun a ha => by cases ha
theorem oblk {x : Sl} {b : Nat} (h : x.val.ownBlock = some b) : ∃ a, x.A = some a ∧ a.block = b := by
  unfold Sl.val at h
  cases hA : x.A with
  | none => rw [hA] at h; cases h
  | some a =>
    rw [hA] at h
    simp only [Value.ownBlock, Option.some.injEq] at h
    exact ⟨a, rfl, h⟩
/-- What stands beside a list that grows. -/
theorem St.grown {i : Nat} (P : Pn w u h g k n s X pb R C) (hi : i < n + 1) (hg : u.grownBy u' (R i).val.ownBlock) :
    St w u' h s X ∧ u'.heap[g]? = some (Obj.cells (heads R n) 52 (0, 0)) ∧ u'.heap[k]? = some (Obj.cells (bools pb) 4 (0, 0)) := by
  have hne : ∀ (b : Nat) (cs : Array Value) (t : TypeId), u.heap[b]? = some (Obj.cells cs t (0, 0)) → t ≠ 54 → some b ≠ (R i).val.ownBlock := fun b cs t hb ht e => by
    obtain ⟨a, ha, rfl⟩ := oblk e.symm
    obtain ⟨_, _, cur, hc⟩ := own_blk (P.ls.own i hi) ha
    exact box_ne hb hc ht rfl
  have hB : ∀ (b : Nat) (cs : Array Value) (t : TypeId), u.heap[b]? = some (Obj.cells cs t (0, 0)) → t ≠ 54 → u'.heap[b]? = some (Obj.cells cs t (0, 0)) := fun b cs t hb ht => (hg.block b (Array.getElem?_eq_some_iff.1 hb).1 (hne b cs t hb ht)).trans hb
  refine ⟨⟨P.st.bel.grown hg P.st.bel.size fun j hj => ?_, P.st.ge, hB _ _ _ P.st.box (by decide), P.st.sees.same hg.size fun b j hb => ?_, P.st.off⟩, hB _ _ _ P.sb (by decide), hB _ _ _ P.pk (by decide)⟩
  · obtain ⟨a, ha, rfl⟩ := oblk hj
    exact (own_blk (P.ls.own i hi) ha).1
  · refine World.cell?_of_block (w := u) (hg.block b (P.st.sees.lt hb) fun e => ?_)
    obtain ⟨a, ha, rfl⟩ := oblk e.symm
    exact P.oR i hi a ha hb
/-- Something is laid behind what is live. -/
theorem Pn.grow {g' cap m : Nat} {L : List (Int × Int)} (P : Pn w u h g k n s X pb R C) (hown : u'.ownsRow w.heap.size 54 2 (.slice (some ⟨g', 0, none⟩) m cap) m (ints (flat L)))
    (hg : u.grownBy u' (R 0).val.ownBlock) (hl : (R 0).val.ownBlock = some g' ∨ g' = u.heap.size) : Pn w u' h g k n s X pb (upd R 0 ⟨some ⟨g', 0, none⟩, m, cap⟩) (upd C 0 L) := by
  obtain ⟨h1, h2, h3⟩ := St.grown P (by omega) hg
  have hh : heads (upd R 0 ⟨some ⟨g', 0, none⟩, m, cap⟩) n = heads R n := by
    unfold heads
    congr 1
  refine ⟨h1, by rw [hh]; exact h2, h3, P.ls.grow (by omega) hown hg hl, P.o9, P.o10, fun i hi a ha => ?_, P.ge9, P.ge10⟩
  by_cases e : i = 0
  · subst e
    rw [Pool.upd_same] at ha
    simp only [Option.some.injEq] at ha
    subst ha
    dsimp only
    rcases hl with x | x
    · obtain ⟨a, ha, rfl⟩ := oblk x
      exact P.oR 0 hi a ha
    · intro hb
      have := P.st.sees.lt hb
      omega
  · rw [Pool.upd_other _ _ e] at ha
    exact P.oR i hi a ha
/-- Something is laid behind a list that was seen, and its header is written. -/
theorem Pn.growS {g' cap m i : Nat} {L : List (Int × Int)} (P : Pn w u h g k n s X pb R C) (hi : i < n) (hown : u'.ownsRow w.heap.size 54 2 (.slice (some ⟨g', 0, none⟩) m cap) m (ints (flat L)))
    (hg : u.grownBy u' (R (i + 1)).val.ownBlock) (hl : (R (i + 1)).val.ownBlock = some g' ∨ g' = u.heap.size) : Pn w (u'.setCell ⟨g, i, none⟩ (.slice (some ⟨g', 0, none⟩) m cap)) h g k n s X pb (upd R (i + 1) ⟨some ⟨g', 0, none⟩, m, cap⟩) (upd C (i + 1) L) := by
  obtain ⟨h1, h2, h3⟩ := St.grown P (by omega) hg
  have ls := P.ls.grow (by omega) hown hg hl
  have ho : ∀ a, (Sl.mk (some ⟨g', 0, none⟩) m cap).A = some a → ¬ s.Has a.block := fun a ha => by
    simp only [Option.some.injEq] at ha
    subst ha
    dsimp only
    rcases hl with x | x
    · obtain ⟨a, ha, rfl⟩ := oblk x
      exact P.oR _ (by omega) a ha
    · intro hb
      have := P.st.sees.lt hb
      omega
  have n1 := box_ne (t := 4) (t' := 52) h3 h2 (by decide)
  have n2 := box_ne (t := 31) (t' := 52) h1.box h2 (by decide)
  refine ⟨⟨h1.bel.setCell (p := ⟨g, i, none⟩) P.ge9 _, h1.ge, h1.box.other n2 _ _, h1.sees.cell P.o9 _ _, h1.off⟩, ?_, (heap_setCell_other _ _ _ _ n1).trans h3, ls.cell h2 (by decide) _ _, P.o9, P.o10, fun j hj a ha => ?_, P.ge9, P.ge10⟩
  · rw [← heads_set]
    exact heap_setCell_same u' g i _ 52 _ h2
  · by_cases e : j = i + 1
    · subst e
      rw [Pool.upd_same] at ha
      exact ho a ha
    · rw [Pool.upd_other _ _ e] at ha
      exact P.oR j hj a ha
/-- What is live lies in a row of its own now, apart from all that was there. -/
theorem Pn.turn0 {x : Sl} {L : List (Int × Int)} (P : Pn w u h g k n s X pb R C) (b : Below u.heap.size u u') (hown : u'.ownsRow u.heap.size 54 2 x.val x.n (ints (flat L))) : Pn w u' h g k n s X pb (upd R 0 x) (upd C 0 L) := by
  have P' := P.step b
  have hnew : ∀ a, x.A = some a → u.heap.size ≤ a.block := fun a ha => by
    rcases hown.2 with ⟨h1, _⟩ | ⟨g', cap, cur, h1, hB, hg, r⟩
    · unfold Sl.val at h1; rw [ha] at h1; cases h1
    · unfold Sl.val at h1; rw [ha] at h1
      simp only [Value.slice.injEq, Option.some.injEq] at h1
      obtain ⟨rfl, _, _⟩ := h1
      exact hB
  have hown' : u'.ownsRow w.heap.size 54 2 x.val x.n (ints (flat L)) := by
    refine ⟨hown.1, ?_⟩
    rcases hown.2 with h0 | ⟨g', cap, cur, h1, hB, r⟩
    · exact .inl h0
    · exact .inr ⟨g', cap, cur, h1, Nat.le_trans P.st.bel.size hB, r⟩
  have hh : heads (upd R 0 x) n = heads R n := by
    unfold heads
    congr 1
  refine ⟨P'.st, by rw [hh]; exact P'.sb, P'.pk, P'.ls.turn (by omega) hown' (fun j hj _ => P'.ls.own j hj) fun j hj _ a c ha hc => ?_, P.o9, P.o10, fun i hi a ha => ?_, P.ge9, P.ge10⟩
  · have h1 := hnew a ha
    have h2 := P.lR hj hc
    omega
  · by_cases e : i = 0
    · subst e
      rw [Pool.upd_same] at ha
      intro hb
      have h1 := hnew a ha
      have h2 := P.st.sees.lt hb
      omega
    · rw [Pool.upd_other _ _ e] at ha
      exact P.oR i hi a ha
end
end Go.Proofs.Ythficfmakbblkaa
