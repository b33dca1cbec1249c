/- Plain mathematics: no slot that a pinned thread saw retired is taken again. -/
import Derived.Test.YthficfmakbblkaaArC
namespace Go.Proofs.Ythficfmakbblkaa
open Go.RowKit
open Pool (Pl PL MayBe noP noPl Drew Told4 Row recQ Due)
set_option linter.unusedVariables false

/-- Slot Y of kind c is retired, since z at the earliest. -/
def Held (X : SL) (z : Int) (c Y : Nat) : Prop := Y < (X.pl c).G.length ∧ (X.pl c).S.getD Y 0 = 2 ∧ z ≤ (X.pl c).W.getD Y 0
def SeenP (X : SL) (z : Int) (p : Int × Int) : Prop := ∃ c Y : Nat, c < 3 ∧ p.1 = (c : Int) + 1 ∧ p.2 = (Y : Int) ∧ Held X z c Y
/-- The slot of a reference. -/
def slot (r : Int) : Nat := ((r - 1) % 1024).toNat
/-- r is the reference of a live slot of kind c. -/
def Lv (X : SL) (c : Nat) (r : Int) : Prop := 1 ≤ r ∧ r ≤ 1125899906842624 ∧ slot r < (X.pl c).G.length ∧ (X.pl c).S.getD (slot r) 0 = 1 ∧ (X.pl c).G.getD (slot r) 0 = (r - 1) / 1024
def LiveP (X : SL) (p : Int × Int) : Prop := ∃ c : Nat, c < 3 ∧ p.1 = (c : Int) + 1 ∧ Lv X c p.2
def key (p : Int × Int) : Int × Nat := (p.1, slot p.2)

structure Inv (X : SL) (pb : List Bool) (seen : List (List (Int × Int))) (live : List (Int × Int)) : Prop where
  ok : OkS X
  few : Few X
  lp : pb.length = X.Z.length
  ls : seen.length = X.Z.length
  pin : ∀ i, i < X.Z.length → (pb.getD i false = true ↔ X.Z.getD i 0 ≠ -1)
  sn : ∀ i, i < X.Z.length → pb.getD i false = true → ∀ p ∈ seen.getD i [], SeenP X (X.Z.getD i 0) p
  lv : ∀ p ∈ live, LiveP X p
  nd : (live.map key).Nodup

theorem slot_cast (r : Int) : ((slot r : Nat) : Int) = (r - 1) % 1024 := by unfold slot; omega

section
variable {X X' : SL} {pb : List Bool} {seen : List (List (Int × Int))} {live : List (Int × Int)}
/-- What is told of the pools alone. -/
theorem seen_mono {z z' : Int} {p : Int × Int} (h : SeenP X z p) (hp : ∀ c Y, c < 3 → Held X z c Y → Held X' z' c Y) : SeenP X' z' p := by
  obtain ⟨c, Y, hc, h1, h2, h3⟩ := h
  exact ⟨c, Y, hc, h1, h2, hp c Y hc h3⟩
theorem live_mono {p : Int × Int} (h : LiveP X p) (hp : ∀ c r, c < 3 → Lv X c r → Lv X' c r) : LiveP X' p := by
  obtain ⟨c, hc, h1, h2⟩ := h
  exact ⟨c, hc, h1, hp c _ hc h2⟩
/-- One pool reclaimed. -/
theorem rec_held {P : PL} (M : MayBe P) {u z : Int} {Y : Nat} (hu : u < z) (h : Y < P.G.length ∧ P.S.getD Y 0 = 2 ∧ z ≤ P.W.getD Y 0) :
    Y < (recQ true P u).G.length ∧ (recQ true P u).S.getD Y 0 = 2 ∧ z ≤ (recQ true P u).W.getD Y 0 := by
  obtain ⟨h1, h2, h3⟩ := h
  have hl := (Pool.rec_good M rfl u).2
  obtain ⟨hg, hs, hw⟩ := Pool.rec_at P u M.2.2.1 M.2.2.2.1 P.G.length (Nat.le_refl _) Y
  have hd : ¬ (Y < P.G.length ∧ Due P u Y) := fun h => by have := h.2.2.1; omega
  refine ⟨by rw [hl]; exact h1, ?_, ?_⟩
  · show (Pool.recP P u P.G.length).S.getD Y 0 = 2
    rw [hs, if_neg hd]; exact h2
  · show z ≤ (Pool.recP P u P.G.length).W.getD Y 0
    rw [hw, if_neg hd]; exact h3
theorem rec_live {P : PL} (M : MayBe P) {u : Int} {Y : Nat} (h1 : Y < P.G.length) (h2 : P.S.getD Y 0 = 1) :
    Y < (recQ true P u).G.length ∧ (recQ true P u).S.getD Y 0 = 1 ∧ (recQ true P u).G.getD Y 0 = P.G.getD Y 0 := by
  have hl := (Pool.rec_good M rfl u).2
  obtain ⟨hg, hs, hw⟩ := Pool.rec_at P u M.2.2.1 M.2.2.2.1 P.G.length (Nat.le_refl _) Y
  have hd : ¬ (Y < P.G.length ∧ Due P u Y) := fun h => by have := h.2.1; omega
  refine ⟨by rw [hl]; exact h1, ?_, ?_⟩
  · show (Pool.recP P u P.G.length).S.getD Y 0 = 1
    rw [hs, if_neg hd]; exact h2
  · show (Pool.recP P u P.G.length).G.getD Y 0 = _
    rw [hg, if_neg hd]
theorem tr_rest (X : SL) (q : Bool) : (trX true q X).Z = X.Z := by
  unfold trX
  rw [if_pos rfl]
  split <;> rfl
theorem mem_getD {zs : List Int} {i : Nat} (h : i < zs.length) : zs.getD i 0 ∈ zs := by
  simp [List.getD_eq_getElem?_getD, h]
/-- Turned. -/
theorem inv_turn {q : Bool} (I : Inv X pb seen live) (hq : q = true ↔ Era.Step X.T X.Z) : Inv (trX true q X) pb seen live := by
  by_cases hb : Era.turnB true q X.T = true
  · have hst : Era.Step X.T X.Z := hq.1 (by unfold Era.turnB at hb; simp at hb; exact hb.1)
    have hpl : ∀ c, c < 3 → (trX true q X).pl c = recQ true (X.pl c) (X.T - 1) := fun c hc => by rw [trX_yes hb, recX_pl _ _ hc, if_pos hc, setERA_pl]
    have hz := tr_rest X q
    refine ⟨ok_tr I.ok hq, few_tr I.few ⟨fun _ => I.ok, fun _ => rfl⟩, by rw [hz]; exact I.lp, by rw [hz]; exact I.ls, by rw [hz]; exact I.pin, fun i hi hp p hm => ?_, fun p hm => ?_, I.nd⟩
    · rw [hz] at hi ⊢
      have hne := (I.pin i hi).1 hp
      have hzi : X.Z.getD i 0 = X.T := by
        rcases hst _ (mem_getD hi) with e | e
        · exact absurd e hne
        · exact e
      refine seen_mono (I.sn i hi hp p hm) fun c Y hc h => ?_
      unfold Held at h ⊢
      rw [hpl c hc]
      exact rec_held (I.ok.1 c hc) (by omega) h
    · refine live_mono (I.lv p hm) fun c r hc h => ?_
      obtain ⟨h1, h2, h3, h4, h5⟩ := h
      obtain ⟨g1, g2, g3⟩ := rec_live (u := X.T - 1) (I.ok.1 c hc) h3 h4
      unfold Lv
      rw [hpl c hc]
      exact ⟨h1, h2, g1, g2, g3.trans h5⟩
  · rw [trX_not (by simpa using hb)]
    exact I
/-- A thread pinned. -/
theorem inv_pin {t : Nat} (I : Inv X pb seen live) (h : piE true X (t : Int) = 0) : t < X.Z.length ∧ Inv (piX true X (t : Int)) (pb.set t true) (seen.set t []) live := by
  have ht : t < X.Z.length := by
    rcases Nat.lt_or_ge t X.Z.length with x | x
    · exact x
    · have : piE true X (t : Int) = 1 := Era.pinE_bad (.inr (.inr (by omega)))
      omega
  have e : piX true X (t : Int) = X.setEra X.T (X.Z.set t X.T) := by
    unfold piX
    rw [if_pos h]
    have h' : Era.pinE true X.Z (t : Int) = 0 := h
    obtain ⟨e1, e2⟩ := Era.pin_yes (t := X.T) h'
    rw [e1, e2]
  rw [e]
  have hT : X.T ≠ -1 := by have := I.ok.2.1.1; omega
  refine ⟨ht, ⟨fun k hk => by rw [setERA_pl]; exact I.ok.1 k hk, Era.ok_set I.ok.2 _ (.inr (.inl rfl))⟩, few_setEra I.few (by rw [List.length_set]; exact I.few.z), ?_, ?_, fun i hi => ?_, fun i hi hp p hm => ?_, fun p hm => ?_, I.nd⟩
  · show (pb.set t true).length = (X.Z.set t X.T).length
    simp [I.lp]
  · show (seen.set t []).length = (X.Z.set t X.T).length
    simp [I.ls]
  · have hi' : i < X.Z.length := by simpa [SL.setEra] using hi
    show (pb.set t true).getD i false = true ↔ (X.Z.set t X.T).getD i 0 ≠ -1
    have hlp := I.lp
    by_cases e : t = i
    · subst e
      simp [List.getD_eq_getElem?_getD, hi', hlp, hT]
    · have := I.pin i hi'
      simpa [List.getD_eq_getElem?_getD, List.getElem?_set, e] using this
  · have hi' : i < X.Z.length := by simpa [SL.setEra] using hi
    have hls := I.ls
    have hlp := I.lp
    by_cases e : t = i
    · subst e
      rw [show (seen.set t []).getD t [] = [] by simp [List.getD_eq_getElem?_getD, hi', hls]] at hm
      cases hm
    · have h1 : (seen.set t []).getD i [] = seen.getD i [] := by simp [List.getD_eq_getElem?_getD, e]
      have h2 : (pb.set t true).getD i false = pb.getD i false := by simp [List.getD_eq_getElem?_getD, e]
      have h3 : (X.Z.set t X.T).getD i 0 = X.Z.getD i 0 := by simp [List.getD_eq_getElem?_getD, e]
      rw [h1] at hm
      rw [h2] at hp
      show SeenP _ ((X.Z.set t X.T).getD i 0) p
      rw [h3]
      exact seen_mono (I.sn i hi' hp p hm) fun c Y hc h => by unfold Held at h ⊢; rw [setERA_pl]; exact h
  · exact live_mono (I.lv p hm) fun c r hc h => by unfold Lv at h ⊢; rw [setERA_pl]; exact h
/-- A thread ended. -/
theorem inv_end {t : Nat} {q : Bool} (I : Inv X pb seen live) (h : enE true X (t : Int) = 0) (hq : q = true ↔ Era.Step X.T (Era.unpZ true X.Z (t : Int))) : t < X.Z.length ∧ Inv (enX true q X (t : Int)) (pb.set t false) seen live := by
  have ht : t < X.Z.length := by
    rcases Nat.lt_or_ge t X.Z.length with x | x
    · exact x
    · have : enE true X (t : Int) = 1 := Era.unpE_bad (.inr (.inr (by omega)))
      omega
  have h' : Era.unpE true X.Z (t : Int) = 0 := h
  obtain ⟨e1, e2⟩ := Era.unp_yes (t := X.T) h'
  have e : enX true q X (t : Int) = trX true q (X.setEra X.T (X.Z.set t (-1))) := by
    unfold enX
    rw [if_pos h, e1, e2]
  rw [e]
  rw [e2] at hq
  refine ⟨ht, inv_turn ?_ hq⟩
  refine ⟨⟨fun k hk => by rw [setERA_pl]; exact I.ok.1 k hk, Era.ok_set I.ok.2 _ (.inl rfl)⟩, few_setEra I.few (by rw [List.length_set]; exact I.few.z), ?_, ?_, fun i hi => ?_, fun i hi hp p hm => ?_, fun p hm => ?_, I.nd⟩
  · show (pb.set t false).length = (X.Z.set t (-1)).length
    simp [I.lp]
  · show seen.length = (X.Z.set t (-1)).length
    simp [I.ls]
  · have hi' : i < X.Z.length := by simpa [SL.setEra] using hi
    show (pb.set t false).getD i false = true ↔ (X.Z.set t (-1)).getD i 0 ≠ -1
    have hlp := I.lp
    by_cases e : t = i
    · subst e
      simp [List.getD_eq_getElem?_getD, hi', hlp]
    · have := I.pin i hi'
      simpa [List.getD_eq_getElem?_getD, List.getElem?_set, e] using this
  · have hi' : i < X.Z.length := by simpa [SL.setEra] using hi
    have hlp := I.lp
    by_cases e : t = i
    · subst e
      rw [show (pb.set t false).getD t false = false by simp [List.getD_eq_getElem?_getD, hi', hlp]] at hp
      cases hp
    · have h2 : (pb.set t false).getD i false = pb.getD i false := by simp [List.getD_eq_getElem?_getD, e]
      have h3 : (X.Z.set t (-1)).getD i 0 = X.Z.getD i 0 := by simp [List.getD_eq_getElem?_getD, e]
      rw [h2] at hp
      show SeenP _ ((X.Z.set t (-1)).getD i 0) p
      rw [h3]
      exact seen_mono (I.sn i hi' hp p hm) fun c Y hc h => by unfold Held at h ⊢; rw [setERA_pl]; exact h
  · exact live_mono (I.lv p hm) fun c r hc h => by unfold Lv at h ⊢; rw [setERA_pl]; exact h
/-- A slot is taken: nobody that is pinned saw it retired. -/
theorem inv_take {c : Nat} (I : Inv X pb seen live) (hc : c < 3) (h : tkE true X ((c : Int) + 1) = 0) :
    1 ≤ tkR true X ((c : Int) + 1) ∧ tkR true X ((c : Int) + 1) ≤ 1125899906842624 ∧
    (∀ i, i < X.Z.length → pb.getD i false = true → ∀ p ∈ seen.getD i [], p ≠ ((c : Int) + 1, ((slot (tkR true X ((c : Int) + 1)) : Nat) : Int))) ∧
    Inv (tkX true X ((c : Int) + 1)) pb seen (live ++ [((c : Int) + 1, tkR true X ((c : Int) + 1))]) := by
  have hk : kndE true ((c : Int) + 1) = 0 := by unfold kndE; rw [if_pos]; exact ⟨rfl, by omega, by omega⟩
  have hat : at_ ((c : Int) + 1) = c := by unfold at_; omega
  have hE : Pool.takeE true (X.pl c) = 0 := by unfold tkE at h; rw [if_pos hk, hat] at h; exact h
  have M := I.ok.1 c hc
  have hX : tkX true X ((c : Int) + 1) = X.setPl c (Pool.takeQ true (X.pl c)) := by unfold tkX; rw [if_pos h, hat]
  have hR : tkR true X ((c : Int) + 1) = Pool.takeR true (X.pl c) := by unfold tkR; rw [if_pos h, hat]
  rw [hX, hR]
  obtain ⟨P, hP⟩ : ∃ P, X.pl c = P := ⟨_, rfl⟩
  obtain ⟨G, S, W, F⟩ := P
  rw [hP] at hE M
  rw [hP]
  cases F with
  | nil => cases hE
  | cons x xs =>
    have hq : Pool.takeQ true ⟨G, S, W, x :: xs⟩ = ⟨G, S.set x.toNat 1, W, xs⟩ := rfl
    have hr : Pool.takeR true ⟨G, S, W, x :: xs⟩ = 1 + 1024 * G.getD x.toNat 0 + x := rfl
    have M' : MayBe ⟨G, S.set x.toNat 1, W, xs⟩ := Pool.may_take M rfl
    obtain ⟨k1, k2, k3, k4, k5, k6, k7, k8⟩ := M
    obtain ⟨x1, x2, x3⟩ := k6 x (by simp)
    dsimp only at k1 k2 k3 k4 k5 x2 x3
    obtain ⟨Y, rfl⟩ : ∃ Y : Nat, x = (Y : Int) := ⟨x.toNat, by omega⟩
    simp only [Int.toNat_natCast] at hq hr x3 M'
    have hY : Y < G.length := by omega
    obtain ⟨g1, g2, _⟩ := k5 Y hY
    rw [hq, hr]
    generalize hgv : G.getD Y 0 = gv at g1 g2
    have hs : slot (1 + 1024 * gv + (Y : Int)) = Y := by unfold slot; omega
    have hd : (1 + 1024 * gv + (Y : Int) - 1) / 1024 = gv := by omega
    have hpl : ∀ j, j < 3 → (X.setPl c ⟨G, S.set Y 1, W, xs⟩).pl j = if j = c then ⟨G, S.set Y 1, W, xs⟩ else X.pl j := fun j hj => setPL_pl X hc hj _
    obtain ⟨e1, e2, e3, e4⟩ := setPL_rest X c ⟨G, S.set Y 1, W, xs⟩
    have hheld : ∀ z j V, j < 3 → Held X z j V → Held (X.setPl c ⟨G, S.set Y 1, W, xs⟩) z j V ∧ (j = c → V ≠ Y) := fun z j V hj hh => by
      unfold Held at hh ⊢
      rw [hpl j hj]
      by_cases e : j = c
      · subst e
        rw [hP] at hh
        rw [if_pos rfl]
        obtain ⟨a1, a2, a3⟩ := hh
        dsimp only at a1 a2 a3
        have hVY : V ≠ Y := fun e => by rw [e, x3] at a2; cases a2
        exact ⟨⟨a1, by rw [Pool.get_set _ _ _ _ (by omega), if_neg hVY]; exact a2, a3⟩, fun _ => hVY⟩
      · rw [if_neg e]
        exact ⟨hh, fun e' => absurd e' e⟩
    have hlive : ∀ j r, j < 3 → Lv X j r → Lv (X.setPl c ⟨G, S.set Y 1, W, xs⟩) j r ∧ (j = c → slot r ≠ Y) := fun j r hj hh => by
      unfold Lv at hh ⊢
      rw [hpl j hj]
      by_cases e : j = c
      · subst e
        rw [hP] at hh
        rw [if_pos rfl]
        obtain ⟨a1, a2, a3, a4, a5⟩ := hh
        dsimp only at a3 a4 a5
        have hVY : slot r ≠ Y := fun e => by rw [e, x3] at a4; cases a4
        exact ⟨⟨a1, a2, a3, by rw [Pool.get_set _ _ _ _ (by omega), if_neg hVY]; exact a4, a5⟩, fun _ => hVY⟩
      · rw [if_neg e]
        exact ⟨hh, fun e' => absurd e' e⟩
    refine ⟨by omega, by omega, fun i hi hp p hm he => ?_, ?_⟩
    · obtain ⟨j, V, hj, p1, p2, hh⟩ := I.sn i hi hp p hm
      rw [he] at p1 p2
      dsimp only at p1 p2
      rw [hs] at p2
      exact (hheld _ j V hj hh).2 (by omega) (by omega)
    · refine ⟨⟨fun j hj => ?_, by rw [e3, e4]; exact I.ok.2⟩, few_setPl I.few hc (Pool.few_may M'), by rw [e4]; exact I.lp, by rw [e4]; exact I.ls, by rw [e4]; exact I.pin, fun i hi hp p hm => ?_, fun p hm => ?_, ?_⟩
      · rw [hpl j hj]
        split
        · exact M'
        · exact I.ok.1 j hj
      · rw [e4] at hi ⊢
        exact seen_mono (I.sn i hi hp p hm) fun j V hj hh => (hheld _ j V hj hh).1
      · rcases List.mem_append.1 hm with h | h
        · exact live_mono (I.lv p h) fun j r hj hh => (hlive j r hj hh).1
        · obtain rfl : p = ((c : Int) + 1, 1 + 1024 * gv + (Y : Int)) := by simpa using h
          refine ⟨c, hc, rfl, ?_⟩
          unfold Lv
          rw [hpl c hc, if_pos rfl, hs, hd]
          exact ⟨by omega, by omega, hY, by rw [Pool.get_set _ _ _ _ (by omega), if_pos rfl], hgv⟩
      · rw [List.map_append, List.nodup_append]
        refine ⟨I.nd, by simp, fun a ha b hb e => ?_⟩
        obtain ⟨p, hp, rfl⟩ := List.mem_map.1 ha
        obtain rfl : b = key ((c : Int) + 1, 1 + 1024 * gv + (Y : Int)) := by simpa using hb
        obtain ⟨j, hj, p1, hh⟩ := I.lv p hp
        unfold key at e
        simp only [Prod.mk.injEq] at e
        rw [hs] at e
        exact (hlive j _ hj hh).2 (by omega) e.2

/-- The first k threads that are pinned have seen p. -/
def addS (pb : List Bool) (seen : List (List (Int × Int))) (p : Int × Int) : Nat → List (List (Int × Int))
  | 0 => seen
  | k + 1 => if pb.getD k false = true then (addS pb seen p k).set k (seen.getD k [] ++ [p]) else addS pb seen p k
theorem addS_len (pb : List Bool) (seen : List (List (Int × Int))) (p : Int × Int) (k : Nat) : (addS pb seen p k).length = seen.length := by
  induction k with
  | zero => rfl
  | succ k ih => rw [addS]; split <;> simp [ih]
theorem addS_at (pb : List Bool) (seen : List (List (Int × Int))) (p : Int × Int) (k i : Nat) (hi : i < seen.length) : (addS pb seen p k).getD i [] = if i < k ∧ pb.getD i false = true then seen.getD i [] ++ [p] else seen.getD i [] := by
  induction k with
  | zero => simp [addS]
  | succ k ih =>
    rw [addS]
    have hl := addS_len pb seen p k
    by_cases hb : pb.getD k false = true
    · rw [if_pos hb]
      by_cases e : k = i
      · subst e
        rw [if_pos ⟨by omega, hb⟩]
        simp [List.getD_eq_getElem?_getD, hl, hi]
      · have h1 : ((addS pb seen p k).set k (seen.getD k [] ++ [p])).getD i [] = (addS pb seen p k).getD i [] := by simp [List.getD_eq_getElem?_getD, e]
        rw [h1, ih]
        have : (i < k ∧ pb.getD i false = true) ↔ (i < k + 1 ∧ pb.getD i false = true) := ⟨fun h => ⟨by omega, h.2⟩, fun h => ⟨by omega, h.2⟩⟩
        simp only [this]
    · rw [if_neg hb, ih]
      have : (i < k ∧ pb.getD i false = true) ↔ (i < k + 1 ∧ pb.getD i false = true) := ⟨fun h => ⟨by omega, h.2⟩, fun h => ⟨by
        rcases Nat.lt_or_ge i k with x | x
        · exact x
        · obtain rfl : i = k := by omega
          exact absurd h.2 hb, h.2⟩⟩
      simp only [this]
theorem map_erase {α β : Type} (f : α → β) (l : List α) (a : Nat) : (l.eraseIdx a).map f = (l.map f).eraseIdx a := by
  induction l generalizing a with
  | nil => rfl
  | cons y ys ih =>
    cases a with
    | zero => rfl
    | succ a => simp [ih]
theorem nodup_erase {α : Type} {l : List α} {a : Nat} (h : l.Nodup) {x : α} (hx : l[a]? = some x) : x ∉ l.eraseIdx a := by
  induction l generalizing a with
  | nil => simp
  | cons y ys ih =>
    cases a with
    | zero =>
      simp at hx
      subst hx
      exact (List.nodup_cons.1 h).1
    | succ a =>
      simp at hx
      intro hm
      simp at hm
      rcases hm with e | hm
      · subst e
        exact (List.nodup_cons.1 h).1 (List.mem_of_getElem? hx)
      · exact ih (List.nodup_cons.1 h).2 hx hm
/-- A live slot is retired, and all that are pinned see it. -/
theorem inv_retire {a : Nat} {wh r : Int} (I : Inv X pb seen live) (ha : live[a]? = some (wh, r)) :
    1 ≤ r ∧ r ≤ 1125899906842624 ∧ rtE true X wh r = 0 ∧ Inv (rtX true X wh r) pb (addS pb seen (wh, ((slot r : Nat) : Int)) X.Z.length) (live.eraseIdx a) := by
  obtain ⟨c, hc, h1, hl⟩ := I.lv _ (List.mem_of_getElem? ha)
  dsimp only at h1 hl
  subst h1
  have hk : kndE true ((c : Int) + 1) = 0 := by unfold kndE; rw [if_pos]; exact ⟨rfl, by omega, by omega⟩
  have hat : at_ ((c : Int) + 1) = c := by unfold at_; omega
  have M := I.ok.1 c hc
  obtain ⟨l1, l2, l3, l4, l5⟩ := hl
  obtain ⟨hE, hQ⟩ := Pool.ret_good (P := X.pl c) l1 l2 (slot_cast r).symm rfl l3 l4 l5 X.T
  have hrt : rtE true X ((c : Int) + 1) r = 0 := by unfold rtE; rw [if_pos hk, hat]; exact hE
  have hX : rtX true X ((c : Int) + 1) r = X.setPl c (Pool.retQ true (X.pl c) r X.T) := by unfold rtX; rw [if_pos hrt, hat]
  refine ⟨l1, l2, hrt, ?_⟩
  have M' : MayBe (Pool.retQ true (X.pl c) r X.T) := Pool.may_retQ M hE
  rw [hX]
  rw [hQ] at M' ⊢
  obtain ⟨P, hP⟩ : ∃ P, X.pl c = P := ⟨_, rfl⟩
  obtain ⟨G, S, W, F⟩ := P
  rw [hP] at M l3 l4 l5 M' ⊢
  dsimp only at l3 l4 l5 M' ⊢
  have k3 : S.length = G.length := M.2.2.1
  have k4 : W.length = G.length := M.2.2.2.1
  generalize hY : slot r = Y at l3 l4 l5 M' ⊢
  have hpl : ∀ j, j < 3 → (X.setPl c ⟨G, S.set Y 2, W.set Y X.T, F⟩).pl j = if j = c then ⟨G, S.set Y 2, W.set Y X.T, F⟩ else X.pl j := fun j hj => setPL_pl X hc hj _
  obtain ⟨e1, e2, e3, e4⟩ := setPL_rest X c ⟨G, S.set Y 2, W.set Y X.T, F⟩
  have hheld : ∀ z j V, j < 3 → Held X z j V → Held (X.setPl c ⟨G, S.set Y 2, W.set Y X.T, F⟩) z j V := fun z j V hj hh => by
    unfold Held at hh ⊢
    rw [hpl j hj]
    by_cases e : j = c
    · subst e
      rw [hP] at hh
      rw [if_pos rfl]
      obtain ⟨a1, a2, a3⟩ := hh
      dsimp only at a1 a2 a3
      have hVY : V ≠ Y := fun e => by rw [e, l4] at a2; cases a2
      exact ⟨a1, by rw [Pool.get_set _ _ _ _ (by omega), if_neg hVY]; exact a2, by rw [Pool.get_set _ _ _ _ (by omega), if_neg hVY]; exact a3⟩
    · rw [if_neg e]
      exact hh
  have hnew : ∀ z, z ≤ X.T → Held (X.setPl c ⟨G, S.set Y 2, W.set Y X.T, F⟩) z c Y := fun z hz => by
    unfold Held
    rw [hpl c hc, if_pos rfl]
    exact ⟨l3, by rw [Pool.get_set _ _ _ _ (by omega), if_pos rfl], by rw [Pool.get_set _ _ _ _ (by omega), if_pos rfl]; exact hz⟩
  refine ⟨⟨fun j hj => ?_, by rw [e3, e4]; exact I.ok.2⟩, few_setPl I.few hc (Pool.few_may M'), by rw [e4]; exact I.lp, by rw [e4, addS_len]; exact I.ls, by rw [e4]; exact I.pin, fun i hi hp p hm => ?_, fun p hm => ?_, ?_⟩
  · rw [hpl j hj]
    split
    · exact M'
    · exact I.ok.1 j hj
  · rw [e4] at hi ⊢
    rw [addS_at _ _ _ _ _ (by rw [I.ls]; exact hi), if_pos ⟨hi, hp⟩] at hm
    rcases List.mem_append.1 hm with h | h
    · exact seen_mono (I.sn i hi hp p h) fun j V hj hh => hheld _ j V hj hh
    · obtain rfl : p = ((c : Int) + 1, (Y : Int)) := by simpa using h
      refine ⟨c, Y, hc, rfl, rfl, hnew _ ?_⟩
      have hne := (I.pin i hi).1 hp
      rcases I.ok.2.2.2 _ (mem_getD hi) with e | e | e
      · exact absurd e hne
      · omega
      · omega
  · have hmem := List.mem_of_mem_eraseIdx hm
    have hkne : key p ≠ key ((c : Int) + 1, r) := fun e => by
      have h2 : (live.map key)[a]? = some (key ((c : Int) + 1, r)) := by rw [List.getElem?_map, ha]; rfl
      have h3 := nodup_erase I.nd h2
      rw [← map_erase] at h3
      exact h3 (List.mem_map.2 ⟨p, hm, e⟩)
    obtain ⟨j, hj, p1, hh⟩ := I.lv p hmem
    refine ⟨j, hj, p1, ?_⟩
    unfold Lv at hh ⊢
    rw [hpl j hj]
    by_cases e : j = c
    · subst e
      rw [hP] at hh
      rw [if_pos rfl]
      obtain ⟨a1, a2, a3, a4, a5⟩ := hh
      dsimp only at a3 a4 a5
      have hVY : slot p.2 ≠ Y := fun e => by
        refine hkne ?_
        unfold key
        rw [p1, e, hY]
      exact ⟨a1, a2, a3, by rw [Pool.get_set _ _ _ _ (by omega), if_neg hVY]; exact a4, a5⟩
    · rw [if_neg e]
      exact hh
  · rw [map_erase]
    exact I.nd.sublist (List.eraseIdx_sublist _ _)
end
end Go.Proofs.Ythficfmakbblkaa
