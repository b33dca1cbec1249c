/- What the document's Pin and Unpin tell of any era: the same. -/
import Derived.Test.YteckldjdkcbkdaaWalksC
namespace Go.Proofs.Yteckldjdkcbkdaa
open Go.RowKit
set_option linter.unusedVariables false

theorem below_al {a u : World} {o : Obj} (h : Below a.heap.size a u) : Below a.heap.size a (u.alloc o) := h.alloc h.size _
theorem box_drew {u u1 : World} (b : Below (u.drew.alloc (.cells zeros2 24)).heap.size (u.drew.alloc (.cells zeros2 24)) u1) : EBox u1 u.heap.size zeros2 := box_before (u := u.drew) b

set_option maxHeartbeats 2000000 in
theorem rpin_any (t : Int) (A : Option Addr) (n c B : Nat) (zs : List Int) (b : Bool) (k : Int) (w : World) (hr : Reads w B A n c zs) (hB : B ≤ w.heap.size) (hb : Hid (b = true ↔ Ok t zs)) :
    Calls Try.prog 19 #[V2 t A n c, .int .i64 k] w (Tell2 w (pinT b t zs k) (pinZ b t zs k) (.int .i64 (pinE b zs k))) := by
  have T0 := hide (Two.first w (C2 t A n c))
  have HL := hide hr.len
  have R0 := hide (hr.below T0.out.bel hB)
  clear hr
  go_enter Try.func19, Try.ntmps19
  go_wp2_with fail
  refine (rcheck_any t A n c B zs b _ R0.out (Nat.le_trans hB T0.out.bel.size) hb).mono ?_
  rintro e u1 ⟨rfl, b1⟩
  have T1 := hide (T0.out.step b1)
  have R1 := hide (R0.out.below b1 (Nat.le_trans hB T0.out.bel.size))
  clear b1 T0 R0
  cases b with
  | false =>
    have E1 := hide (pinE_bad (b := false) (zs := zs) (k := k) (.inl rfl))
    have E2 := hide (pin_no (b := false) (t := t) (zs := zs) (k := k) E1.out)
    clear hb
    rw [show chk false = 1 from rfl]
    have HE := hide (Two.none T1.out)
    obtain ⟨y0, f0, y1, f1⟩ := zero_cells T1.out.res
    go_wp2
    exact bodyPost_ret (results_row_one rfl _ _ (w.heap.size + 1) 24 _ (0, 0) _ rfl HE.out.1 Try.underlying24 rfl Try.size24) rfl ⟨none, 0, 0, by rw [E1.out, E2.out.1]; rfl, by rw [E2.out.2]; exact HE.out.2.1, HE.out.2.2⟩

  | true =>
    have HO := hide (hb.out.1 rfl)
    have hn : n ≤ 64 := by have := HO.out.2.1; have := HL.out; omega
    clear hb
    rw [show chk true = 0 from rfl]
    have hc := T1.out.box.cells
    have hl := T1.out.box.lt
    have s1 := T1.out.bel.size
    by_cases hk1 : k < 0
    · have E1 := hide (pinE_bad (b := true) (zs := zs) (k := k) (.inr (.inl hk1)))
      have E2 := hide (pin_no (b := true) (t := t) (zs := zs) (k := k) E1.out)
      have d1 : decide (k < 0) = true := by simpa using hk1
      clear hk1 hc hl
      have HE := hide (Two.none T1.out)
      obtain ⟨y0, f0, y1, f1⟩ := zero_cells T1.out.res
      go_wp2
      exact bodyPost_ret (results_row_one rfl _ _ (w.heap.size + 1) 24 _ (0, 0) _ rfl HE.out.1 Try.underlying24 rfl Try.size24) rfl ⟨none, 0, 0, by rw [E1.out, E2.out.1]; rfl, by rw [E2.out.2]; exact HE.out.2.1, HE.out.2.2⟩

    have d1 : decide (k < 0) = false := by simpa using hk1
    by_cases hk2 : (n : Int) ≤ k
    · have E1 := hide (pinE_bad (b := true) (zs := zs) (k := k) (.inr (.inr (by have := HL.out; omega))))
      have E2 := hide (pin_no (b := true) (t := t) (zs := zs) (k := k) E1.out)
      have d2 : decide ((n : Int) ≤ k) = true := by simpa using hk2
      clear hk1 hk2
      have HE := hide (Two.none T1.out)
      obtain ⟨y0, f0, y1, f1⟩ := zero_cells T1.out.res
      go_wp2
      exact bodyPost_ret (results_row_one rfl _ _ (w.heap.size + 1) 24 _ (0, 0) _ rfl HE.out.1 Try.underlying24 rfl Try.size24) rfl ⟨none, 0, 0, by rw [E1.out, E2.out.1]; rfl, by rw [E2.out.2]; exact HE.out.2.1, HE.out.2.2⟩

    have d2 : decide ((n : Int) ≤ k) = false := by simpa using hk2
    obtain ⟨X, rfl⟩ : ∃ X : Nat, k = (X : Int) := ⟨k.toNat, by omega⟩
    have hX : X < n := by omega
    obtain ⟨bA, oA, rfl, hbA, hx⟩ := R1.out.1.at_ hX
    obtain ⟨z, EZ⟩ : ∃ z, Hid (zs.getD X 0 = z) := ⟨_, rfl⟩
    rw [EZ.out] at hx
    by_cases hz : z = -1
    · subst hz
      have E1 := hide (pinE_ok (b := true) (zs := zs) (X := X) rfl (by have := HL.out; omega) EZ.out)
      have E2 := hide (pin_yes (b := true) (t := t) (zs := zs) (X := X) E1.out)
      have HCp : Hid (∀ u, Hid (Below u1.heap.size u1 u) → Calls Try.prog 17 #[.slice (some ⟨bA, oA, none⟩) n c] u (Tell u zs)) := fun u hu => rcopy_any _ _ _ B _ _ (R1.out.below hu.out (Nat.le_trans hB T1.out.bel.size)) (by omega)
      have hN : Hid (∀ u, Hid (Below u1.heap.size u1 u) → (u.cell? ⟨w.heap.size, 0, none⟩ = some (.int .i64 t) ∧ u.cell? ⟨w.heap.size, 1, none⟩ = some (.slice (some ⟨bA, oA, none⟩) n c) ∧ Hid (Below u1.heap.size u1 u))) :=
        fun u hu => ⟨(T1.out.step hu.out).box.cells 0, (T1.out.step hu.out).box.cells 1, hu⟩
      have D0 := hide ((Below.refl u1.heap.size u1).drew)
      have D1 := hide (below_al (o := .cells zeros2 24) D0.out)
      have TD := hide (T1.out.step D0.out)
      go_wp2
      clear hc hl
      go_region_held3 (fun u => u.cell? ⟨w.heap.size, 0, none⟩ = some (.int .i64 t) ∧ u.cell? ⟨w.heap.size, 1, none⟩ = some (.slice (some ⟨bA, oA, none⟩) n c) ∧ Hid (Below u1.heap.size u1 u))
        (first | exact hN.out _ D0 | exact hN.out _ (by assumption) | exact hN.out _ (hide (below_al (Hid.out (by assumption)))) | exact hN.out _ (hide (set2_below (Hid.out (by assumption)) (Nat.le_refl _) _ _)) | exact hN.out _ (hide (set2_below (Hid.out (by assumption)) (Below.size (Hid.out (by assumption))) _ _)))
        (first | (go_at_call 17; refine (HCp.out u1.drew D0).mono ?_; rintro e u5 ⟨A5, n5, c5, rfl, r5, b5⟩; have BU := hide (next_call D0.out (Nat.le_refl _) b5)) | (go_at_call 17; refine (HCp.out (u1.drew.alloc (.cells zeros2 24)) D1).mono ?_; rintro e u5 ⟨A5, n5, c5, rfl, r5, b5⟩; have BU := hide (next_call D1.out (Nat.le_refl _) b5); have HZ := hide (box_drew b5); obtain ⟨y0, fz0, y1, fz1⟩ := zero_cells HZ.out; have hlz := HZ.out.lt))
      · have AF0 := hide (St.behind TD.out r5 b5 t)
        obtain rfl : n5 = n := by have := r5.len; have := HL.out; omega
        obtain ⟨U, hU⟩ : ∃ U, Hid (u5.alloc (.cells #[.int .i64 t, .slice A5 n5 c5] 24) = U) := ⟨_, rfl⟩
        obtain ⟨hb, hhb⟩ : ∃ hb, Hid (u5.heap.size = hb) := ⟨_, rfl⟩
        have AF : Hid (St w U (C2 t (some ⟨bA, oA, none⟩) n5 c) hb t A5 n5 c5 zs) := by show St _ _ _ _ _ _ _ _ _; rw [← hU.out, ← hhb.out]; exact AF0.out
        have BW : Hid (Below u1.heap.size u1 U) := by show Below _ _ _; rw [← hU.out]; exact below_al BU.out
        rw [hU.out, hhb.out]
        clear AF0 r5 b5 BU hN HCp D0 D1 TD 
        obtain ⟨g, rfl⟩ := own_some AF.out.row.1 (by omega)
        have hc := AF.out.two.box.cells
        have hl := AF.out.two.box.lt
        have hcb := AF.out.box.cells
        have hlb := AF.out.box.lt
        have v1 := own_at AF.out.row.1 hX
        have v2 := AF.out.row.1.frozenAt X
        have v3 := (own_ge AF.out.row.1).2
        have v4 := (own_ge AF.out.row.1).1
        have gb := AF.out.ge
        have ne1 := AF.out.ne
        have ne2 : hb ≠ g := ne1.symm
        have ne3 : g ≠ w.heap.size + 1 := by omega
        have ne4 : w.heap.size + 1 ≠ g := by omega
        have ne5 : w.heap.size ≠ g := by omega
        have ne6 : hb ≠ w.heap.size + 1 := by omega
        obtain ⟨y0, f0, y1, f1⟩ := zero_cells AF.out.two.res
        have hlr := AF.out.two.res.lt
        have S2 := hide (AF.out.set X t)
        have HE := hide (S2.out.two.tell S2.out.row t)
        go_wp2
        exact bodyPost_ret (results_row_one rfl _ _ (w.heap.size + 1) 24 _ (0, 0) _ rfl HE.out.1 Try.underlying24 rfl Try.size24) rfl ⟨some ⟨g, 0, none⟩, n5, c5, by rw [E1.out, E2.out.1]; rfl, by rw [E2.out.2]; exact HE.out.2.1, HE.out.2.2⟩
      · have AF0 := hide (St.before TD.out b5 r5 t)
        obtain rfl : n5 = n := by have := r5.len; have := HL.out; omega
        obtain ⟨U, hU⟩ : ∃ U, Hid ((u5.setCell ⟨u1.heap.size, 0, none⟩ (.int .i64 t)).setCell ⟨u1.heap.size, 1, none⟩ (.slice A5 n5 c5) = U) := ⟨_, rfl⟩
        obtain ⟨hb, hhb⟩ : ∃ hb, Hid (u1.heap.size = hb) := ⟨_, rfl⟩
        have AF : Hid (St w U (C2 t (some ⟨bA, oA, none⟩) n5 c) hb t A5 n5 c5 zs) := by show St _ _ _ _ _ _ _ _ _; rw [← hU.out, ← hhb.out]; exact AF0.out
        have BW : Hid (Below u1.heap.size u1 U) := by show Below _ _ _; rw [← hU.out]; exact set2_below BU.out (Nat.le_refl _) _ _
        rw [hU.out, hhb.out]
        clear AF0 r5 b5 BU hN HCp D0 D1 TD HZ y0 fz0 y1 fz1 hlz
        obtain ⟨g, rfl⟩ := own_some AF.out.row.1 (by omega)
        have hc := AF.out.two.box.cells
        have hl := AF.out.two.box.lt
        have hcb := AF.out.box.cells
        have hlb := AF.out.box.lt
        have v1 := own_at AF.out.row.1 hX
        have v2 := AF.out.row.1.frozenAt X
        have v3 := (own_ge AF.out.row.1).2
        have v4 := (own_ge AF.out.row.1).1
        have gb := AF.out.ge
        have ne1 := AF.out.ne
        have ne2 : hb ≠ g := ne1.symm
        have ne3 : g ≠ w.heap.size + 1 := by omega
        have ne4 : w.heap.size + 1 ≠ g := by omega
        have ne5 : w.heap.size ≠ g := by omega
        have ne6 : hb ≠ w.heap.size + 1 := by omega
        obtain ⟨y0, f0, y1, f1⟩ := zero_cells AF.out.two.res
        have hlr := AF.out.two.res.lt
        have S2 := hide (AF.out.set X t)
        have HE := hide (S2.out.two.tell S2.out.row t)
        go_wp2
        exact bodyPost_ret (results_row_one rfl _ _ (w.heap.size + 1) 24 _ (0, 0) _ rfl HE.out.1 Try.underlying24 rfl Try.size24) rfl ⟨some ⟨g, 0, none⟩, n5, c5, by rw [E1.out, E2.out.1]; rfl, by rw [E2.out.2]; exact HE.out.2.1, HE.out.2.2⟩

    · have E1 := hide (pinE_taken (b := true) (zs := zs) (X := X) (by rw [EZ.out]; exact hz))
      have E2 := hide (pin_no (b := true) (t := t) (zs := zs) (k := (X : Int)) E1.out)
      have d3 : (z != -1) = true := by simpa using hz
      clear hz
      have HE := hide (Two.none T1.out)
      obtain ⟨y0, f0, y1, f1⟩ := zero_cells T1.out.res
      go_wp2
      exact bodyPost_ret (results_row_one rfl _ _ (w.heap.size + 1) 24 _ (0, 0) _ rfl HE.out.1 Try.underlying24 rfl Try.size24) rfl ⟨none, 0, 0, by rw [E1.out, E2.out.1]; rfl, by rw [E2.out.2]; exact HE.out.2.1, HE.out.2.2⟩

set_option maxHeartbeats 2000000 in
theorem runpin_any (t : Int) (A : Option Addr) (n c B : Nat) (zs : List Int) (b : Bool) (k : Int) (w : World) (hr : Reads w B A n c zs) (hB : B ≤ w.heap.size) (hb : Hid (b = true ↔ Ok t zs)) :
    Calls Try.prog 21 #[V2 t A n c, .int .i64 k] w (Tell2 w (unpT b t zs k) (unpZ b zs k) (.int .i64 (unpE b zs k))) := by
  have T0 := hide (Two.first w (C2 t A n c))
  have HL := hide hr.len
  have R0 := hide (hr.below T0.out.bel hB)
  clear hr
  go_enter Try.func21, Try.ntmps21
  go_wp2_with fail
  refine (rcheck_any t A n c B zs b _ R0.out (Nat.le_trans hB T0.out.bel.size) hb).mono ?_
  rintro e u1 ⟨rfl, b1⟩
  have T1 := hide (T0.out.step b1)
  have R1 := hide (R0.out.below b1 (Nat.le_trans hB T0.out.bel.size))
  clear b1 T0 R0
  cases b with
  | false =>
    have E1 := hide (unpE_bad (b := false) (zs := zs) (k := k) (.inl rfl))
    have E2 := hide (unp_no (b := false) (t := t) (zs := zs) (k := k) (by rw [E1.out]; decide))
    clear hb
    rw [show chk false = 1 from rfl]
    have HE := hide (Two.none T1.out)
    obtain ⟨y0, f0, y1, f1⟩ := zero_cells T1.out.res
    go_wp2
    exact bodyPost_ret (results_row_one rfl _ _ (w.heap.size + 1) 24 _ (0, 0) _ rfl HE.out.1 Try.underlying24 rfl Try.size24) rfl ⟨none, 0, 0, by rw [E1.out, E2.out.1]; rfl, by rw [E2.out.2]; exact HE.out.2.1, HE.out.2.2⟩

  | true =>
    have HO := hide (hb.out.1 rfl)
    have hn : n ≤ 64 := by have := HO.out.2.1; have := HL.out; omega
    clear hb
    rw [show chk true = 0 from rfl]
    have hc := T1.out.box.cells
    have hl := T1.out.box.lt
    have s1 := T1.out.bel.size
    by_cases hk1 : k < 0
    · have E1 := hide (unpE_bad (b := true) (zs := zs) (k := k) (.inr (.inl hk1)))
      have E2 := hide (unp_no (b := true) (t := t) (zs := zs) (k := k) (by rw [E1.out]; decide))
      have d1 : decide (k < 0) = true := by simpa using hk1
      clear hk1 hc hl
      have HE := hide (Two.none T1.out)
      obtain ⟨y0, f0, y1, f1⟩ := zero_cells T1.out.res
      go_wp2
      exact bodyPost_ret (results_row_one rfl _ _ (w.heap.size + 1) 24 _ (0, 0) _ rfl HE.out.1 Try.underlying24 rfl Try.size24) rfl ⟨none, 0, 0, by rw [E1.out, E2.out.1]; rfl, by rw [E2.out.2]; exact HE.out.2.1, HE.out.2.2⟩

    have d1 : decide (k < 0) = false := by simpa using hk1
    by_cases hk2 : (n : Int) ≤ k
    · have E1 := hide (unpE_bad (b := true) (zs := zs) (k := k) (.inr (.inr (by have := HL.out; omega))))
      have E2 := hide (unp_no (b := true) (t := t) (zs := zs) (k := k) (by rw [E1.out]; decide))
      have d2 : decide ((n : Int) ≤ k) = true := by simpa using hk2
      clear hk1 hk2
      have HE := hide (Two.none T1.out)
      obtain ⟨y0, f0, y1, f1⟩ := zero_cells T1.out.res
      go_wp2
      exact bodyPost_ret (results_row_one rfl _ _ (w.heap.size + 1) 24 _ (0, 0) _ rfl HE.out.1 Try.underlying24 rfl Try.size24) rfl ⟨none, 0, 0, by rw [E1.out, E2.out.1]; rfl, by rw [E2.out.2]; exact HE.out.2.1, HE.out.2.2⟩

    have d2 : decide ((n : Int) ≤ k) = false := by simpa using hk2
    obtain ⟨X, rfl⟩ : ∃ X : Nat, k = (X : Int) := ⟨k.toNat, by omega⟩
    have hX : X < n := by omega
    obtain ⟨bA, oA, rfl, hbA, hx⟩ := R1.out.1.at_ hX
    obtain ⟨z, EZ⟩ : ∃ z, Hid (zs.getD X 0 = z) := ⟨_, rfl⟩
    rw [EZ.out] at hx
    by_cases hz : z = -1
    · subst hz
      have E1 := hide (unpE_none (b := true) (zs := zs) (X := X) rfl (by have := HL.out; omega) EZ.out)
      have E2 := hide (unp_no (b := true) (t := t) (zs := zs) (k := (X : Int)) (by rw [E1.out]; decide))
      have HE := hide (Two.none T1.out)
      obtain ⟨y0, f0, y1, f1⟩ := zero_cells T1.out.res
      go_wp2
      exact bodyPost_ret (results_row_one rfl _ _ (w.heap.size + 1) 24 _ (0, 0) _ rfl HE.out.1 Try.underlying24 rfl Try.size24) rfl ⟨none, 0, 0, by rw [E1.out, E2.out.1]; rfl, by rw [E2.out.2]; exact HE.out.2.1, HE.out.2.2⟩

    · have E1 := hide (unpE_ok (b := true) (zs := zs) (X := X) rfl (by have := HL.out; omega) (by rw [EZ.out]; exact hz))
      have E2 := hide (unp_yes (b := true) (t := t) (zs := zs) (X := X) E1.out)
      have d3 : (z == -1) = false := by simpa using hz
      clear hz
      have HCp : Hid (∀ u, Hid (Below u1.heap.size u1 u) → Calls Try.prog 17 #[.slice (some ⟨bA, oA, none⟩) n c] u (Tell u zs)) := fun u hu => rcopy_any _ _ _ B _ _ (R1.out.below hu.out (Nat.le_trans hB T1.out.bel.size)) (by omega)
      have hN : Hid (∀ u, Hid (Below u1.heap.size u1 u) → (u.cell? ⟨w.heap.size, 0, none⟩ = some (.int .i64 t) ∧ u.cell? ⟨w.heap.size, 1, none⟩ = some (.slice (some ⟨bA, oA, none⟩) n c) ∧ Hid (Below u1.heap.size u1 u))) :=
        fun u hu => ⟨(T1.out.step hu.out).box.cells 0, (T1.out.step hu.out).box.cells 1, hu⟩
      have D0 := hide ((Below.refl u1.heap.size u1).drew)
      have D1 := hide (below_al (o := .cells zeros2 24) D0.out)
      have TD := hide (T1.out.step D0.out)
      go_wp2
      clear hc hl
      go_region_held3 (fun u => u.cell? ⟨w.heap.size, 0, none⟩ = some (.int .i64 t) ∧ u.cell? ⟨w.heap.size, 1, none⟩ = some (.slice (some ⟨bA, oA, none⟩) n c) ∧ Hid (Below u1.heap.size u1 u))
        (first | exact hN.out _ D0 | exact hN.out _ (by assumption) | exact hN.out _ (hide (below_al (Hid.out (by assumption)))) | exact hN.out _ (hide (set2_below (Hid.out (by assumption)) (Nat.le_refl _) _ _)) | exact hN.out _ (hide (set2_below (Hid.out (by assumption)) (Below.size (Hid.out (by assumption))) _ _)))
        (first | (go_at_call 17; refine (HCp.out u1.drew D0).mono ?_; rintro e u5 ⟨A5, n5, c5, rfl, r5, b5⟩; have BU := hide (next_call D0.out (Nat.le_refl _) b5)) | (go_at_call 17; refine (HCp.out (u1.drew.alloc (.cells zeros2 24)) D1).mono ?_; rintro e u5 ⟨A5, n5, c5, rfl, r5, b5⟩; have BU := hide (next_call D1.out (Nat.le_refl _) b5); have HZ := hide (box_drew b5); obtain ⟨y0, fz0, y1, fz1⟩ := zero_cells HZ.out; have hlz := HZ.out.lt))
      · have AF0 := hide (St.behind TD.out r5 b5 t)
        obtain rfl : n5 = n := by have := r5.len; have := HL.out; omega
        obtain ⟨U, hU⟩ : ∃ U, Hid (u5.alloc (.cells #[.int .i64 t, .slice A5 n5 c5] 24) = U) := ⟨_, rfl⟩
        obtain ⟨hb, hhb⟩ : ∃ hb, Hid (u5.heap.size = hb) := ⟨_, rfl⟩
        have AF : Hid (St w U (C2 t (some ⟨bA, oA, none⟩) n5 c) hb t A5 n5 c5 zs) := by show St _ _ _ _ _ _ _ _ _; rw [← hU.out, ← hhb.out]; exact AF0.out
        have BW : Hid (Below u1.heap.size u1 U) := by show Below _ _ _; rw [← hU.out]; exact below_al BU.out
        rw [hU.out, hhb.out]
        clear AF0 r5 b5 BU hN HCp D0 D1 TD 
        obtain ⟨g, rfl⟩ := own_some AF.out.row.1 (by omega)
        have hc := AF.out.two.box.cells
        have hl := AF.out.two.box.lt
        have hcb := AF.out.box.cells
        have hlb := AF.out.box.lt
        have v1 := own_at AF.out.row.1 hX
        have v2 := AF.out.row.1.frozenAt X
        have v3 := (own_ge AF.out.row.1).2
        have v4 := (own_ge AF.out.row.1).1
        have gb := AF.out.ge
        have ne1 := AF.out.ne
        have ne2 : hb ≠ g := ne1.symm
        have ne3 : g ≠ w.heap.size + 1 := by omega
        have ne4 : w.heap.size + 1 ≠ g := by omega
        have ne5 : w.heap.size ≠ g := by omega
        have ne6 : hb ≠ w.heap.size + 1 := by omega
        obtain ⟨y0, f0, y1, f1⟩ := zero_cells AF.out.two.res
        have hlr := AF.out.two.res.lt
        have S2 := hide (AF.out.set X (-1))
        have HE := hide (S2.out.two.tell S2.out.row t)
        go_wp2
        exact bodyPost_ret (results_row_one rfl _ _ (w.heap.size + 1) 24 _ (0, 0) _ rfl HE.out.1 Try.underlying24 rfl Try.size24) rfl ⟨some ⟨g, 0, none⟩, n5, c5, by rw [E1.out, E2.out.1]; rfl, by rw [E2.out.2]; exact HE.out.2.1, HE.out.2.2⟩
      · have AF0 := hide (St.before TD.out b5 r5 t)
        obtain rfl : n5 = n := by have := r5.len; have := HL.out; omega
        obtain ⟨U, hU⟩ : ∃ U, Hid ((u5.setCell ⟨u1.heap.size, 0, none⟩ (.int .i64 t)).setCell ⟨u1.heap.size, 1, none⟩ (.slice A5 n5 c5) = U) := ⟨_, rfl⟩
        obtain ⟨hb, hhb⟩ : ∃ hb, Hid (u1.heap.size = hb) := ⟨_, rfl⟩
        have AF : Hid (St w U (C2 t (some ⟨bA, oA, none⟩) n5 c) hb t A5 n5 c5 zs) := by show St _ _ _ _ _ _ _ _ _; rw [← hU.out, ← hhb.out]; exact AF0.out
        have BW : Hid (Below u1.heap.size u1 U) := by show Below _ _ _; rw [← hU.out]; exact set2_below BU.out (Nat.le_refl _) _ _
        rw [hU.out, hhb.out]
        clear AF0 r5 b5 BU hN HCp D0 D1 TD HZ y0 fz0 y1 fz1 hlz
        obtain ⟨g, rfl⟩ := own_some AF.out.row.1 (by omega)
        have hc := AF.out.two.box.cells
        have hl := AF.out.two.box.lt
        have hcb := AF.out.box.cells
        have hlb := AF.out.box.lt
        have v1 := own_at AF.out.row.1 hX
        have v2 := AF.out.row.1.frozenAt X
        have v3 := (own_ge AF.out.row.1).2
        have v4 := (own_ge AF.out.row.1).1
        have gb := AF.out.ge
        have ne1 := AF.out.ne
        have ne2 : hb ≠ g := ne1.symm
        have ne3 : g ≠ w.heap.size + 1 := by omega
        have ne4 : w.heap.size + 1 ≠ g := by omega
        have ne5 : w.heap.size ≠ g := by omega
        have ne6 : hb ≠ w.heap.size + 1 := by omega
        obtain ⟨y0, f0, y1, f1⟩ := zero_cells AF.out.two.res
        have hlr := AF.out.two.res.lt
        have S2 := hide (AF.out.set X (-1))
        have HE := hide (S2.out.two.tell S2.out.row t)
        go_wp2
        exact bodyPost_ret (results_row_one rfl _ _ (w.heap.size + 1) 24 _ (0, 0) _ rfl HE.out.1 Try.underlying24 rfl Try.size24) rfl ⟨some ⟨g, 0, none⟩, n5, c5, by rw [E1.out, E2.out.1]; rfl, by rw [E2.out.2]; exact HE.out.2.1, HE.out.2.2⟩

end Go.Proofs.Yteckldjdkcbkdaa
