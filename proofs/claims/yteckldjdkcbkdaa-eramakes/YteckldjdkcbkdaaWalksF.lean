/- What Turn tells of any era, the code's and the document's. -/
import Derived.Test.YteckldjdkcbkdaaWalksD
import Derived.Test.YteckldjdkcbkdaaWalksE
namespace Go.Proofs.Yteckldjdkcbkdaa
open Go.RowKit
set_option linter.unusedVariables false

theorem St.step {w u u' : World} {cs : Array Value} {hb n c : Nat} {t : Int} {A : Option Addr} {zs : List Int} (s : St w u cs hb t A n c zs) (b : Below u.heap.size u u') : St w u' cs hb t A n c zs :=
  ⟨s.two.step b, s.box.step b, s.ge, s.row.below b⟩

set_option maxHeartbeats 2000000 in
theorem turn_any (t : Int) (A : Option Addr) (n c B : Nat) (zs : List Int) (b s : Bool) (w : World) (hr : Reads w B A n c zs) (hB : B ≤ w.heap.size) (hb : Hid (b = true ↔ Ok t zs)) (hs : Hid (s = true ↔ Step t zs)) :
    Calls Try.prog 22 #[V2 t A n c] w (Tell2 w (turnT b s t) (turnZ b zs) (.bool (turnB b s t))) := by
  have T0 := hide (Two.first w (C2 t A n c))
  have HL := hide hr.len
  have R0 := hide (hr.below T0.out.bel hB)
  clear hr
  go_enter Try.func22, Try.ntmps22
  go_wp2_with fail
  refine (mayBe_any t A n c B zs b _ R0.out (Nat.le_trans hB T0.out.bel.size) hb).mono ?_
  rintro e u1 ⟨rfl, b1⟩
  have T1 := hide (T0.out.step b1)
  have R1 := hide (R0.out.below b1 (Nat.le_trans hB T0.out.bel.size))
  clear b1 T0 R0
  cases b with
  | false =>
    have E1 : Hid (turnB false s t = false) := rfl
    have E2 : Hid (turnT false s t = 0) := rfl
    have E3 : Hid (turnZ false zs = []) := rfl
    clear hb hs
    have HE := hide (Two.none T1.out)
    obtain ⟨y0, f0, y1, f1⟩ := zero_cells T1.out.res
    go_wp2
    exact bodyPost_ret (results_row_one rfl _ _ (w.heap.size + 1) 24 _ (0, 0) _ rfl HE.out.1 Try.underlying24 rfl Try.size24) rfl ⟨none, 0, 0, by rw [E1.out, E2.out]; rfl, by rw [E3.out]; exact HE.out.2.1, HE.out.2.2⟩

  | true =>
    have HO := hide (hb.out.1 rfl)
    have hn : n ≤ 64 := by have := HO.out.2.1; have := HL.out; omega
    clear hb
    have hc := T1.out.box.cells
    have hl := T1.out.box.lt
    have s1 := T1.out.bel.size
    have E3 : Hid (turnZ true zs = zs) := rfl
    have B1 := HO.out.1.1
    have B2 := HO.out.1.2
    go_wp2_with fail
    refine (fresh_any t A n c B zs _ R1.out (Nat.le_trans hB s1) (by omega)).mono ?_
    rintro e u2 ⟨A2, n2, c2, rfl, r2, b2⟩
    have S2 := hide (St.behind T1.out r2 b2 t)
    have T2 := hide (T1.out.step b2)
    have R2 := hide (r2.less T1.out.size)
    have RA := hide (R1.out.below (below_al (o := .cells (C2 t A2 n2 c2) 24) b2) (Nat.le_trans hB s1))
    clear r2 b2 hc hl
    have hc := T2.out.box.cells
    have hl := T2.out.box.lt
    by_cases ht : t = 1152921504606846976
    · subst ht
      have E1 : Hid (turnB true s 1152921504606846976 = false) := by show _ = _; cases s <;> decide
      have E2 : Hid (turnT true s 1152921504606846976 = 1152921504606846976) := by show _ = _; cases s <;> decide
      have HE := hide (T2.out.tell R2.out 1152921504606846976)
      obtain ⟨y0, f0, y1, f1⟩ := zero_cells T2.out.res
      have hlr := T2.out.res.lt
      have ne1 : w.heap.size + 1 ≠ u2.heap.size := by omega
      clear hs
      go_wp2
      exact bodyPost_ret (results_row_one rfl _ _ (w.heap.size + 1) 24 _ (0, 0) _ rfl (HE.out.1.alloc _) Try.underlying24 rfl Try.size24) rfl ⟨A2, n2, c2, by rw [E1.out, E2.out]; rfl, by rw [E3.out]; exact HE.out.2.1.alloc _, HE.out.2.2.alloc HE.out.2.2.size _⟩
    have f3 : (t == 1152921504606846976) = false := by simpa using ht
    obtain ⟨U, hU⟩ : ∃ U, Hid (u2.alloc (.cells #[.int .i64 t, .slice A2 n2 c2] 24) = U) := ⟨_, rfl⟩
    obtain ⟨hb, hhb⟩ : ∃ hb, Hid (u2.heap.size = hb) := ⟨_, rfl⟩
    have AF : Hid (St w U (C2 t A n c) hb t A2 n2 c2 zs) := by show St _ _ _ _ _ _ _ _ _; rw [← hU.out, ← hhb.out]; exact S2.out
    have RU : Hid (Reads U B A n c zs) := by show Reads _ _ _ _ _ _; rw [← hU.out]; exact RA.out
    go_wp2_with fail
    rw [hU.out, hhb.out]
    have sU := AF.out.two.bel.size
    refine (step_any t A n c B zs s _ RU.out (Nat.le_trans hB sU) hn hs).mono ?_
    rintro e u3 ⟨rfl, b3⟩
    have S3 := hide (AF.out.step b3)
    clear hs b3 hc hl S2 T2 R2 RA AF RU sU
    have hcb := S3.out.box.cells
    have hfb := S3.out.box.frozen
    have hlb := S3.out.box.lt
    have gb := S3.out.ge
    have ne6 : hb ≠ w.heap.size + 1 := by omega
    have ne7 : w.heap.size + 1 ≠ hb := by omega
    obtain ⟨y0, f0, y1, f1⟩ := zero_cells S3.out.two.res
    have hlr := S3.out.two.res.lt
    cases s with
    | false =>
      have E1 : Hid (turnB true false t = false) := rfl
      have E2 : Hid (turnT true false t = t) := rfl
      have HE := hide (S3.out.two.tell S3.out.row t)
      clear ht
      go_wp2
      exact bodyPost_ret (results_row_one rfl _ _ (w.heap.size + 1) 24 _ (0, 0) _ rfl HE.out.1 Try.underlying24 rfl Try.size24) rfl ⟨A2, n2, c2, by rw [E1.out, E2.out]; rfl, by rw [E3.out]; exact HE.out.2.1, HE.out.2.2⟩
    | true =>
      have E1 : Hid (turnB true true t = true) := by show _ = _; unfold turnB; simpa using ht
      have E2 : Hid (turnT true true t = t + 1) := by show _ = _; unfold turnT; rw [E1.out]; rfl
      have S4 := hide (S3.out.now (t + 1))
      have HE := hide (S4.out.two.tell S4.out.row (t + 1))
      clear ht
      go_wp2
      exact bodyPost_ret (results_row_one rfl _ _ (w.heap.size + 1) 24 _ (0, 0) _ rfl HE.out.1 Try.underlying24 rfl Try.size24) rfl ⟨A2, n2, c2, by rw [E1.out, E2.out]; rfl, by rw [E3.out]; exact HE.out.2.1, HE.out.2.2⟩

set_option maxHeartbeats 4000000 in
theorem rturn_any (t : Int) (A : Option Addr) (n c B : Nat) (zs : List Int) (b s : Bool) (w : World) (hr : Reads w B A n c zs) (hB : B ≤ w.heap.size) (hb : Hid (b = true ↔ Ok t zs)) (hs : Hid (s = true ↔ Step t zs)) :
    Calls Try.prog 23 #[V2 t A n c] w (Tell2 w (turnT b s t) (turnZ b zs) (.bool (turnB b s t))) := by
  have T0 := hide (Two.first w (C2 t A n c))
  have HL := hide hr.len
  have R0 := hide (hr.below T0.out.bel hB)
  clear hr
  go_enter Try.func23, Try.ntmps23
  go_wp2_with fail
  refine (rcheck_any t A n c B zs b _ R0.out (Nat.le_trans hB T0.out.bel.size) hb).mono ?_
  rintro e u1 ⟨rfl, b1⟩
  have T1 := hide (T0.out.step b1)
  have R1 := hide (R0.out.below b1 (Nat.le_trans hB T0.out.bel.size))
  clear b1 T0 R0
  cases b with
  | false =>
    have E1 : Hid (turnB false s t = false) := rfl
    have E2 : Hid (turnT false s t = 0) := rfl
    have E3 : Hid (turnZ false zs = []) := rfl
    clear hb hs
    rw [show chk false = 1 from rfl]
    have HE := hide (Two.none T1.out)
    obtain ⟨y0, f0, y1, f1⟩ := zero_cells T1.out.res
    go_wp2
    exact bodyPost_ret (results_row_one rfl _ _ (w.heap.size + 1) 24 _ (0, 0) _ rfl HE.out.1 Try.underlying24 rfl Try.size24) rfl ⟨none, 0, 0, by rw [E1.out, E2.out]; rfl, by rw [E3.out]; exact HE.out.2.1, HE.out.2.2⟩

  | true =>
    have HO := hide (hb.out.1 rfl)
    have hn : n ≤ 64 := by have := HO.out.2.1; have := HL.out; omega
    clear hb
    rw [show chk true = 0 from rfl]
    have hc := T1.out.box.cells
    have hl := T1.out.box.lt
    have s1 := T1.out.bel.size
    have HCp : Hid (∀ u, Hid (Below u1.heap.size u1 u) → Calls Try.prog 17 #[.slice A n c] u (Tell u zs)) := fun u hu => rcopy_any _ _ _ B _ _ (R1.out.below hu.out (Nat.le_trans hB T1.out.bel.size)) (by omega)
    have hN : Hid (∀ u, Hid (Below u1.heap.size u1 u) → (u.cell? ⟨w.heap.size, 0, none⟩ = some (.int .i64 t) ∧ u.cell? ⟨w.heap.size, 1, none⟩ = some (.slice A n c) ∧ Hid (Below u1.heap.size u1 u))) :=
      fun u hu => ⟨(T1.out.step hu.out).box.cells 0, (T1.out.step hu.out).box.cells 1, hu⟩
    have D0 := hide ((Below.refl u1.heap.size u1).drew)
    have D1 := hide (below_al (o := .cells zeros2 24) D0.out)
    have TD := hide (T1.out.step D0.out)
    go_wp2
    clear hc hl
    go_region_held3 (fun u => u.cell? ⟨w.heap.size, 0, none⟩ = some (.int .i64 t) ∧ u.cell? ⟨w.heap.size, 1, none⟩ = some (.slice A n c) ∧ Hid (Below u1.heap.size u1 u))
      (first | exact hN.out _ D0 | exact hN.out _ (by assumption) | exact hN.out _ (hide (below_al (Hid.out (by assumption)))) | exact hN.out _ (hide (set2_below (Hid.out (by assumption)) (Nat.le_refl _) _ _)) | exact hN.out _ (hide (set2_below (Hid.out (by assumption)) (Below.size (Hid.out (by assumption))) _ _)))
      (first | (go_at_call 17; refine (HCp.out u1.drew D0).mono ?_; rintro e u5 ⟨A5, n5, c5, rfl, r5, b5⟩; have BU := hide (next_call D0.out (Nat.le_refl _) b5)) | (go_at_call 17; refine (HCp.out (u1.drew.alloc (.cells zeros2 24)) D1).mono ?_; rintro e u5 ⟨A5, n5, c5, rfl, r5, b5⟩; have BU := hide (next_call D1.out (Nat.le_refl _) b5); have HZ := hide (box_drew b5); obtain ⟨y0, fz0, y1, fz1⟩ := zero_cells HZ.out; have hlz := HZ.out.lt))
    · have AF0 := hide (St.behind TD.out r5 b5 t)
      obtain rfl : n5 = n := by have := r5.len; have := HL.out; omega
      obtain ⟨U, hU⟩ : ∃ U, Hid (u5.alloc (.cells #[.int .i64 t, .slice A5 n5 c5] 24) = U) := ⟨_, rfl⟩
      obtain ⟨hb, hhb⟩ : ∃ hb, Hid (u5.heap.size = hb) := ⟨_, rfl⟩
      have AF : Hid (St w U (C2 t A n5 c) hb t A5 n5 c5 zs) := by show St _ _ _ _ _ _ _ _ _; rw [← hU.out, ← hhb.out]; exact AF0.out
      have BW : Hid (Below u1.heap.size u1 U) := by show Below _ _ _; rw [← hU.out]; exact below_al BU.out
      rw [hU.out, hhb.out]
      clear AF0 r5 b5 BU hN HCp D0 D1 TD 
      have hc := AF.out.two.box.cells
      have hl := AF.out.two.box.lt
      have hcb := AF.out.box.cells
      have hfb := AF.out.box.frozen
      have hlb := AF.out.box.lt
      have gb := AF.out.ge
      have ne6 : hb ≠ w.heap.size + 1 := by omega
      obtain ⟨y0, f0, y1, f1⟩ := zero_cells AF.out.two.res
      have hlr := AF.out.two.res.lt
      have HRU := hide (R1.out.below BW.out (Nat.le_trans hB T1.out.bel.size))
      go_wp2
      go_loopw [20] (fun i wr => ∃ k : Nat, k ≤ n5 ∧ i = .int .i64 k ∧ wr = U ∧ Hid (∀ j, j < k → (zs.getD j 0 = -1 ∨ zs.getD j 0 = t))) (fun i _ => n5 - (intOf i).toNat)
      case atStart => exact ⟨0, by omega, rfl, rfl, by intro j hj; omega⟩
      case round =>
        obtain ⟨k, hk, rfl, rfl, HA⟩ := hrel
        by_cases hlt : k < n5
        · obtain ⟨bA, oA, rfl, hbA, hx⟩ := HRU.out.1.at_ hlt
          obtain ⟨z, EZ⟩ : ∃ z, Hid (zs.getD k 0 = z) := ⟨_, rfl⟩
          rw [EZ.out] at hx
          by_cases e1 : z = -1
          · subst e1
            have HN : Hid (∀ j, j < k + 1 → (zs.getD j 0 = -1 ∨ zs.getD j 0 = t)) := by
              intro j hj
              by_cases hjk : j = k
              · subst hjk; exact .inl EZ.out
              · exact HA.out j (by omega)
            go_wp2
            go_roundw
            case rel => exact ⟨k + 1, by omega, by go_num, trivial, HN⟩
            case measure => simp [intOf]; omega
          have f1 : (z != -1) = true := by simpa using e1
          by_cases e2 : z = t
          · subst e2
            have f2 : (z != z) = false := by simp
            have HN : Hid (∀ j, j < k + 1 → (zs.getD j 0 = -1 ∨ zs.getD j 0 = z)) := by
              intro j hj
              by_cases hjk : j = k
              · subst hjk; exact .inr EZ.out
              · exact HA.out j (by omega)
            go_wp2
            go_roundw
            case rel => exact ⟨k + 1, by omega, by go_num, trivial, HN⟩
            case measure => simp [intOf]; omega
          have f2 : (z != t) = true := by simpa using e2
          obtain rfl : s = false := by
            cases s with
            | false => rfl
            | true =>
              rcases hs.out.1 rfl z (by rw [← EZ.out]; exact get_mem (by have := HL.out; omega)) with h | h
              · exact absurd h e1
              · exact absurd h e2
          have E1 : Hid (turnB true false t = false) := rfl
          have E2 : Hid (turnT true false t = t) := rfl
          have E3 : Hid (turnZ true zs = zs) := rfl
          have HE := hide (AF.out.two.tell AF.out.row t)
          clear e1 e2 hs
          go_wp2
          exact bodyPost_ret (results_row_one rfl _ _ (w.heap.size + 1) 24 _ (0, 0) _ rfl HE.out.1 Try.underlying24 rfl Try.size24) rfl ⟨A5, n5, c5, by rw [E1.out, E2.out]; rfl, by rw [E3.out]; exact HE.out.2.1, HE.out.2.2⟩
        · obtain rfl : s = true := hs.out.2 (fun z hz => by
            obtain ⟨i, hi, rfl⟩ := mem_get hz
            exact HA.out i (by have := HL.out; omega))
          clear hs
          by_cases ht : t = 1152921504606846976
          · subst ht
            have E1 : Hid (turnB true true 1152921504606846976 = false) := by show _ = _; decide
            have E2 : Hid (turnT true true 1152921504606846976 = 1152921504606846976) := by show _ = _; decide
            have E3 : Hid (turnZ true zs = zs) := rfl
            have HE := hide (AF.out.two.tell AF.out.row 1152921504606846976)
            go_wp2
            exact bodyPost_ret (results_row_one rfl _ _ (w.heap.size + 1) 24 _ (0, 0) _ rfl HE.out.1 Try.underlying24 rfl Try.size24) rfl ⟨A5, n5, c5, by rw [E1.out, E2.out]; rfl, by rw [E3.out]; exact HE.out.2.1, HE.out.2.2⟩
          · have f3 : (t == 1152921504606846976) = false := by simpa using ht
            have E1 : Hid (turnB true true t = true) := by show _ = _; unfold turnB; simpa using ht
            have E2 : Hid (turnT true true t = t + 1) := by show _ = _; unfold turnT; rw [E1.out]; rfl
            have E3 : Hid (turnZ true zs = zs) := rfl
            have S2 := hide (AF.out.now (t + 1))
            have HE := hide (S2.out.two.tell S2.out.row (t + 1))
            have ne7 : w.heap.size + 1 ≠ hb := by omega
            have b1 := HO.out.1.1
            have b2 := HO.out.1.2
            clear ht
            go_wp2
            exact bodyPost_ret (results_row_one rfl _ _ (w.heap.size + 1) 24 _ (0, 0) _ rfl HE.out.1 Try.underlying24 rfl Try.size24) rfl ⟨A5, n5, c5, by rw [E1.out, E2.out]; rfl, by rw [E3.out]; exact HE.out.2.1, HE.out.2.2⟩
    · have AF0 := hide (St.before TD.out b5 r5 t)
      obtain rfl : n5 = n := by have := r5.len; have := HL.out; omega
      obtain ⟨U, hU⟩ : ∃ U, Hid ((u5.setCell ⟨u1.heap.size, 0, none⟩ (.int .i64 t)).setCell ⟨u1.heap.size, 1, none⟩ (.slice A5 n5 c5) = U) := ⟨_, rfl⟩
      obtain ⟨hb, hhb⟩ : ∃ hb, Hid (u1.heap.size = hb) := ⟨_, rfl⟩
      have AF : Hid (St w U (C2 t A n5 c) hb t A5 n5 c5 zs) := by show St _ _ _ _ _ _ _ _ _; rw [← hU.out, ← hhb.out]; exact AF0.out
      have BW : Hid (Below u1.heap.size u1 U) := by show Below _ _ _; rw [← hU.out]; exact set2_below BU.out (Nat.le_refl _) _ _
      rw [hU.out, hhb.out]
      clear AF0 r5 b5 BU hN HCp D0 D1 TD HZ y0 fz0 y1 fz1 hlz
      have hc := AF.out.two.box.cells
      have hl := AF.out.two.box.lt
      have hcb := AF.out.box.cells
      have hfb := AF.out.box.frozen
      have hlb := AF.out.box.lt
      have gb := AF.out.ge
      have ne6 : hb ≠ w.heap.size + 1 := by omega
      obtain ⟨y0, f0, y1, f1⟩ := zero_cells AF.out.two.res
      have hlr := AF.out.two.res.lt
      have HRU := hide (R1.out.below BW.out (Nat.le_trans hB T1.out.bel.size))
      go_wp2
      go_loopw [20] (fun i wr => ∃ k : Nat, k ≤ n5 ∧ i = .int .i64 k ∧ wr = U ∧ Hid (∀ j, j < k → (zs.getD j 0 = -1 ∨ zs.getD j 0 = t))) (fun i _ => n5 - (intOf i).toNat)
      case atStart => exact ⟨0, by omega, rfl, rfl, by intro j hj; omega⟩
      case round =>
        obtain ⟨k, hk, rfl, rfl, HA⟩ := hrel
        by_cases hlt : k < n5
        · obtain ⟨bA, oA, rfl, hbA, hx⟩ := HRU.out.1.at_ hlt
          obtain ⟨z, EZ⟩ : ∃ z, Hid (zs.getD k 0 = z) := ⟨_, rfl⟩
          rw [EZ.out] at hx
          by_cases e1 : z = -1
          · subst e1
            have HN : Hid (∀ j, j < k + 1 → (zs.getD j 0 = -1 ∨ zs.getD j 0 = t)) := by
              intro j hj
              by_cases hjk : j = k
              · subst hjk; exact .inl EZ.out
              · exact HA.out j (by omega)
            go_wp2
            go_roundw
            case rel => exact ⟨k + 1, by omega, by go_num, trivial, HN⟩
            case measure => simp [intOf]; omega
          have f1 : (z != -1) = true := by simpa using e1
          by_cases e2 : z = t
          · subst e2
            have f2 : (z != z) = false := by simp
            have HN : Hid (∀ j, j < k + 1 → (zs.getD j 0 = -1 ∨ zs.getD j 0 = z)) := by
              intro j hj
              by_cases hjk : j = k
              · subst hjk; exact .inr EZ.out
              · exact HA.out j (by omega)
            go_wp2
            go_roundw
            case rel => exact ⟨k + 1, by omega, by go_num, trivial, HN⟩
            case measure => simp [intOf]; omega
          have f2 : (z != t) = true := by simpa using e2
          obtain rfl : s = false := by
            cases s with
            | false => rfl
            | true =>
              rcases hs.out.1 rfl z (by rw [← EZ.out]; exact get_mem (by have := HL.out; omega)) with h | h
              · exact absurd h e1
              · exact absurd h e2
          have E1 : Hid (turnB true false t = false) := rfl
          have E2 : Hid (turnT true false t = t) := rfl
          have E3 : Hid (turnZ true zs = zs) := rfl
          have HE := hide (AF.out.two.tell AF.out.row t)
          clear e1 e2 hs
          go_wp2
          exact bodyPost_ret (results_row_one rfl _ _ (w.heap.size + 1) 24 _ (0, 0) _ rfl HE.out.1 Try.underlying24 rfl Try.size24) rfl ⟨A5, n5, c5, by rw [E1.out, E2.out]; rfl, by rw [E3.out]; exact HE.out.2.1, HE.out.2.2⟩
        · obtain rfl : s = true := hs.out.2 (fun z hz => by
            obtain ⟨i, hi, rfl⟩ := mem_get hz
            exact HA.out i (by have := HL.out; omega))
          clear hs
          by_cases ht : t = 1152921504606846976
          · subst ht
            have E1 : Hid (turnB true true 1152921504606846976 = false) := by show _ = _; decide
            have E2 : Hid (turnT true true 1152921504606846976 = 1152921504606846976) := by show _ = _; decide
            have E3 : Hid (turnZ true zs = zs) := rfl
            have HE := hide (AF.out.two.tell AF.out.row 1152921504606846976)
            go_wp2
            exact bodyPost_ret (results_row_one rfl _ _ (w.heap.size + 1) 24 _ (0, 0) _ rfl HE.out.1 Try.underlying24 rfl Try.size24) rfl ⟨A5, n5, c5, by rw [E1.out, E2.out]; rfl, by rw [E3.out]; exact HE.out.2.1, HE.out.2.2⟩
          · have f3 : (t == 1152921504606846976) = false := by simpa using ht
            have E1 : Hid (turnB true true t = true) := by show _ = _; unfold turnB; simpa using ht
            have E2 : Hid (turnT true true t = t + 1) := by show _ = _; unfold turnT; rw [E1.out]; rfl
            have E3 : Hid (turnZ true zs = zs) := rfl
            have S2 := hide (AF.out.now (t + 1))
            have HE := hide (S2.out.two.tell S2.out.row (t + 1))
            have ne7 : w.heap.size + 1 ≠ hb := by omega
            have b1 := HO.out.1.1
            have b2 := HO.out.1.2
            clear ht
            go_wp2
            exact bodyPost_ret (results_row_one rfl _ _ (w.heap.size + 1) 24 _ (0, 0) _ rfl HE.out.1 Try.underlying24 rfl Try.size24) rfl ⟨A5, n5, c5, by rw [E1.out, E2.out]; rfl, by rw [E3.out]; exact HE.out.2.1, HE.out.2.2⟩

end Go.Proofs.Yteckldjdkcbkdaa
