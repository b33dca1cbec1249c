/- For every number of threads and all steps: while a thread is pinned, no epoch from the one in which it was pinned on is safe. (The statement tendrillaw06.EraSafe.) -/
import Derived.Test.YteckldjdkcbkdaaRows
import Derived.Test.YteckldjdkcbkdaaLive
import Derived.Test.YteckldjdkcbkdaaFrame
import Derived.WalkKit
import Derived.Deep.DeepCutAuto
namespace Go.Proofs.Yteckldjdkcbkdaa.eraSafe
open Go.Joins Go.ChangeShapes Go.WideShapes Go.ChangeAt Go.RowKit Go.Deep
set_option linter.unusedVariables false

theorem at_of (a : Int) (m : Nat) (hm : 0 < m) (ha : 0 ≤ a) : ∃ p : Nat, p < m ∧ a % (m : Int) = (p : Int) := by
  have h1 := Int.emod_nonneg a (show (m : Int) ≠ 0 by omega)
  have h2 := Int.emod_lt_of_pos a (show (0 : Int) < (m : Int) by omega)
  exact ⟨(a % (m : Int)).toNat, by omega, by omega⟩

/-- An era in box h, and since when each is pinned, in block g. -/
structure Sf (w u : World) (h g n : Nat) (y : Int) (A : Option Addr) (n' c : Nat) (zs : List Int) : Prop where
  st : Stand w u h y A n' c zs
  since : Row u w.heap.size (some ⟨g, 0, none⟩) n n zs
  ap : ∀ a, A = some a → a.block ≠ g
section
variable {w u u' : World} {h g n n' c n5 c5 B : Nat} {y t' : Int} {A A5 : Option Addr} {zs ys : List Int}
theorem box_ne {cs : Array Value} (b : EBox u h cs) (r : Row u B (some ⟨g, 0, none⟩) n c zs) : g ≠ h := by
  intro e
  subst e
  rcases r.1.2 with ⟨h1, _⟩ | ⟨g', cap, cur, h1, hb, hg, _⟩
  · cases h1
  · simp only [Value.slice.injEq, Option.some.injEq, Addr.mk.injEq] at h1
    obtain ⟨⟨rfl, _⟩, _⟩ := h1
    have h2 : some (Obj.cells cs 24 (0, 0)) = some (Obj.cells cur 3 (0, 0)) := b.symm.trans hg
    simp at h2
theorem nums_other (h : Nums u B 1 A n zs) {k : Nat} (hk : ∀ a, A = some a → a.block ≠ k) (i : Nat) (v : Value) : Nums (u.setCell ⟨k, i, none⟩ v) B 1 A n zs :=
  ⟨h.1, fun hn => by
    obtain ⟨b, off, e, hlt, hc⟩ := h.2 hn
    have hbk : b ≠ k := hk _ e
    exact ⟨b, off, e, hlt, fun i' hi => (World.cell?_of_block (Below.heap_setCell u ⟨k, i, none⟩ v b (by simpa using hbk))).trans (hc i' hi)⟩⟩
/-- The era stays while the other list is written: they share nothing. -/
theorem since_st (s : Stand w u h y A n' c zs) (r : Row u w.heap.size (some ⟨g, 0, none⟩) n n ys) (ap : ∀ a, A = some a → a.block ≠ g) (k : Nat) (x : Int) : Stand w (u.setCell ⟨g, k, none⟩ (.int .i64 x)) h y A n' c zs :=
  ⟨s.bel.setCell (own_ge r.1).1 _, s.ge, s.box.other (box_ne s.box r) _, by
    refine ⟨?_, s.reads.2⟩
    have := nums_other s.reads.1 ap k (.int .i64 x)
    simpa using this⟩
theorem Sf.step (s : Sf w u h g n y A n' c zs) (b : Below u.heap.size u u') : Sf w u' h g n y A n' c zs := ⟨s.st.step b, s.since.below b, s.ap⟩
theorem Sf.turn (s : Sf w u h g n y A n' c zs) (r : Row u' u.heap.size A5 n5 c5 zs) (b : Below u.heap.size u u') (o : Obj) :
    Sf w (((u'.setCell ⟨h, 0, none⟩ (.int .i64 t')).setCell ⟨h, 1, none⟩ (.slice A5 n5 c5)).alloc o) h g n t' A5 n5 c5 zs :=
  ⟨(s.st.next r b t').alloc o, (set2_row (s.since.below b) (s.st.box.step b) _ _).alloc o, fun a ha => by have := (own_addr r.1 a ha).1; have := (own_ge s.since.1).2; omega⟩
theorem Sf.put {X : Nat} {x : Int} (s : Sf w u h g n y A n' c zs) (r : Row u' u.heap.size A5 n5 c5 ys) (b : Below u.heap.size u u') (e : ys = zs.set X x) (o : Obj) :
    Sf w ((((u'.setCell ⟨g, X, none⟩ (.int .i64 x)).setCell ⟨h, 0, none⟩ (.int .i64 t')).setCell ⟨h, 1, none⟩ (.slice A5 n5 c5)).alloc o) h g n t' A5 n5 c5 ys := by
  have hg := own_ge s.since.1
  have hx : EBox (u'.setCell ⟨g, X, none⟩ (.int .i64 x)) h (C2 y A n' c) := (s.st.box.step b).other (box_ne s.st.box s.since) _
  have hb : Below w.heap.size w (u'.setCell ⟨g, X, none⟩ (.int .i64 x)) := (next_call s.st.bel (Nat.le_refl _) b).setCell hg.1 _
  have hr : Row (u'.setCell ⟨g, X, none⟩ (.int .i64 x)) u.heap.size A5 n5 c5 ys := r.free hg.2 _ _
  have hs : Row (u'.setCell ⟨g, X, none⟩ (.int .i64 x)) w.heap.size (some ⟨g, 0, none⟩) n n ys := by
    subst e
    exact ⟨own_set (s.since.below b).1 X x, fun h => by cases h⟩
  refine ⟨Stand.alloc ⟨set2_below hb s.st.ge _ _, s.st.ge, set2_box hx _ _, (set2_row hr hx _ _).reads⟩ o, (set2_row hs hx _ _).alloc o, fun a ha => ?_⟩
  have := (own_addr r.1 a ha).1
  omega
end

set_option maxRecDepth 100000 in
set_option maxHeartbeats 3000000 in
theorem walk (a0 : Int) (A1 : Option Addr) (n1 c1 : Nat) (z1 : List Int) (w : World) (w0 : (Lit.int .i64 a0).wf = true) (w1 : Came w 1 A1 n1 c1 z1) :
    Calls Try.prog 5 #[.int .i64 a0, .slice A1 n1 c1] w (Drew (.bool true) w) := by
  have HC := hide w1
  clear w0 w1
  go_enter Try.func5, Try.ntmps5
  go_wp2_with fail
  refine (live_yes _).mono ?_
  rintro e u1 ⟨rfl, b1⟩
  have B1 := hide b1
  clear b1
  by_cases k1 : a0 < 1
  · have d1 : decide (a0 < 1) = true := by simpa using k1
    go_wp2
    go_ret
    exact ⟨rfl, B1.out⟩
  have d1 : decide (a0 < 1) = false := by simpa using k1
  by_cases k2 : 8 < a0
  · have d2 : decide (8 < a0) = true := by simpa using k2
    go_wp2
    go_ret
    exact ⟨rfl, B1.out⟩
  have d2 : decide (8 < a0) = false := by simpa using k2
  by_cases k3 : 100 < n1
  · have d3 : decide ((100 : Int) < (n1 : Int)) = true := by simp; omega
    go_wp2
    go_ret
    exact ⟨rfl, B1.out⟩
  have d3 : decide ((100 : Int) < (n1 : Int)) = false := by simp; omega
  obtain ⟨n, rfl⟩ : ∃ n : Nat, a0 = (n : Int) := ⟨a0.toNat, by omega⟩
  have hn1 : 1 ≤ n := by omega
  have hn8 : n ≤ 8 := by omega
  have hk : n1 ≤ 100 := by omega
  obtain ⟨Z, HZ, hmk⟩ := make_ints n (by omega)
  go_wp2_with fail
  refine (new_ok n _ hn1 (by omega)).mono ?_
  rintro e u2 ⟨A2, n2, c2, rfl, r2, b2⟩
  have B2 := hide (next_call B1.out (Nat.le_refl _) b2)
  have S2 := hide (Stand.first B2.out r2 0)
  obtain rfl : n2 = n := by have := r2.len; simpa using this.symm
  have ne0 : ((n2 : Int) != (n2 : Int)) = false := by simp
  have HA2 : Hid (∀ a, A2 = some a → a.block < u2.heap.size) := fun a ha => (own_addr r2.1 a ha).2
  obtain ⟨h, hh⟩ : ∃ h, Hid (u2.heap.size = h) := ⟨_, rfl⟩
  have S3 := hide (S2.out.alloc (.cells Z 3))
  have R3 : Hid (Row ((u2.alloc (.cells (C2 0 A2 n2 c2) 24)).alloc (.cells Z 3)) w.heap.size (some ⟨u2.heap.size + 1, 0, none⟩) n2 n2 (negs n2 0)) :=
    ⟨own_of (by rw [heap_alloc2_new u2 _ _, HZ.out, negs_zero]; simp [ints]) (negs_len (by omega)) (by omega) (by have := B2.out.size; omega), fun h => by cases h⟩
  clear r2 b2 d1 d2 d3 k1 k2 k3
  rw [hh.out] at S3 R3
  go_wp2
  rw [hh.out]
  clear hmk HZ S2 B1 ne0
  obtain ⟨g, hg⟩ : ∃ g, Hid (h + 1 = g) := ⟨_, rfl⟩
  have HAP : Hid (∀ a, A2 = some a → a.block ≠ g) := fun a ha => by have := HA2.out a ha; have := hh.out; have := hg.out; omega
  rw [hg.out] at R3 ⊢
  go_loopw [52] (fun i wr => ∃ k : Nat, k ≤ n2 ∧ i = .int .i64 k ∧ Hid (Stand w wr h 0 A2 n2 c2 (List.replicate n2 (-1))) ∧ Hid (Row wr w.heap.size (some ⟨g, 0, none⟩) n2 n2 (negs n2 k))) (fun i _ => n2 - (intOf i).toNat)
  case atStart => exact ⟨0, by omega, rfl, S3, R3⟩
  case round =>
    obtain ⟨k, hkk, rfl, S4, R4⟩ := hrel
    clear S3 R3
    by_cases hlt : k < n2
    · have v1 := own_at R4.out.1 hlt
      have v2 := R4.out.1.frozenAt k
      have v3 := (own_ge R4.out.1).2
      generalize (negs n2 k).getD k 0 = z at v1
      go_wp2
      go_roundw
      case rel =>
        refine ⟨k + 1, by omega, by go_num, since_st S4.out R4.out HAP.out k (-1), ?_⟩
        show Row _ _ _ _ _ _
        rw [← negs_next hlt]
        exact ⟨own_set R4.out.1 _ _, fun h => by cases h⟩
      case measure => simp [intOf]; omega
    · obtain rfl : k = n2 := by omega
      have X0 : Hid (Sf w wr h g k 0 A2 k c2 (List.replicate k (-1))) := ⟨S4.out, by rw [← negs_all]; exact R4.out, HAP.out⟩
      have O0 : Hid (Ok 0 (List.replicate k (-1)) ∧ (List.replicate k (-1 : Int)).length = k) := ⟨⟨by omega, by simp; omega, fun z hz => .inl (List.eq_of_mem_replicate hz)⟩, by simp⟩
      clear S4 R4
      go_wp2
      go_loopw [61] (fun i wr => ∃ (j : Nat) (y : Int) (A : Option Addr) (c : Nat) (zs : List Int), j ≤ n1 ∧ i = .int .i64 j ∧ y ≤ (j : Int) ∧ Hid (Sf w wr h g k y A k c zs) ∧ Hid (Ok y zs ∧ zs.length = k)) (fun i _ => n1 - (intOf i).toNat)
      case atStart => exact ⟨0, 0, A2, c2, _, by omega, rfl, by omega, X0, O0⟩
      case round =>
        obtain ⟨j, y, A, c, zs, hj, rfl, hy, X, OK⟩ := hrel
        clear X0 O0
        by_cases hjl : j < n1
        · obtain ⟨bs, os, rfl, hbs, cs⟩ := (HC.out.1.below X.out.st.bel (Nat.le_refl _)).at_ hjl
          obtain ⟨s, hs⟩ : ∃ s, Hid (z1.getD j 0 = s) := ⟨_, rfl⟩
          rw [hs.out] at cs
          have HWF := hide (wf_bounds (HC.out.2.2.2 s (by rw [← hs.out]; exact get_mem (by have := HC.out.1.1; omega))))
          by_cases hs0 : s < 0
          · have e0 : decide (s < 0) = true := by simpa using hs0
            go_wp2
            go_ret
            exact ⟨rfl, X.out.st.bel⟩
          have e0 : decide (s < 0) = false := by simpa using hs0
          have hs1 : 0 ≤ s := by omega
          have hs2 := HWF.out.2
          have y0 := OK.out.1.1.1
          clear hs0
          go_upto_region 20 with (fail)
          clear cs
          obtain ⟨X0, hX, ep⟩ := at_of (s / 3) k (by omega) (by omega)
          rw [ep]
          clear ep
          by_cases hx0 : s % 3 = 0
          · have g0 : (s % 3 == 0) = true := by simpa using hx0
            clear hx0
            have hc := X.out.st.box.cells
            have hl := X.out.st.box.lt
            obtain ⟨z, EZ⟩ : ∃ z, Hid (zs.getD X0 0 = z) := ⟨_, rfl⟩
            have hlen := OK.out.2
            by_cases hz : z = -1
            · have OKN : Hid (Ok y (zs.set X0 y) ∧ (zs.set X0 y).length = k) := ⟨ok_set OK.out.1 X0 (.inr (.inl rfl)), by simpa using hlen⟩
              have HP : Hid (Calls Try.prog 18 #[V2 y A k c, .int .i64 (X0 : Int)] wr (Tell2 wr y (zs.set X0 y) (.int .i64 0))) := by
                have h0 := pin_any y A k c _ zs true (X0 : Int) wr X.out.st.reads (Nat.le_refl _) (yes_of OK.out.1)
                have E1 := pinE_ok (b := true) (zs := zs) (X := X0) rfl (by omega) (EZ.out.trans hz)
                have E2 := pin_yes (b := true) (t := y) (zs := zs) (X := X0) E1
                rw [E1, E2.1, E2.2] at h0
                exact h0
              subst hz
              go_wp2_with fail
              refine HP.out.mono ?_
              rintro e u5 ⟨A5, n5, c5, rfl, r5, b5⟩
              clear hc hl
              have X5 := hide (X.out.step b5)
              have hc := X5.out.st.box.cells
              have hl := X5.out.st.box.lt
              have hf := X5.out.st.box.frozen
              have v1 := own_at X5.out.since.1 hX
              have v2 := X5.out.since.1.frozenAt X0
              have v3 := (own_ge X5.out.since.1).2
              rw [EZ.out] at v1
              have ne1 : g ≠ h := box_ne X5.out.st.box X5.out.since
              have ne2 : h ≠ g := ne1.symm
              have ne3 : g ≠ u5.heap.size := by omega
              have ne4 : h ≠ u5.heap.size := by omega
              obtain rfl : n5 = k := by have := r5.len; have := OKN.out.2; omega
              have XN := hide (X.out.put (t' := y) r5 b5 rfl (.cells (C2 y A5 n5 c5) 24))
              clear r5 b5 X X5
              go_wp2_with fail
              refine (check_any y A5 n5 c5 _ (zs.set X0 y) true _ XN.out.st.reads (Nat.le_refl _) (yes_of OKN.out.1)).mono ?_
              rintro e vv1 ⟨rfl, dd1⟩
              rw [show chk true = 0 from rfl]
              have X6 := hide (XN.out.step dd1)
              clear dd1 XN hc hl hf v1 v2 v3 HP
              go_wp2
              go_loopw [149] (fun i wr1 => ∃ x : Nat, x ≤ n5 ∧ i = .int .i64 x ∧ Hid (Sf w wr1 h g n5 y A5 n5 c5 (zs.set X0 y))) (fun i _ => n5 - (intOf i).toNat)
              case atStart => exact ⟨0, by omega, rfl, X6⟩
              case round =>
                obtain ⟨x, hx, rfl, X7⟩ := hrel
                clear X6
                have hc := X7.out.st.box.cells
                have hl := X7.out.st.box.lt
                by_cases hxl : x < n5
                · have v1 := own_at X7.out.since.1 hxl
                  have v3 := (own_ge X7.out.since.1).2
                  have HPo : Hid (PinOk y (((zs.set X0 y)).getD x 0)) := OKN.out.1.2.2 _ (get_mem (by have := OKN.out.2; omega))
                  generalize ((zs.set X0 y)).getD x 0 = zz at v1 HPo
                  by_cases e1 : zz = -1
                  · subst e1
                    go_wp2
                    go_roundw
                    case rel => exact ⟨x + 1, by omega, by go_num, X7⟩
                    case measure => simp [intOf]; omega
                  have f1 : (zz != -1) = true := by simpa using e1
                  have b1 : y - 1 ≤ zz := by have := HPo.out; unfold PinOk at this; omega
                  have b2 : zz ≤ y := by have := HPo.out; have := OKN.out.1.1; unfold PinOk at *; omega
                  have f2 : decide (zz ≤ y - 2) = false := by simp; omega
                  have f3 : decide (zz + 1 < y) = false := by simp; omega
                  have HSa : Hid (Calls Try.prog 15 #[V2 (y) A5 n5 c5] wr (Drew (.int .i64 (y - 2)) wr)) := safe_any (y) A5 n5 c5 _ ((zs.set X0 y)) true wr X7.out.st.reads (Nat.le_refl _) (yes_of OKN.out.1)
                  go_wp2_with fail
                  refine HSa.out.mono ?_
                  rintro e vv2 ⟨rfl, dd2⟩
                  have X8 := hide (X7.out.step dd2)
                  clear dd2 hc hl X7 v1 v3
                  have hc := X8.out.st.box.cells
                  have hl := X8.out.st.box.lt
                  go_wp2
                  go_roundw
                  case rel => exact ⟨x + 1, by omega, by go_num, X8⟩
                  case measure => simp [intOf]; omega
                · clear hc hl
                  go_wp2
                  go_roundw
                  case rel => exact ⟨j + 1, y, A5, c5, (zs.set X0 y), by omega, by go_num, by omega, X7, OKN⟩
                  case measure => simp [intOf]; omega

            · have HP : Hid (Calls Try.prog 18 #[V2 y A k c, .int .i64 (X0 : Int)] wr (Tell2 wr 0 [] (.int .i64 1))) := by
                have h0 := pin_any y A k c _ zs true (X0 : Int) wr X.out.st.reads (Nat.le_refl _) (yes_of OK.out.1)
                have E1 := pinE_taken (b := true) (zs := zs) (X := X0) (by rw [EZ.out]; exact hz)
                have E2 := pin_no (b := true) (t := y) (zs := zs) (k := (X0 : Int)) E1
                rw [E1, E2.1, E2.2] at h0
                exact h0
              have f0 : (z == -1) = false := by simpa using hz
              clear hz
              go_wp2_with fail
              refine HP.out.mono ?_
              rintro e u5 ⟨A5, n5, c5, rfl, r5, b5⟩
              clear hc hl
              have X5 := hide (X.out.step b5)
              have hc := X5.out.st.box.cells
              have hl := X5.out.st.box.lt
              have hf := X5.out.st.box.frozen
              have v1 := own_at X5.out.since.1 hX
              have v2 := X5.out.since.1.frozenAt X0
              have v3 := (own_ge X5.out.since.1).2
              rw [EZ.out] at v1
              have ne1 : g ≠ h := box_ne X5.out.st.box X5.out.since
              have ne2 : h ≠ g := ne1.symm
              have ne3 : g ≠ u5.heap.size := by omega
              have ne4 : h ≠ u5.heap.size := by omega
              have XN := hide (X.out.step (below_al (o := .cells (C2 0 A5 n5 c5) 24) b5))
              obtain rfl : n5 = 0 := by have := r5.len; simpa using this.symm
              clear r5 b5 X X5
              go_wp2_with fail
              refine (check_any y A k c _ zs true _ XN.out.st.reads (Nat.le_refl _) (yes_of OK.out.1)).mono ?_
              rintro e vv1 ⟨rfl, dd1⟩
              rw [show chk true = 0 from rfl]
              have X6 := hide (XN.out.step dd1)
              clear dd1 XN hc hl hf v1 v2 v3 HP
              go_wp2
              go_loopw [149] (fun i wr1 => ∃ x : Nat, x ≤ k ∧ i = .int .i64 x ∧ Hid (Sf w wr1 h g k y A k c zs)) (fun i _ => k - (intOf i).toNat)
              case atStart => exact ⟨0, by omega, rfl, X6⟩
              case round =>
                obtain ⟨x, hx, rfl, X7⟩ := hrel
                clear X6
                have hc := X7.out.st.box.cells
                have hl := X7.out.st.box.lt
                by_cases hxl : x < k
                · have v1 := own_at X7.out.since.1 hxl
                  have v3 := (own_ge X7.out.since.1).2
                  have HPo : Hid (PinOk y ((zs).getD x 0)) := OK.out.1.2.2 _ (get_mem (by have := OK.out.2; omega))
                  generalize (zs).getD x 0 = zz at v1 HPo
                  by_cases e1 : zz = -1
                  · subst e1
                    go_wp2
                    go_roundw
                    case rel => exact ⟨x + 1, by omega, by go_num, X7⟩
                    case measure => simp [intOf]; omega
                  have f1 : (zz != -1) = true := by simpa using e1
                  have b1 : y - 1 ≤ zz := by have := HPo.out; unfold PinOk at this; omega
                  have b2 : zz ≤ y := by have := HPo.out; have := OK.out.1.1; unfold PinOk at *; omega
                  have f2 : decide (zz ≤ y - 2) = false := by simp; omega
                  have f3 : decide (zz + 1 < y) = false := by simp; omega
                  have HSa : Hid (Calls Try.prog 15 #[V2 (y) A k c] wr (Drew (.int .i64 (y - 2)) wr)) := safe_any (y) A k c _ (zs) true wr X7.out.st.reads (Nat.le_refl _) (yes_of OK.out.1)
                  go_wp2_with fail
                  refine HSa.out.mono ?_
                  rintro e vv2 ⟨rfl, dd2⟩
                  have X8 := hide (X7.out.step dd2)
                  clear dd2 hc hl X7 v1 v3
                  have hc := X8.out.st.box.cells
                  have hl := X8.out.st.box.lt
                  go_wp2
                  go_roundw
                  case rel => exact ⟨x + 1, by omega, by go_num, X8⟩
                  case measure => simp [intOf]; omega
                · clear hc hl
                  go_wp2
                  go_roundw
                  case rel => exact ⟨j + 1, y, A, c, zs, by omega, by go_num, by omega, X7, OK⟩
                  case measure => simp [intOf]; omega

          have g0 : (s % 3 == 0) = false := by simpa using hx0
          clear hx0
          by_cases hx1 : s % 3 = 1
          · have g1 : (s % 3 == 1) = true := by simpa using hx1
            clear hx1
            have hc := X.out.st.box.cells
            have hl := X.out.st.box.lt
            obtain ⟨z, EZ⟩ : ∃ z, Hid (zs.getD X0 0 = z) := ⟨_, rfl⟩
            have hlen := OK.out.2
            by_cases hz : z = -1
            · have HP : Hid (Calls Try.prog 20 #[V2 y A k c, .int .i64 (X0 : Int)] wr (Tell2 wr 0 [] (.int .i64 2))) := by
                have h0 := unpin_any y A k c _ zs true (X0 : Int) wr X.out.st.reads (Nat.le_refl _) (yes_of OK.out.1)
                have E1 := unpE_none (b := true) (zs := zs) (X := X0) rfl (by omega) (EZ.out.trans hz)
                have E2 := unp_no (b := true) (t := y) (zs := zs) (k := (X0 : Int)) (by rw [E1]; decide)
                rw [E1, E2.1, E2.2] at h0
                exact h0
              subst hz
              go_wp2_with fail
              refine HP.out.mono ?_
              rintro e u5 ⟨A5, n5, c5, rfl, r5, b5⟩
              clear hc hl
              have X5 := hide (X.out.step b5)
              have hc := X5.out.st.box.cells
              have hl := X5.out.st.box.lt
              have hf := X5.out.st.box.frozen
              have v1 := own_at X5.out.since.1 hX
              have v2 := X5.out.since.1.frozenAt X0
              have v3 := (own_ge X5.out.since.1).2
              rw [EZ.out] at v1
              have ne1 : g ≠ h := box_ne X5.out.st.box X5.out.since
              have ne2 : h ≠ g := ne1.symm
              have ne3 : g ≠ u5.heap.size := by omega
              have ne4 : h ≠ u5.heap.size := by omega
              have XN := hide (X.out.step (below_al (o := .cells (C2 0 A5 n5 c5) 24) b5))
              obtain rfl : n5 = 0 := by have := r5.len; simpa using this.symm
              clear r5 b5 X X5
              go_wp2_with fail
              refine (check_any y A k c _ zs true _ XN.out.st.reads (Nat.le_refl _) (yes_of OK.out.1)).mono ?_
              rintro e vv1 ⟨rfl, dd1⟩
              rw [show chk true = 0 from rfl]
              have X6 := hide (XN.out.step dd1)
              clear dd1 XN hc hl hf v1 v2 v3 HP
              go_wp2
              go_loopw [149] (fun i wr1 => ∃ x : Nat, x ≤ k ∧ i = .int .i64 x ∧ Hid (Sf w wr1 h g k y A k c zs)) (fun i _ => k - (intOf i).toNat)
              case atStart => exact ⟨0, by omega, rfl, X6⟩
              case round =>
                obtain ⟨x, hx, rfl, X7⟩ := hrel
                clear X6
                have hc := X7.out.st.box.cells
                have hl := X7.out.st.box.lt
                by_cases hxl : x < k
                · have v1 := own_at X7.out.since.1 hxl
                  have v3 := (own_ge X7.out.since.1).2
                  have HPo : Hid (PinOk y ((zs).getD x 0)) := OK.out.1.2.2 _ (get_mem (by have := OK.out.2; omega))
                  generalize (zs).getD x 0 = zz at v1 HPo
                  by_cases e1 : zz = -1
                  · subst e1
                    go_wp2
                    go_roundw
                    case rel => exact ⟨x + 1, by omega, by go_num, X7⟩
                    case measure => simp [intOf]; omega
                  have f1 : (zz != -1) = true := by simpa using e1
                  have b1 : y - 1 ≤ zz := by have := HPo.out; unfold PinOk at this; omega
                  have b2 : zz ≤ y := by have := HPo.out; have := OK.out.1.1; unfold PinOk at *; omega
                  have f2 : decide (zz ≤ y - 2) = false := by simp; omega
                  have f3 : decide (zz + 1 < y) = false := by simp; omega
                  have HSa : Hid (Calls Try.prog 15 #[V2 (y) A k c] wr (Drew (.int .i64 (y - 2)) wr)) := safe_any (y) A k c _ (zs) true wr X7.out.st.reads (Nat.le_refl _) (yes_of OK.out.1)
                  go_wp2_with fail
                  refine HSa.out.mono ?_
                  rintro e vv2 ⟨rfl, dd2⟩
                  have X8 := hide (X7.out.step dd2)
                  clear dd2 hc hl X7 v1 v3
                  have hc := X8.out.st.box.cells
                  have hl := X8.out.st.box.lt
                  go_wp2
                  go_roundw
                  case rel => exact ⟨x + 1, by omega, by go_num, X8⟩
                  case measure => simp [intOf]; omega
                · clear hc hl
                  go_wp2
                  go_roundw
                  case rel => exact ⟨j + 1, y, A, c, zs, by omega, by go_num, by omega, X7, OK⟩
                  case measure => simp [intOf]; omega

            · have OKN : Hid (Ok y (zs.set X0 (-1)) ∧ (zs.set X0 (-1)).length = k) := ⟨ok_set OK.out.1 X0 (.inl rfl), by simpa using hlen⟩
              have HP : Hid (Calls Try.prog 20 #[V2 y A k c, .int .i64 (X0 : Int)] wr (Tell2 wr y (zs.set X0 (-1)) (.int .i64 0))) := by
                have h0 := unpin_any y A k c _ zs true (X0 : Int) wr X.out.st.reads (Nat.le_refl _) (yes_of OK.out.1)
                have E1 := unpE_ok (b := true) (zs := zs) (X := X0) rfl (by omega) (by rw [EZ.out]; exact hz)
                have E2 := unp_yes (b := true) (t := y) (zs := zs) (X := X0) E1
                rw [E1, E2.1, E2.2] at h0
                exact h0
              have f0 : (z != -1) = true := by simpa using hz
              clear hz
              go_wp2_with fail
              refine HP.out.mono ?_
              rintro e u5 ⟨A5, n5, c5, rfl, r5, b5⟩
              clear hc hl
              have X5 := hide (X.out.step b5)
              have hc := X5.out.st.box.cells
              have hl := X5.out.st.box.lt
              have hf := X5.out.st.box.frozen
              have v1 := own_at X5.out.since.1 hX
              have v2 := X5.out.since.1.frozenAt X0
              have v3 := (own_ge X5.out.since.1).2
              rw [EZ.out] at v1
              have ne1 : g ≠ h := box_ne X5.out.st.box X5.out.since
              have ne2 : h ≠ g := ne1.symm
              have ne3 : g ≠ u5.heap.size := by omega
              have ne4 : h ≠ u5.heap.size := by omega
              obtain rfl : n5 = k := by have := r5.len; have := OKN.out.2; omega
              have XN := hide (X.out.put (t' := y) r5 b5 rfl (.cells (C2 y A5 n5 c5) 24))
              clear r5 b5 X X5
              go_wp2_with fail
              refine (check_any y A5 n5 c5 _ (zs.set X0 (-1)) true _ XN.out.st.reads (Nat.le_refl _) (yes_of OKN.out.1)).mono ?_
              rintro e vv1 ⟨rfl, dd1⟩
              rw [show chk true = 0 from rfl]
              have X6 := hide (XN.out.step dd1)
              clear dd1 XN hc hl hf v1 v2 v3 HP
              go_wp2
              go_loopw [149] (fun i wr1 => ∃ x : Nat, x ≤ n5 ∧ i = .int .i64 x ∧ Hid (Sf w wr1 h g n5 y A5 n5 c5 (zs.set X0 (-1)))) (fun i _ => n5 - (intOf i).toNat)
              case atStart => exact ⟨0, by omega, rfl, X6⟩
              case round =>
                obtain ⟨x, hx, rfl, X7⟩ := hrel
                clear X6
                have hc := X7.out.st.box.cells
                have hl := X7.out.st.box.lt
                by_cases hxl : x < n5
                · have v1 := own_at X7.out.since.1 hxl
                  have v3 := (own_ge X7.out.since.1).2
                  have HPo : Hid (PinOk y (((zs.set X0 (-1))).getD x 0)) := OKN.out.1.2.2 _ (get_mem (by have := OKN.out.2; omega))
                  generalize ((zs.set X0 (-1))).getD x 0 = zz at v1 HPo
                  by_cases e1 : zz = -1
                  · subst e1
                    go_wp2
                    go_roundw
                    case rel => exact ⟨x + 1, by omega, by go_num, X7⟩
                    case measure => simp [intOf]; omega
                  have f1 : (zz != -1) = true := by simpa using e1
                  have b1 : y - 1 ≤ zz := by have := HPo.out; unfold PinOk at this; omega
                  have b2 : zz ≤ y := by have := HPo.out; have := OKN.out.1.1; unfold PinOk at *; omega
                  have f2 : decide (zz ≤ y - 2) = false := by simp; omega
                  have f3 : decide (zz + 1 < y) = false := by simp; omega
                  have HSa : Hid (Calls Try.prog 15 #[V2 (y) A5 n5 c5] wr (Drew (.int .i64 (y - 2)) wr)) := safe_any (y) A5 n5 c5 _ ((zs.set X0 (-1))) true wr X7.out.st.reads (Nat.le_refl _) (yes_of OKN.out.1)
                  go_wp2_with fail
                  refine HSa.out.mono ?_
                  rintro e vv2 ⟨rfl, dd2⟩
                  have X8 := hide (X7.out.step dd2)
                  clear dd2 hc hl X7 v1 v3
                  have hc := X8.out.st.box.cells
                  have hl := X8.out.st.box.lt
                  go_wp2
                  go_roundw
                  case rel => exact ⟨x + 1, by omega, by go_num, X8⟩
                  case measure => simp [intOf]; omega
                · clear hc hl
                  go_wp2
                  go_roundw
                  case rel => exact ⟨j + 1, y, A5, c5, (zs.set X0 (-1)), by omega, by go_num, by omega, X7, OKN⟩
                  case measure => simp [intOf]; omega

          have g1 : (s % 3 == 1) = false := by simpa using hx1
          clear hx1
          have hc := X.out.st.box.cells
          have hl := X.out.st.box.lt
          have hlen := OK.out.2
          obtain ⟨z, EZ⟩ : ∃ z, Hid (zs.getD X0 0 = z) := ⟨_, rfl⟩
          have ny : (y != y) = false := by simp
          by_cases hst : Step y zs
          · have HP : Hid (Calls Try.prog 22 #[V2 y A k c] wr (Tell2 wr (y + 1) zs (.bool true))) := by
              have h0 := turn_any y A k c _ zs true true wr X.out.st.reads (Nat.le_refl _) (yes_of OK.out.1) (yes_of hst)
              have E1 : turnB true true y = true := by unfold turnB; simp; omega
              have E2 : turnT true true y = y + 1 := by unfold turnT; rw [E1]; rfl
              rw [E1, E2] at h0
              exact h0
            have OKN : Hid (Ok (y + 1) zs ∧ zs.length = k) := ⟨ok_next OK.out.1 hst (by omega), hlen⟩
            have f0 : (y + 1 == y + 1) = true := by simp
            clear hst
            go_wp2_with fail
            refine HP.out.mono ?_
            rintro e u5 ⟨A5, n5, c5, rfl, r5, b5⟩
            clear hc hl
            have X5 := hide (X.out.step b5)
            have hc := X5.out.st.box.cells
            have hl := X5.out.st.box.lt
            have hf := X5.out.st.box.frozen
            have v1 := own_at X5.out.since.1 hX
            have v2 := X5.out.since.1.frozenAt X0
            have v3 := (own_ge X5.out.since.1).2
            rw [EZ.out] at v1
            have ne1 : g ≠ h := box_ne X5.out.st.box X5.out.since
            have ne2 : h ≠ g := ne1.symm
            have ne3 : g ≠ u5.heap.size := by omega
            have ne4 : h ≠ u5.heap.size := by omega
            obtain rfl : n5 = k := by have := r5.len; have := OKN.out.2; omega
            have XN := hide (X.out.turn (t' := y + 1) r5 b5 (.cells (C2 (y + 1) A5 n5 c5) 24))
            clear r5 b5 X X5
            go_wp2_with fail
            refine (check_any (y + 1) A5 n5 c5 _ zs true _ XN.out.st.reads (Nat.le_refl _) (yes_of OKN.out.1)).mono ?_
            rintro e vv1 ⟨rfl, dd1⟩
            rw [show chk true = 0 from rfl]
            have X6 := hide (XN.out.step dd1)
            clear dd1 XN hc hl hf v1 v2 v3 HP
            go_wp2
            go_loopw [149] (fun i wr1 => ∃ x : Nat, x ≤ n5 ∧ i = .int .i64 x ∧ Hid (Sf w wr1 h g n5 (y + 1) A5 n5 c5 zs)) (fun i _ => n5 - (intOf i).toNat)
            case atStart => exact ⟨0, by omega, rfl, X6⟩
            case round =>
              obtain ⟨x, hx, rfl, X7⟩ := hrel
              clear X6
              have hc := X7.out.st.box.cells
              have hl := X7.out.st.box.lt
              by_cases hxl : x < n5
              · have v1 := own_at X7.out.since.1 hxl
                have v3 := (own_ge X7.out.since.1).2
                have HPo : Hid (PinOk (y + 1) ((zs).getD x 0)) := OKN.out.1.2.2 _ (get_mem (by have := OKN.out.2; omega))
                generalize (zs).getD x 0 = zz at v1 HPo
                by_cases e1 : zz = -1
                · subst e1
                  go_wp2
                  go_roundw
                  case rel => exact ⟨x + 1, by omega, by go_num, X7⟩
                  case measure => simp [intOf]; omega
                have f1 : (zz != -1) = true := by simpa using e1
                have b1 : (y + 1) - 1 ≤ zz := by have := HPo.out; unfold PinOk at this; omega
                have b2 : zz ≤ (y + 1) := by have := HPo.out; have := OKN.out.1.1; unfold PinOk at *; omega
                have f2 : decide (zz ≤ (y + 1) - 2) = false := by simp; omega
                have f3 : decide (zz + 1 < (y + 1)) = false := by simp; omega
                have HSa : Hid (Calls Try.prog 15 #[V2 ((y + 1)) A5 n5 c5] wr (Drew (.int .i64 ((y + 1) - 2)) wr)) := safe_any ((y + 1)) A5 n5 c5 _ (zs) true wr X7.out.st.reads (Nat.le_refl _) (yes_of OKN.out.1)
                go_wp2_with fail
                refine HSa.out.mono ?_
                rintro e vv2 ⟨rfl, dd2⟩
                have X8 := hide (X7.out.step dd2)
                clear dd2 hc hl X7 v1 v3
                have hc := X8.out.st.box.cells
                have hl := X8.out.st.box.lt
                go_wp2
                go_roundw
                case rel => exact ⟨x + 1, by omega, by go_num, X8⟩
                case measure => simp [intOf]; omega
              · clear hc hl
                go_wp2
                go_roundw
                case rel => exact ⟨j + 1, (y + 1), A5, c5, zs, by omega, by go_num, by omega, X7, OKN⟩
                case measure => simp [intOf]; omega

          · have HP : Hid (Calls Try.prog 22 #[V2 y A k c] wr (Tell2 wr y zs (.bool false))) := turn_any y A k c _ zs true false wr X.out.st.reads (Nat.le_refl _) (yes_of OK.out.1) (no_of hst)
            have f0 : (y == y + 1) = false := by simp; omega
            clear hst
            go_wp2_with fail
            refine HP.out.mono ?_
            rintro e u5 ⟨A5, n5, c5, rfl, r5, b5⟩
            clear hc hl
            have X5 := hide (X.out.step b5)
            have hc := X5.out.st.box.cells
            have hl := X5.out.st.box.lt
            have hf := X5.out.st.box.frozen
            have v1 := own_at X5.out.since.1 hX
            have v2 := X5.out.since.1.frozenAt X0
            have v3 := (own_ge X5.out.since.1).2
            rw [EZ.out] at v1
            have ne1 : g ≠ h := box_ne X5.out.st.box X5.out.since
            have ne2 : h ≠ g := ne1.symm
            have ne3 : g ≠ u5.heap.size := by omega
            have ne4 : h ≠ u5.heap.size := by omega
            obtain rfl : n5 = k := by have := r5.len; have := OK.out.2; omega
            have XN := hide (X.out.turn (t' := y) r5 b5 (.cells (C2 y A5 n5 c5) 24))
            clear r5 b5 X X5
            go_wp2_with fail
            refine (check_any y A5 n5 c5 _ zs true _ XN.out.st.reads (Nat.le_refl _) (yes_of OK.out.1)).mono ?_
            rintro e vv1 ⟨rfl, dd1⟩
            rw [show chk true = 0 from rfl]
            have X6 := hide (XN.out.step dd1)
            clear dd1 XN hc hl hf v1 v2 v3 HP
            go_wp2
            go_loopw [149] (fun i wr1 => ∃ x : Nat, x ≤ n5 ∧ i = .int .i64 x ∧ Hid (Sf w wr1 h g n5 y A5 n5 c5 zs)) (fun i _ => n5 - (intOf i).toNat)
            case atStart => exact ⟨0, by omega, rfl, X6⟩
            case round =>
              obtain ⟨x, hx, rfl, X7⟩ := hrel
              clear X6
              have hc := X7.out.st.box.cells
              have hl := X7.out.st.box.lt
              by_cases hxl : x < n5
              · have v1 := own_at X7.out.since.1 hxl
                have v3 := (own_ge X7.out.since.1).2
                have HPo : Hid (PinOk y ((zs).getD x 0)) := OK.out.1.2.2 _ (get_mem (by have := OK.out.2; omega))
                generalize (zs).getD x 0 = zz at v1 HPo
                by_cases e1 : zz = -1
                · subst e1
                  go_wp2
                  go_roundw
                  case rel => exact ⟨x + 1, by omega, by go_num, X7⟩
                  case measure => simp [intOf]; omega
                have f1 : (zz != -1) = true := by simpa using e1
                have b1 : y - 1 ≤ zz := by have := HPo.out; unfold PinOk at this; omega
                have b2 : zz ≤ y := by have := HPo.out; have := OK.out.1.1; unfold PinOk at *; omega
                have f2 : decide (zz ≤ y - 2) = false := by simp; omega
                have f3 : decide (zz + 1 < y) = false := by simp; omega
                have HSa : Hid (Calls Try.prog 15 #[V2 (y) A5 n5 c5] wr (Drew (.int .i64 (y - 2)) wr)) := safe_any (y) A5 n5 c5 _ (zs) true wr X7.out.st.reads (Nat.le_refl _) (yes_of OK.out.1)
                go_wp2_with fail
                refine HSa.out.mono ?_
                rintro e vv2 ⟨rfl, dd2⟩
                have X8 := hide (X7.out.step dd2)
                clear dd2 hc hl X7 v1 v3
                have hc := X8.out.st.box.cells
                have hl := X8.out.st.box.lt
                go_wp2
                go_roundw
                case rel => exact ⟨x + 1, by omega, by go_num, X8⟩
                case measure => simp [intOf]; omega
              · clear hc hl
                go_wp2
                go_roundw
                case rel => exact ⟨j + 1, y, A5, c5, zs, by omega, by go_num, by omega, X7, OK⟩
                case measure => simp [intOf]; omega

        · go_wp2
          go_ret
          exact ⟨rfl, X.out.st.bel⟩

theorem lifted (os : Os) (started : os.Started) (H : Type) (enc : TypeId × Value → H) :
    ReturnsInHanded {} Try.checked os 5 .any (Rows.eraSafeSpec.pre6 enc Try.prog Try.f5 Rows.eraSafeRow.domain false) (Rows.eraSafeSpec.post enc Try.prog Try.f5 false true false false) := by
  refine returnsInHanded_of_change (C := Try.checked) own started (by kernel_rfl) Try.func5
    (ChangeSpec.witness6 (enc := enc) (C := Try.checked) false ⟨#[], #[.int .i64 0, .slice none 0 0], []⟩ 8 (by kernel_rfl) (by kernel_rfl) (by kernel_rfl) (by kernel_rfl)) ?_
  intro W base args ds gs before hval0 hW hcnd _
  have hval : ∀ (j : Nat) t v, Try.f5.params[j]? = some t → args[j]? = some v → Value.okWide Try.prog W .any base t v := hval0
  have hW' := hW
  obtain ⟨p, q, hA0, hV, rfl, hfz, hnd⟩ := hW
  have hA : DataW.TrodAll enc Try.prog W 0 (fun _ => true) true Try.f5.params.toList args.toList ds p := hA0
  rw [Try.params5] at hA hval
  obtain ⟨x0, vs0, d0, ds0, p0, q0, hargs, rfl, rfl, h0, r0⟩ := trodAll_cons hA
  obtain ⟨x1, vs1, d1, ds1, p1, q1, rfl, rfl, rfl, h1, r1⟩ := trodAll_cons r0
  obtain ⟨rfl, rfl, rfl⟩ := trodAll_nil r1
  obtain rfl : args = #[x0, x1] := by cases args; simp_all
  obtain ⟨rfl, rfl⟩ := trodVars_none hV
  have lt1 : ∀ x ∈ p1, x.block < W.heap.size := by obtain ⟨m, hm⟩ := h1; exact DataW.trod_lt m _ _ _ hm
  obtain ⟨a0, rfl, rfl, rfl, w0⟩ := open_int Try.underlying3 (hval 0 3 x0 rfl rfl) h0
  obtain ⟨A1, n1, c1, rfl⟩ := okWide_slice Try.underlying22 (hval 1 22 x1 rfl rfl)
  obtain ⟨z1, w1⟩ := open_flat h1
  clear hA0 hval0
  refine (walk a0 A1 n1 c1 z1 W w0 w1).mono fun e W' ⟨he, bel⟩ => ?_
  subst he
  exact ⟨_, rfl, _, _, _, [], _, [], hW', trodAll_mk1 (shut_bool Try.underlying4 _), (trodAll_cons_mk (shut_int Try.underlying3 w0) (trodAll_cons_mk (Below.trod laidOut (by kernel_rfl) (of_decide_eq_true (by kernel_rfl)) h1 bel lt1) trodAll_mk0)), rfl, bel.frame _, fun h => by cases h⟩

theorem over : Rows.eraSafeRow.holds Try.pinned (OpenSpec.ofChange Rows.eraSafeSpec) :=
  OpenClaim.holds_of_wide 5 Try.f5 rfl rfl rfl rfl rfl rfl rfl ⟨rfl, rfl, rfl, rfl, rfl⟩ rfl rfl rfl rfl rfl (by kernel_rfl) Try.func5 (by kernel_rfl)
    (of_decide_eq_true (by kernel_rfl)) (by unfold Func.isWrapper; first | (rw [if_pos (by decide +kernel)]; kernel_rfl) | (rw [if_neg (by decide +kernel)]; exact ⟨rfl, rfl⟩))
    (fun os started H enc _ => lifted os started H enc)

end Go.Proofs.Yteckldjdkcbkdaa.eraSafe

namespace Go.Proofs.Yteckldjdkcbkdaa
/-- The statement. -/
theorem eraSafe_holds : Rows.EraSafeSaid := eraSafe.over
#print axioms eraSafe_holds
end Go.Proofs.Yteckldjdkcbkdaa
