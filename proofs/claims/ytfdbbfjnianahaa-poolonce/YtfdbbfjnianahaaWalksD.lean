/- What mayBe and Check tell, of any pool that is not great: the code's. -/
import Derived.Test.YtfdbbfjnianahaaWalksC
namespace Go.Proofs.Ytfdbbfjnianahaa
open Go.RowKit
set_option linter.unusedVariables false

theorem bool_of (p : Prop) : ∃ b : Bool, b = true ↔ p := by
  by_cases h : p
  · exact ⟨true, by simp [h]⟩
  · exact ⟨false, by simp [h]⟩

set_option maxHeartbeats 2000000 in
theorem mayBe_any (p : Pl) (P : PL) (B : Nat) (b : Bool) (w : World) (hr : Reads w B p P) (hB : B ≤ w.heap.size) (hm : Small p) (hb : Hid (b = true ↔ MayBe P)) :
    Calls Try.prog 27 #[p.val] w (Drew (.bool b) w) := by
  obtain ⟨A0, A1, A2, A3, n0, n1, n2, n3, c0, c1, c2, c3⟩ := p
  obtain ⟨G, S, W, F⟩ := P
  obtain ⟨hg, hs, ht, hf, zg, zs, zt, zf⟩ := hr
  obtain ⟨m0, m1, m2, m3⟩ := hm
  dsimp only at hg hs ht hf zg zs zt zf m0 m1 m2 m3
  have lg := hide hg.1
  have ls := hide hs.1
  have lt := hide ht.1
  have HG := hide hg
  have HS := hide hs
  have HT := hide ht
  have HF := hide hf
  have ZS := hide zs
  clear hg hs ht hf zg zs zt zf
  have X0 := hide (PBox.new w (C4 A0 A1 A2 A3 n0 n1 n2 n3 c0 c1 c2 c3))
  have B0 := hide ((Below.refl w.heap.size w).alloc (Nat.le_refl _) (.cells (C4 A0 A1 A2 A3 n0 n1 n2 n3 c0 c1 c2 c3) 24))
  show Calls Try.prog 27 #[V4 A0 A1 A2 A3 n0 n1 n2 n3 c0 c1 c2 c3] w (Drew (.bool b) w)
  by_cases s0 : 1 ≤ n0 ∧ n0 ≤ 64
  · obtain ⟨s1, s2⟩ := s0
    by_cases e1 : n1 = n0
    · by_cases e2 : n2 = n0
      · subst e1
        subst e2
        have h1 : (((n2 : Nat) : Int) != (n2 : Int)) = false := by simp
        go_enter Try.func27, Try.ntmps27
        go_wp2_with fail
        refine (isSize_yes _ _ (by omega) (by omega)).mono ?_
        rintro e w' ⟨rfl, rfl⟩
        go_wp2
        go_loopw [26] (fun i wr => ∃ k : Nat, k ≤ n2 ∧ i = .int .i64 k ∧ Hid (PBox wr w.heap.size (C4 A0 A1 A2 A3 n2 n2 n2 n3 c0 c1 c2 c3)) ∧ Hid (Below w.heap.size w wr) ∧ Hid (∀ j, j < k → SlotOk (G.getD j 0) (S.getD j 0) (W.getD j 0)))
          (fun i _ => n2 - (intOf i).toNat)
        case atStart => exact ⟨0, by omega, rfl, X0, B0, by intro j hj; omega⟩
        case round =>
          obtain ⟨k, hk, rfl, X, HB, HA⟩ := hrel
          clear X0 B0
          have hc := X.out.cells
          have hl := X.out.lt
          by_cases hlt : k < n2
          · obtain ⟨b0, o0, rfl, q0, hx0⟩ := (HG.out.below HB.out hB).at_ hlt
            obtain ⟨b1, o1, rfl, q1, hx1⟩ := (HS.out.below HB.out hB).at_ hlt
            obtain ⟨b2, o2, rfl, q2, hx2⟩ := (HT.out.below HB.out hB).at_ hlt
            have hsz := HB.out.size
            obtain ⟨b', hb'⟩ := bool_of (SlotOk (G.getD k 0) (S.getD k 0) (W.getD k 0))
            have HB' := hide hb'
            clear hb'
            go_wp2_with fail
            refine (slotMayBe_any _ _ _ _ _ _ _ _ _ _ _ _ _ _ _ _ _ b' _ (by omega) (by omega) (by omega) hlt s2 hx0 hx1 hx2 HB').mono ?_
            rintro e u1 ⟨rfl, hu1⟩
            have X2 := hide (X.out.step hu1)
            have HB2 := hide (next_call HB.out (Nat.le_refl _) hu1)
            clear hc hl hx0 hx1 hx2 hu1 hsz
            cases b' with
            | true =>
              go_wp2
              go_roundw
              case rel =>
                refine ⟨k + 1, by omega, by go_num, X2, HB2, fun j hj => ?_⟩
                rcases Nat.lt_or_ge j k with h | h
                · exact HA.out j h
                · obtain rfl : j = k := by omega
                  exact HB'.out.1 (by simp)
              case measure => simp [intOf]; omega
            | false =>
              go_wp2
              go_ret
              refine ⟨?_, HB2.out⟩
              have : b = false := by
                cases b with
                | false => rfl
                | true =>
                  have := (hb.out.1 rfl).2.2.2.2.1 k (by have := lg.out; simp at this ⊢; omega)
                  exact absurd (HB'.out.2 this) (by simp)
              subst this
              rfl
          · go_wp2_with fail
            refine (freeMayBe_any _ _ _ _ _ _ _ _ _ _ B S F _ (HS.out.below HB.out hB) ZS (HF.out.below HB.out hB) (by have := HB.out.size; omega) s1 s2 m3).mono ?_
            rintro e u1 ⟨rfl, hu1⟩
            have HB2 := hide (next_call HB.out (Nat.le_refl _) hu1)
            clear hc hl hu1
            have HQ : Hid (b = freeB n2 S F) := by
              show _ = _
              have h1 := lg.out
              have h2 := ls.out
              have h3 := lt.out
              rw [Bool.eq_iff_iff, hb.out, freeB_iff n2 S F (by omega)]
              constructor
              · exact fun h => h.2.2.2.2.2
              · exact fun h => ⟨by simp; omega, by simp; omega, by simp; omega, by simp; omega, fun j hj => HA.out j (by simp at hj; omega), h⟩
            generalize freeB n2 S F = b2 at HQ
            go_wp2
            go_ret
            exact ⟨by rw [HQ.out]; rfl, HB2.out⟩
      · obtain rfl : b = false := by
          cases b with
          | false => rfl
          | true => have := (hb.out.1 rfl).2.2.2.1; have h1 := lg.out; have h3 := lt.out; simp at this; omega
        subst e1
        have h1 : (((n1 : Nat) : Int) != (n1 : Int)) = false := by simp
        have h2 : (((n2 : Nat) : Int) != (n1 : Int)) = true := by simp; omega
        go_enter Try.func27, Try.ntmps27
        go_wp2_with fail
        refine (isSize_yes _ _ (by omega) (by omega)).mono ?_
        rintro e w' ⟨rfl, rfl⟩
        go_wp2
        go_ret
        exact ⟨rfl, B0.out⟩
    · obtain rfl : b = false := by
        cases b with
        | false => rfl
        | true => have := (hb.out.1 rfl).2.2.1; have h1 := lg.out; have h3 := ls.out; simp at this; omega
      have h2 : (((n1 : Nat) : Int) != (n0 : Int)) = true := by simp; omega
      go_enter Try.func27, Try.ntmps27
      go_wp2_with fail
      refine (isSize_yes _ _ (by omega) (by omega)).mono ?_
      rintro e w' ⟨rfl, rfl⟩
      go_wp2
      go_ret
      exact ⟨rfl, B0.out⟩
  · obtain rfl : b = false := by
      cases b with
      | false => rfl
      | true => have h4 := (hb.out.1 rfl).1; have h5 := (hb.out.1 rfl).2.1; have h1 := lg.out; simp at h4 h5; omega
    have hs0 := hide s0
    clear s0
    go_enter Try.func27, Try.ntmps27
    go_wp2_with fail
    refine (isSize_no _ _ (by have := hs0.out; omega)).mono ?_
    rintro e w' ⟨rfl, rfl⟩
    go_wp2
    go_ret
    exact ⟨rfl, B0.out⟩

/-- The error of a pool that may be, or not. -/
def chk (b : Bool) : Int := if b then 0 else 1

set_option maxHeartbeats 1000000 in
theorem check_any (p : Pl) (P : PL) (B : Nat) (b : Bool) (w : World) (hr : Reads w B p P) (hB : B ≤ w.heap.size) (hm : Small p) (hb : Hid (b = true ↔ MayBe P)) :
    Calls Try.prog 16 #[p.val] w (Drew (.int .i64 (chk b)) w) := by
  have B0 := hide ((Below.refl w.heap.size w).alloc (Nat.le_refl _) (.cells (C4 p.A0 p.A1 p.A2 p.A3 p.n0 p.n1 p.n2 p.n3 p.c0 p.c1 p.c2 p.c3) 24))
  have HR := hide (hr.below B0.out hB)
  have HM := hide hm
  clear hr hm
  go_enter Try.func16, Try.ntmps16
  go_wp2_with fail
  refine (mayBe_any p P B b _ HR.out (by simp; omega) HM.out hb).mono ?_
  rintro e u1 ⟨rfl, hu1⟩
  have HB2 := hide (one_call hu1)
  clear hu1
  cases b with
  | true =>
    go_wp2
    go_ret
    exact ⟨rfl, HB2.out⟩
  | false =>
    go_wp2
    go_ret
    exact ⟨rfl, HB2.out⟩

end Go.Proofs.Ytfdbbfjnianahaa
