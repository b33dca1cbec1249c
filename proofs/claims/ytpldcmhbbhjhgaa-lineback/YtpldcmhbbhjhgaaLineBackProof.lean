/- Whatever the operations and the numbers: what was written is read, plain, and what was read is written, and read again the same; no conditions. (The statement tendrillaw04.LineBack.) -/
import Derived.Test.YtpldcmhbbhjhgaaRows
import Derived.Test.YtpldcmhbbhjhgaaWalksE
import Derived.Test.YtpldcmhbbhjhgaaWalksH
import Derived.Test.YtpldcmhbbhjhgaaSteps
import Derived.Test.YtpldcmhbbhjhgaaFrame
import Derived.WalkKit
namespace Go.Proofs.Ytpldcmhbbhjhgaa.lineBack
open Go.Joins Go.ChangeShapes Go.WideShapes Go.ChangeAt Go.RowKit Go.Deep
set_option linter.unusedVariables false

set_option maxHeartbeats 2000000 in
theorem walk (A0 : Option Addr) (n0 c0 : Nat) (z0 : List Int) (A1 : Option Addr) (n1 c1 : Nat) (z1 : List Int) (w : World) (w0 : Came w 5 A0 n0 c0 z0) (w1 : Came w 1 A1 n1 c1 z1) :
    Calls Try.prog 5 #[.slice A0 n0 c0, .slice A1 n1 c1] w (Drew (.bool true) w) := by
  obtain ⟨hO, hoc, hOA, _⟩ := w0
  obtain ⟨hN, hnc, hA, _⟩ := w1
  have HN := hide hN
  have HO := hide hO
  have HL := hide hO.1
  clear hN hO hA hOA hoc
  have H0 := hide (live_yes w)
  obtain ⟨i0, hi0, hz0, hz1, hz2⟩ := info_parts Try.info23
  have H1 := hide hi0
  have H2 := hide hz0
  have H3 := hide hz1
  have H4 := hide hz2
  clear hi0 hz0 hz1 hz2
  by_cases hbig : 500 < n1
  · have hb : decide ((500 : Int) < (n1 : Int)) = true := by simp; omega
    go_enter Try.func5, Try.ntmps5
    go_wp2_with fail
    refine H0.out.mono ?_
    rintro e u1 ⟨rfl, hb1⟩
    go_wp2
    go_ret
    exact ⟨rfl, hb1⟩
  by_cases hbig2 : 100 < n0
  · have hb : decide ((500 : Int) < (n1 : Int)) = false := by simp; omega
    have hb2 : decide ((100 : Int) < (n0 : Int)) = true := by simp; omega
    go_enter Try.func5, Try.ntmps5
    go_wp2_with fail
    refine H0.out.mono ?_
    rintro e u1 ⟨rfl, hb1⟩
    go_wp2
    go_ret
    exact ⟨rfl, hb1⟩
  have hb : decide ((500 : Int) < (n1 : Int)) = false := by simp; omega
  have hb2 : decide ((100 : Int) < (n0 : Int)) = false := by simp; omega
  have hn1 : n1 ≤ 500 := by omega
  have hn0 : n0 ≤ 100 := by omega
  clear hbig hbig2
  obtain ⟨m0, M0, hm0⟩ : ∃ m, Hid ((flat z0).length = m * 5) ∧ m ≤ 100 := by
    obtain ⟨m, hm, hle⟩ := flat_len _ z0 (Nat.le_refl _)
    exact ⟨m, hm, by have := HL.out; omega⟩
  obtain ⟨m1, M1, hm1⟩ : ∃ m, Hid ((flat z1).length = m * 5) ∧ m ≤ 100 := by
    obtain ⟨m, hm, hle⟩ := flat_len _ z1 (Nat.le_refl _)
    exact ⟨m, hm, by have := HN.out.1; omega⟩
  have F0 : Hid (flat (flat z0) = flat z0) := flat_again _ z0 (Nat.le_refl _)
  have F1 : Hid (flat (flat z1) = flat z1) := flat_again _ z1 (Nat.le_refl _)
  have K0 : Hid ((flat z0).length = (m0 * 5) * 1) := by have := M0.out; show _ = _; omega
  have K1 : Hid ((flat z1).length = (m1 * 5) * 1) := by have := M1.out; show _ = _; omega
  go_enter Try.func5, Try.ntmps5
  go_wp2_with fail
  refine H0.out.mono ?_
  rintro e u1 ⟨rfl, hb1⟩
  have B1 := hide hb1
  clear hb1
  go_wp2
  go_loopw [5, 23] (fun l i wr => ∃ (k m : Nat) (A' : Option Addr) (c' : Nat), k ≤ n0 ∧ i = .int .i64 k ∧ l = .slice A' m c' ∧ m ≤ k ∧ Hid (A' = none → c' = 0) ∧ Hid (wr.ownsRow w.heap.size 23 5 (.slice A' m c') m (ints (flat (z0.take (k * 5))))) ∧ Hid (Below w.heap.size w wr))
    (fun _ i _ => n0 - (intOf i).toNat)
  case atStart => exact ⟨0, 0, none, 0, by omega, rfl, rfl, by omega, fun _ => rfl, own_none _ _ _ _ _, B1⟩
  case round =>
    obtain ⟨k, m, A', c', hk, rfl, rfl, hm, HA, HR, HB⟩ := hrel
    by_cases hlt : k < n0
    · have hlen : k * 5 + 5 ≤ z0.length := by have := HL.out; omega
      obtain ⟨b, off, rfl, hb, e0, e1, e2, e3, e4⟩ := (HO.out.below HB.out (Nat.le_refl _)).five hlt
      obtain ⟨p, q, r, s, t, ok, hp⟩ := Pl.some_ (z0.getD (k * 5) 0) (z0.getD (k * 5 + 1) 0) (z0.getD (k * 5 + 2) 0) (z0.getD (k * 5 + 3) 0) (z0.getD (k * 5 + 4) 0)
      have HF := flat_next hlen hp
      have HP := hide hp
      clear hp hlen
      generalize z0.getD (k * 5) 0 = x0 at e0 HP
      generalize z0.getD (k * 5 + 1) 0 = x1 at e1 HP
      generalize z0.getD (k * 5 + 2) 0 = x2 at e2 HP
      generalize z0.getD (k * 5 + 3) 0 = x3 at e3 HP
      generalize z0.getD (k * 5 + 4) 0 = x4 at e4 HP
      go_wp2_with fail
      refine (plain_any _ _ _ _ _ _ _ _ _ _ _ _ HP).mono ?_
      rintro e v1 ⟨rfl, hv1⟩
      obtain ⟨HR1, HB1⟩ := round_call HR.out HB.out hv1
      clear hv1 e0 e1 e2 e3 e4
      cases ok
      · go_wp2
        go_roundw
        case rel => exact ⟨k + 1, m, A', c', by omega, by go_num, rfl, by omega, HA, next_no HF (HR1.out.alloc _), HB1.out.alloc HB1.out.size _⟩
        case measure => simp [intOf]; omega
      · go_wp2_with (at_builtin; refine wpList_append_own _ rfl _ _ 30 rfl w.heap.size 23 i0 (.agg zeros5) 5 40 Try.underlying30 H1.out H2.out H3.out H4.out rfl (by decide) _ m _ rfl ((HR1.out.alloc _).alloc _) ⟨v1.heap.size + 1, 0, none⟩ 1 1 [.int .i64 p, .int .i64 q, .int .i64 r, .int .i64 s, .int .i64 t] rfl rfl (cells_new _ _ _ _ (by simp)) (five_cells _ _ _ _ _) (by simp only [maxLen]; omega) (by omega) (by have := HB1.out.size; simp; omega) ?_; intro v' w2 hown hg _; obtain ⟨A2, c2, rfl, HA2, HR2, HB2⟩ := round_append HR1.out HB1.out hown hg; clear hown hg)
        go_roundw
        case rel => exact ⟨k + 1, m + 1, A2, c2, by omega, by go_num, rfl, by omega, HA2, next_yes HF HR2.out, HB2.out⟩
        case measure => simp [intOf]; omega
    · obtain rfl : k = n0 := by omega
      have hRw := HR.out
      rw [List.take_of_length_le (by have := HL.out; omega)] at hRw
      obtain rfl : m = m0 := own_count hRw (by omega) M0.out
      have R0 := hide hRw
      clear hRw HR hm
      have hlt' : decide ((k : Int) < (k : Int)) = false := by simp
      go_wp2_with fail
      refine (ops_any _ _ _ w.heap.size z1 _ (HN.out.below HB.out (Nat.le_refl _)) hnc HB.out.size (by omega)).mono ?_
      rintro e v2 ⟨A2, s2, d2, rfl, hA2, hr2, hv2⟩
      obtain rfl : s2 = m1 := own_count hr2 (by omega) M1.out
      have R2 := hide hr2
      have N2 := hide ((own_nums R0.out).step hv2)
      have B2 := hide (HB.out.trans (hv2.mono HB.out.size))
      clear hr2 hv2 hA2
      go_wp2_with fail
      refine (write_any _ _ _ w.heap.size z0 _ (HO.out.below B2.out (Nat.le_refl _)) B2.out.size (by omega)).mono ?_
      rintro e v3 ⟨A3, s3, d3, rfl, hA3, hr3, hv3⟩
      obtain rfl : s3 = m * 5 := own_count hr3 (by omega) K0.out
      have R3 := hide hr3
      have N3 := hide (N2.out.step hv3)
      have P3 := hide ((own_nums R2.out).step hv3)
      have B3 := hide (B2.out.trans (hv3.mono B2.out.size))
      have hd3 := own_cap R3.out
      clear hr3 hv3 hA3
      go_wp2_with fail
      refine (ops_any _ _ _ v3.heap.size (flat z0) _ (own_nums R3.out) hd3 (Nat.le_refl _) (by omega)).mono ?_
      rintro e v4 ⟨A4, s4, d4, rfl, hA4, hr4, hv4⟩
      rw [F0.out] at hr4
      obtain rfl : s4 = m := own_count hr4 (by omega) M0.out
      have R4 := hide hr4
      have N4 := hide (N3.out.step hv4)
      have P4 := hide (P3.out.step hv4)
      have B4 := hide (B3.out.trans (hv4.mono B3.out.size))
      clear hr4 hv4 hA4 hd3
      go_wp2_with fail
      refine (sameOps_yes _ _ _ _ _ _ _ (flat z0) _ (own_nums R4.out) N4.out (by omega)).mono ?_
      rintro e v5 ⟨rfl, hv5⟩
      have P5 := hide (P4.out.step hv5)
      have B5 := hide (B4.out.trans (hv5.mono B4.out.size))
      clear hv5
      go_wp2_with fail
      refine (write_any _ _ _ v5.heap.size (flat z1) _ P5.out (Nat.le_refl _) (by omega)).mono ?_
      rintro e v6 ⟨A6, s6, d6, rfl, hA6, hr6, hv6⟩
      rw [F1.out] at hr6
      obtain rfl : s6 = s2 * 5 := own_count hr6 (by omega) K1.out
      have R6 := hide hr6
      have P6 := hide (P5.out.step hv6)
      have B6 := hide (B5.out.trans (hv6.mono B5.out.size))
      have hd6 := own_cap R6.out
      clear hr6 hv6 hA6
      go_wp2_with fail
      refine (ops_any _ _ _ v6.heap.size (flat z1) _ (own_nums R6.out) hd6 (Nat.le_refl _) (by omega)).mono ?_
      rintro e v7 ⟨A7, s7, d7, rfl, hA7, hr7, hv7⟩
      rw [F1.out] at hr7
      obtain rfl : s7 = s2 := own_count hr7 (by omega) M1.out
      have R7 := hide hr7
      have P7 := hide (P6.out.step hv7)
      have B7 := hide (B6.out.trans (hv7.mono B6.out.size))
      clear hr7 hv7 hA7 hd6
      go_wp2_with fail
      refine (sameOps_yes _ _ _ _ _ _ _ (flat z1) _ (own_nums R7.out) P7.out (by omega)).mono ?_
      rintro e v8 ⟨rfl, hv8⟩
      go_wp2
      go_ret
      exact ⟨rfl, B7.out.trans (hv8.mono B7.out.size)⟩


theorem lifted (os : Os) (started : os.Started) (H : Type) (enc : TypeId × Value → H) :
    ReturnsInHanded {} Try.checked os 5 .any (Rows.lineBackSpec.pre6 enc Try.prog Try.f5 Rows.lineBackRow.domain false) (Rows.lineBackSpec.post enc Try.prog Try.f5 false true false false) := by
  refine returnsInHanded_of_change (C := Try.checked) own started (by kernel_rfl) Try.func5
    (ChangeSpec.witness6 (enc := enc) (C := Try.checked) false ⟨#[], #[.slice none 0 0, .slice none 0 0], []⟩ 8 (by kernel_rfl) (by kernel_rfl) (by kernel_rfl) (by kernel_rfl)) ?_
  intro W base args ds gs before hval0 hW hcnd _
  have hval : ∀ (j : Nat) t v, Try.f5.params[j]? = some t → args[j]? = some v → Value.okWide Try.prog W .any base t v := hval0
  have hW' := hW
  obtain ⟨p, q, hA0, hV, rfl, hfz, hnd⟩ := hW
  have hA : DataW.TrodAll enc Try.prog W 0 (fun _ => true) true Try.f5.params.toList args.toList ds p := hA0
  rw [Try.params5] at hA hval
  obtain ⟨x0, vs0, d0, ds0, p0, q0, hargs, rfl, rfl, h0, r0⟩ := trodAll_cons hA
  obtain ⟨x1, vs1, d1, ds1, p1, q1, rfl, rfl, rfl, h1, r1⟩ := trodAll_cons r0
  obtain ⟨rfl, rfl, rfl⟩ := trodAll_nil r1
  obtain rfl : args = #[x0, x1] := by cases args; simp_all
  obtain ⟨rfl, rfl⟩ := trodVars_none hV
  have lt0 : ∀ x ∈ p0, x.block < W.heap.size := by obtain ⟨m, hm⟩ := h0; exact DataW.trod_lt m _ _ _ hm
  have lt1 : ∀ x ∈ p1, x.block < W.heap.size := by obtain ⟨m, hm⟩ := h1; exact DataW.trod_lt m _ _ _ hm
  obtain ⟨A0, n0, c0, rfl⟩ := okWide_slice Try.underlying30 (hval 0 30 x0 rfl rfl)
  obtain ⟨z0, w0⟩ := open_flat Try.underlying30 cells23 (by omega) elem23 h0
  obtain ⟨A1, n1, c1, rfl⟩ := okWide_slice Try.underlying24 (hval 1 24 x1 rfl rfl)
  obtain ⟨z1, w1⟩ := open_flat Try.underlying24 cells3 (by omega) elem3 h1
  clear hA0 hval0
  refine (walk A0 n0 c0 z0 A1 n1 c1 z1 W w0 w1).mono fun e W' ⟨he, bel⟩ => ?_
  subst he
  exact ⟨_, rfl, _, _, _, [], _, [], hW', trodAll_mk1 (shut_bool Try.underlying4 _), (trodAll_cons_mk (Below.trod laidOut (by kernel_rfl) (of_decide_eq_true (by kernel_rfl)) h0 bel lt0) (trodAll_cons_mk (Below.trod laidOut (by kernel_rfl) (of_decide_eq_true (by kernel_rfl)) h1 bel lt1) trodAll_mk0)), rfl, bel.frame _, fun h => by cases h⟩

theorem over : Rows.lineBackRow.holds Try.pinned (OpenSpec.ofChange Rows.lineBackSpec) :=
  OpenClaim.holds_of_wide 5 Try.f5 rfl rfl rfl rfl rfl rfl rfl ⟨rfl, rfl, rfl, rfl, rfl⟩ rfl rfl rfl rfl rfl (by kernel_rfl) Try.func5 (by kernel_rfl)
    (of_decide_eq_true (by kernel_rfl)) (by unfold Func.isWrapper; first | (rw [if_pos (by decide +kernel)]; kernel_rfl) | (rw [if_neg (by decide +kernel)]; exact ⟨rfl, rfl⟩))
    (fun os started H enc _ => lifted os started H enc)

end Go.Proofs.Ytpldcmhbbhjhgaa.lineBack

namespace Go.Proofs.Ytpldcmhbbhjhgaa
/-- The statement. -/
theorem lineBack_holds : Rows.LineBackSaid := lineBack.over
#print axioms lineBack_holds
end Go.Proofs.Ytpldcmhbbhjhgaa
