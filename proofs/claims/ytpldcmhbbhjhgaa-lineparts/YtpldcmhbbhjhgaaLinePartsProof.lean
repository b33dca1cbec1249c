/- Whatever the fives and the numbers behind them: they are read as these, and then those; no conditions. (The statement tendrillaw04.LineParts.) -/
import Derived.Test.YtpldcmhbbhjhgaaRows
import Derived.Test.YtpldcmhbbhjhgaaWalksE
import Derived.Test.YtpldcmhbbhjhgaaWalksH
import Derived.Test.YtpldcmhbbhjhgaaSteps
import Derived.Test.YtpldcmhbbhjhgaaFrame
import Derived.WalkKit
namespace Go.Proofs.Ytpldcmhbbhjhgaa.lineParts
open Go.Joins Go.ChangeShapes Go.WideShapes Go.ChangeAt Go.RowKit Go.Deep
set_option linter.unusedVariables false

/-- What an append of five numbers leaves. -/
theorem round_append5 {w u1 w2 : World} {n : Nat} {v v' : Value} {xs ys : List Value} {o : Obj} (h : u1.ownsRow w.heap.size 3 1 v n xs) (hb : Below w.heap.size w u1)
    (hown : w2.ownsRow w.heap.size 3 1 v' (n + 5) ys) (hg : (u1.alloc o).grownBy w2 v.ownBlock) :
    ∃ A c, v' = .slice A (n + 5) c ∧ Hid (A = none → c = 0) ∧ Hid (w2.ownsRow w.heap.size 3 1 (.slice A (n + 5) c) (n + 5) ys) ∧ Hid (Below w.heap.size w w2) := by
  obtain ⟨A, c, rfl, hA⟩ := own_form hown
  exact ⟨A, c, rfl, hA, hown, (hb.alloc hb.size o).grown hg (by have := hb.size; simp; omega) fun j ej => (h.lt j ej).1⟩
theorem next_five {u : World} {B m k : Nat} {v : Value} {zs : List Int} {p q r s t : Int} (HF : Hid (zs.take ((k + 1) * 5) = zs.take (k * 5) ++ [p, q, r, s, t]))
    (h : u.ownsRow B 3 1 v m (ints (zs.take (k * 5)) ++ [.int .i64 p, .int .i64 q, .int .i64 r, .int .i64 s, .int .i64 t])) : Hid (u.ownsRow B 3 1 v m (ints (zs.take ((k + 1) * 5)))) := by
  show World.ownsRow _ _ _ _ _ _ _
  rw [HF.out]
  simpa using h
theorem copy_form {u x : World} {B q : Nat} {v : Value} {zs : List Int} (h : x.ownsRow B 3 1 v (0 + q) (ints ([] ++ zs))) (hb : Below B u x) : ∃ A c, v = .slice A q c ∧ Hid (x.ownsRow B 3 1 (.slice A q c) q (ints zs)) ∧ Hid (Below B u x) := by
  rw [Nat.zero_add, List.nil_append] at h
  obtain ⟨A, c, rfl, _⟩ := own_form h
  exact ⟨A, c, rfl, h, hb⟩
theorem more_form {u x y : World} {B e s n : Nat} {v : Value} {xs : List Value} (h : y.ownsRow B e s v n xs) (hb : Below B u x) (hb2 : Below B x y) : ∃ A c, v = .slice A n c ∧ Hid (y.ownsRow B e s (.slice A n c) n xs) ∧ Hid (Below B u y) := by
  obtain ⟨A, c, rfl, _⟩ := own_form h
  exact ⟨A, c, rfl, h, hb.trans hb2⟩

set_option maxHeartbeats 2000000 in
theorem walk (A0 : Option Addr) (n0 c0 : Nat) (z0 : List Int) (A1 : Option Addr) (n1 c1 : Nat) (z1 : List Int) (w : World) (w0 : Came w 5 A0 n0 c0 z0) (w1 : Came w 1 A1 n1 c1 z1) :
    Calls Try.prog 7 #[.slice A0 n0 c0, .slice A1 n1 c1] w (Drew (.bool true) w) := by
  obtain ⟨hO, hoc, hOA, _⟩ := w0
  obtain ⟨hN, hnc, hA, _⟩ := w1
  have HN := hide hN
  have HO := hide hO
  have HL := hide hO.1
  have HAb := hide hA
  clear hN hO hA hOA hoc
  have H0 := hide (live_yes w)
  obtain ⟨i0, hi0, hz0, hz1, hz2⟩ := info_parts Try.info3
  have H1 := hide hi0
  have H2 := hide hz0
  have H3 := hide hz1
  have H4 := hide hz2
  clear hi0 hz0 hz1 hz2
  obtain ⟨j0, hi0, hz0, hz1, hz2⟩ := info_parts Try.info23
  have J1 := hide hi0
  have J2 := hide hz0
  have J3 := hide hz1
  have J4 := hide hz2
  clear hi0 hz0 hz1 hz2
  by_cases hbig : 60 < n0
  · have hb : decide ((60 : Int) < (n0 : Int)) = true := by simp; omega
    go_enter Try.func7, Try.ntmps7
    go_wp2_with fail
    refine H0.out.mono ?_
    rintro e u1 ⟨rfl, hb1⟩
    go_wp2
    go_ret
    exact ⟨rfl, hb1⟩
  by_cases hbig2 : 300 < n1
  · have hb : decide ((60 : Int) < (n0 : Int)) = false := by simp; omega
    have hb2 : decide ((300 : Int) < (n1 : Int)) = true := by simp; omega
    go_enter Try.func7, Try.ntmps7
    go_wp2_with fail
    refine H0.out.mono ?_
    rintro e u1 ⟨rfl, hb1⟩
    go_wp2
    go_ret
    exact ⟨rfl, hb1⟩
  have hb : decide ((60 : Int) < (n0 : Int)) = false := by simp; omega
  have hb2 : decide ((300 : Int) < (n1 : Int)) = false := by simp; omega
  have hn1 : n1 ≤ 300 := by omega
  have hn0 : n0 ≤ 60 := by omega
  clear hbig hbig2
  obtain ⟨m0, M0, hm0⟩ : ∃ m, Hid ((flat z0).length = m * 5) ∧ m ≤ 60 := by
    obtain ⟨m, hm, hle⟩ := flat_len _ z0 (Nat.le_refl _)
    exact ⟨m, hm, by have := HL.out; omega⟩
  obtain ⟨m1, M1, hm1⟩ : ∃ m, Hid ((flat z1).length = m * 5) ∧ m ≤ 60 := by
    obtain ⟨m, hm, hle⟩ := flat_len _ z1 (Nat.le_refl _)
    exact ⟨m, hm, by have := HN.out.1; omega⟩
  have F0 : Hid (flat (z0 ++ z1) = flat z0 ++ flat z1) := flat_append n0 z0 z1 HL.out
  have M2 : Hid ((flat z0 ++ flat z1).length = (m0 + m1) * 5) := by have := M0.out; have := M1.out; show _ = _; rw [List.length_append]; omega
  go_enter Try.func7, Try.ntmps7
  go_wp2_with fail
  refine H0.out.mono ?_
  rintro e u1 ⟨rfl, hb1⟩
  have B1 := hide hb1
  clear hb1
  go_wp2
  go_loopw [5, 20] (fun l i wr => ∃ (k : Nat) (A' : Option Addr) (c' : Nat), k ≤ n0 ∧ i = .int .i64 k ∧ l = .slice A' (k * 5) c' ∧ Hid (A' = none → c' = 0) ∧ Hid (wr.ownsRow w.heap.size 3 1 (.slice A' (k * 5) c') (k * 5) (ints (z0.take (k * 5)))) ∧ Hid (Below w.heap.size w wr))
    (fun _ i _ => n0 - (intOf i).toNat)
  case atStart => exact ⟨0, none, 0, by omega, rfl, rfl, fun _ => rfl, World.ownsRow_nil _ _ _ _, B1⟩
  case round =>
    obtain ⟨k, A', c', hk, rfl, rfl, HA, HR, HB⟩ := hrel
    by_cases hlt : k < n0
    · have hlen : k * 5 + 5 ≤ z0.length := by have := HL.out; omega
      obtain ⟨b, off, rfl, hb, e0, e1, e2, e3, e4⟩ := (HO.out.below HB.out (Nat.le_refl _)).five hlt
      have HF := hide (take_succ5 z0 k hlen)
      clear hlen
      generalize z0.getD (k * 5) 0 = x0 at e0 HF
      generalize z0.getD (k * 5 + 1) 0 = x1 at e1 HF
      generalize z0.getD (k * 5 + 2) 0 = x2 at e2 HF
      generalize z0.getD (k * 5 + 3) 0 = x3 at e3 HF
      generalize z0.getD (k * 5 + 4) 0 = x4 at e4 HF
      go_wp2_with (at_builtin; refine wpList_append_own _ rfl _ _ 24 rfl w.heap.size 3 i0 (.int .i64 0) 1 8 Try.underlying24 H1.out H2.out H3.out H4.out rfl (by decide) _ (k * 5) _ rfl (HR.out.alloc _) ⟨wr.heap.size, 0, none⟩ 5 5 [.int .i64 x0, .int .i64 x1, .int .i64 x2, .int .i64 x3, .int .i64 x4] rfl rfl (cells_new _ _ _ _ rfl) (five_cells _ _ _ _ _) (by simp only [maxLen]; omega) (by omega) (by have := HB.out.size; simp; omega) ?_; intro v' w2 hown hg _; obtain ⟨A2, c2, rfl, HA2, HR2, HB2⟩ := round_append5 HR.out HB.out hown hg; clear hown hg)
      have h55 : k * 5 + 5 = (k + 1) * 5 := by omega
      rw [h55] at HR2 ⊢
      go_roundw
      case rel => exact ⟨k + 1, A2, c2, by omega, by go_num, rfl, HA2, next_five HF HR2.out, HB2⟩
      case measure => simp [intOf]; omega
    · obtain rfl : k = n0 := by omega
      have hRw := HR.out
      rw [List.take_of_length_le (by have := HL.out; omega)] at hRw
      have R0 := hide hRw
      clear hRw HR
      have hlt' : decide ((k : Int) < (k : Int)) = false := by simp
      generalize hq : k * 5 = q at *
      have hqb : q ≤ 300 := by omega
      go_wp2_with (first
        | (at_builtin; refine wpList_append_nums _ rfl _ _ 24 rfl wr.heap.size 3 i0 (.int .i64 0) 1 8 Try.underlying24 H1.out H2.out H3.out H4.out rfl (by decide) (.slice none 0 0) 0 [] rfl (World.ownsRow_nil _ _ _ _) A' q c' wr.heap.size z0 rfl HA.out (own_nums R0.out) (by simp only [maxLen]; omega) (by omega) (Nat.le_refl _) ?_; intro v3 x3 hown3 hg3; obtain ⟨A3, c3, rfl, HR3, HG3⟩ := copy_form hown3 hg3; clear hown3 hg3)
        | (at_builtin; refine wpList_append_nums _ rfl _ _ 24 rfl wr.heap.size 3 i0 (.int .i64 0) 1 8 Try.underlying24 H1.out H2.out H3.out H4.out rfl (by decide) (.slice A3 q c3) q z0 rfl HR3.out A1 n1 c1 w.heap.size z1 rfl HAb.out ((HN.out.below HB.out (Nat.le_refl _)).below HG3.out HB.out.size) (by simp only [maxLen]; omega) (by omega) HG3.out.size ?_; intro v4 x4 hown4 hg4; obtain ⟨A4, c4, rfl, HR4, HG4⟩ := more_form hown4 HG3.out hg4; clear hown4 hg4))
      have B4 := hide (HB.out.trans (HG4.out.mono HB.out.size))
      have L4 := hide (((own_nums R0.out).below HG4.out (Nat.le_refl _)).more HG4.out.size)
      have hq0 := own_cap R0.out
      have hq4 := own_cap HR4.out
      refine (ops_any _ _ _ x4.heap.size (z0 ++ z1) _ (own_nums HR4.out) hq4 (Nat.le_refl _) (by omega)).mono ?_
      rintro e y1 ⟨A5, s5, c5, rfl, hA5, hr5, hb5⟩
      rw [F0.out] at hr5
      obtain rfl : s5 = m0 + m1 := own_count hr5 (by omega) M2.out
      have R5 := hide hr5
      have L5 := hide (L4.out.step hb5)
      have B5 := hide (B4.out.trans (hb5.mono B4.out.size))
      clear hr5 hb5 hA5 hq4 HR3 HG3 HR4 HG4
      go_wp2_with fail
      refine (ops_any _ _ _ y1.heap.size z0 _ L5.out hq0 (Nat.le_refl _) (by omega)).mono ?_
      rintro e y2 ⟨A6, s6, c6, rfl, hA6, hr6, hb6⟩
      obtain rfl : s6 = m0 := own_count hr6 (by omega) M0.out
      have R6 := hide hr6
      have N6 := hide ((own_nums R5.out).below hb6 (Nat.le_refl _))
      have B6 := hide (B5.out.trans (hb6.mono B5.out.size))
      have hz6 := hb6.size
      clear hr6 hb6 hA6
      go_wp2_with fail
      refine (ops_any _ _ _ w.heap.size z1 _ (HN.out.below B6.out (Nat.le_refl _)) hnc B6.out.size (by omega)).mono ?_
      rintro e y3 ⟨A7, s7, c7, rfl, hA7, hr7, hb7⟩
      obtain rfl : s7 = m1 := own_count hr7 (by omega) M1.out
      have R7 := hide hr7
      have HA7 := hide hA7
      have R67 := hide (own_below R6.out hb7)
      have N7 := hide (N6.out.below hb7 hz6)
      have B7 := hide (B6.out.trans (hb7.mono B6.out.size))
      have hz7 := hb7.size
      clear hr7 hb7 hA7
      go_wp2_with (at_builtin; refine wpList_append_nums _ rfl _ _ 30 rfl y1.heap.size 23 j0 (.agg zeros5) 5 40 Try.underlying30 J1.out J2.out J3.out J4.out rfl (by decide) (.slice A6 s6 c6) s6 (flat z0) rfl R67.out A7 s7 c7 y3.heap.size (flat z1) rfl HA7.out (own_nums R7.out) (by simp only [maxLen]; omega) (by omega) (by omega) ?_; intro v8 y4 hown8 hg8; obtain ⟨A8, c8, rfl, HR8, HG8⟩ := more_form hown8 (Below.refl _ _) hg8; clear hown8 hg8)
      refine (sameOps_yes _ _ _ _ _ _ _ (flat z0 ++ flat z1) _ (N7.out.below HG8.out (Nat.le_refl _)) (own_nums HR8.out) (by omega)).mono ?_
      rintro e y5 ⟨rfl, hb8⟩
      have B8 : Hid (Below w.heap.size w y4) := B7.out.trans (HG8.out.mono B5.out.size)
      go_wp2
      go_ret
      exact ⟨rfl, B8.out.trans (hb8.mono B8.out.size)⟩


theorem lifted (os : Os) (started : os.Started) (H : Type) (enc : TypeId × Value → H) :
    ReturnsInHanded {} Try.checked os 7 .any (Rows.linePartsSpec.pre6 enc Try.prog Try.f7 Rows.linePartsRow.domain false) (Rows.linePartsSpec.post enc Try.prog Try.f7 false true false false) := by
  refine returnsInHanded_of_change (C := Try.checked) own started (by kernel_rfl) Try.func7
    (ChangeSpec.witness6 (enc := enc) (C := Try.checked) false ⟨#[], #[.slice none 0 0, .slice none 0 0], []⟩ 8 (by kernel_rfl) (by kernel_rfl) (by kernel_rfl) (by kernel_rfl)) ?_
  intro W base args ds gs before hval0 hW hcnd _
  have hval : ∀ (j : Nat) t v, Try.f7.params[j]? = some t → args[j]? = some v → Value.okWide Try.prog W .any base t v := hval0
  have hW' := hW
  obtain ⟨p, q, hA0, hV, rfl, hfz, hnd⟩ := hW
  have hA : DataW.TrodAll enc Try.prog W 0 (fun _ => true) true Try.f7.params.toList args.toList ds p := hA0
  rw [Try.params7] at hA hval
  obtain ⟨x0, vs0, d0, ds0, p0, q0, hargs, rfl, rfl, h0, r0⟩ := trodAll_cons hA
  obtain ⟨x1, vs1, d1, ds1, p1, q1, rfl, rfl, rfl, h1, r1⟩ := trodAll_cons r0
  obtain ⟨rfl, rfl, rfl⟩ := trodAll_nil r1
  obtain rfl : args = #[x0, x1] := by cases args; simp_all
  obtain ⟨rfl, rfl⟩ := trodVars_none hV
  have lt0 : ∀ x ∈ p0, x.block < W.heap.size := by obtain ⟨m, hm⟩ := h0; exact DataW.trod_lt m _ _ _ hm
  have lt1 : ∀ x ∈ p1, x.block < W.heap.size := by obtain ⟨m, hm⟩ := h1; exact DataW.trod_lt m _ _ _ hm
  obtain ⟨A0, n0, c0, rfl⟩ := okWide_slice Try.underlying39 (hval 0 39 x0 rfl rfl)
  obtain ⟨z0, w0⟩ := open_flat Try.underlying39 cells40 (by omega) elem40 h0
  obtain ⟨A1, n1, c1, rfl⟩ := okWide_slice Try.underlying24 (hval 1 24 x1 rfl rfl)
  obtain ⟨z1, w1⟩ := open_flat Try.underlying24 cells3 (by omega) elem3 h1
  clear hA0 hval0
  refine (walk A0 n0 c0 z0 A1 n1 c1 z1 W w0 w1).mono fun e W' ⟨he, bel⟩ => ?_
  subst he
  exact ⟨_, rfl, _, _, _, [], _, [], hW', trodAll_mk1 (shut_bool Try.underlying4 _), (trodAll_cons_mk (Below.trod laidOut (by kernel_rfl) (of_decide_eq_true (by kernel_rfl)) h0 bel lt0) (trodAll_cons_mk (Below.trod laidOut (by kernel_rfl) (of_decide_eq_true (by kernel_rfl)) h1 bel lt1) trodAll_mk0)), rfl, bel.frame _, fun h => by cases h⟩

theorem over : Rows.linePartsRow.holds Try.pinned (OpenSpec.ofChange Rows.linePartsSpec) :=
  OpenClaim.holds_of_wide 7 Try.f7 rfl rfl rfl rfl rfl rfl rfl ⟨rfl, rfl, rfl, rfl, rfl⟩ rfl rfl rfl rfl rfl (by kernel_rfl) Try.func7 (by kernel_rfl)
    (of_decide_eq_true (by kernel_rfl)) (by unfold Func.isWrapper; first | (rw [if_pos (by decide +kernel)]; kernel_rfl) | (rw [if_neg (by decide +kernel)]; exact ⟨rfl, rfl⟩))
    (fun os started H enc _ => lifted os started H enc)

end Go.Proofs.Ytpldcmhbbhjhgaa.lineParts

namespace Go.Proofs.Ytpldcmhbbhjhgaa
/-- The statement. -/
theorem lineParts_holds : Rows.LinePartsSaid := lineParts.over
#print axioms lineParts_holds
end Go.Proofs.Ytpldcmhbbhjhgaa
