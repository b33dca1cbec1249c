/- Whatever is tried and freed, a word that was not held, and is the same later, was not held in between, for any word and any steps; no conditions. (The statement tendrillaw08.LatchSeen.) -/
import Derived.Test.YtpnidojlapcmdaaRows
import Derived.Test.YtpnidojlapcmdaaWalks
import Derived.Test.YtpnidojlapcmdaaFrame
import Derived.WalkKit
namespace Go.Proofs.Ytpnidojlapcmdaa.latchSeen
open Go.Joins Go.ChangeShapes Go.WideShapes Go.ChangeAt Go.RowKit Go.Deep
set_option linter.unusedVariables false
theorem held_even (v : Int) (u : World) (h1 : 0 ≤ v) (h2 : v ≤ 4611686018427387904) (h3 : v % 2 = 0) :
    Calls Try.prog 12 #[.int .i64 v] u fun e u' => e = .returned (.bool false) ∧ u = u' := by
  by_cases h : v = 4611686018427387904
  · exact held_L v u h
  · exact held_E v u h1 (by omega) h3

theorem ver_even (v : Int) (u : World) (h1 : 0 ≤ v) (h2 : v ≤ 4611686018427387904) (h3 : v % 2 = 0) :
    Calls Try.prog 14 #[.int .i64 v] u fun e u' => e = .returned (.int .i64 (v / 2)) ∧ u = u' := by
  by_cases h : v = 4611686018427387904
  · subst h; exact ver_L _ u rfl
  · exact ver_E v u h1 (by omega) h3

theorem chk_yes (v : Int) (u : World) (h1 : 0 ≤ v) (h2 : v ≤ 4611686018427387904) :
    Calls Try.prog 10 #[.int .i64 v] u fun e u' => e = .returned (.int .i64 0) ∧ u = u' := by
  by_cases h : v = 4611686018427387904
  · exact chk_L v u h
  by_cases h3 : v % 2 = 1
  · exact chk_H v u h1 h2 h3
  · exact chk_E v u h1 (by omega) (by omega)

theorem free_even (v : Int) (u : World) (h1 : 0 ≤ v) (h2 : v ≤ 4611686018427387904) (h3 : v % 2 = 0) :
    Calls Try.prog 18 #[.int .i64 v] u fun e u' => e = .returned (.tuple #[.int .i64 0, .int .i64 2]) ∧ u = u' := by
  by_cases h : v = 4611686018427387904
  · exact free_L v u h
  · exact free_E v u h1 (by omega) h3

theorem three (v : Int) (h1 : 0 ≤ v) (h2 : v ≤ 4611686018427387904) : (0 ≤ v ∧ v ≤ 4611686018427387904 ∧ v % 2 = 1) ∨ (0 ≤ v ∧ v < 4611686018427387904 ∧ v % 2 = 0) ∨ v = 4611686018427387904 := by omega

theorem kinds {a x : Int} {q : Bool} (g1 : 0 ≤ a) (g3 : a % 2 = 0) (x1 : a ≤ x) (x2 : x ≤ 4611686018427387904) (h : q = true ↔ a < x) : (a = x ∧ q = false) ∨ (q = true ∧ a < x ∧ 0 ≤ x) := by
  cases q with
  | false => left; refine ⟨?_, rfl⟩; have : ¬ a < x := by simpa using h
             omega
  | true => right; have : a < x := by simpa using h
            exact ⟨rfl, this, by omega⟩

set_option maxRecDepth 100000 in
set_option maxHeartbeats 3000000 in
theorem walk (a0 : Int) (A1 : Option Addr) (n1 c1 : Nat) (w : World) (w0 : (Lit.int .i64 a0).wf = true) (w1 : Bools w A1 n1 c1) :
    Calls Try.prog 6 #[.int .i64 a0, .slice A1 n1 c1] w fun e w' => e = .returned (.bool true) ∧ w = w' := by
  by_cases hn : 60 < n1
  · have d0 : decide ((60 : Int) < (n1 : Int)) = true := by rw [decide_eq_true_iff]; omega
    go_enter Try.func6, Try.ntmps6
    go_wp2_with fail
    refine (live_yes _).mono ?_
    rintro e w' ⟨rfl, rfl⟩
    go_wp2
    go_ret
    exact ⟨rfl, rfl⟩
  have d0 : decide ((60 : Int) < (n1 : Int)) = false := by rw [decide_eq_false_iff_not]; omega
  have hn1 : n1 ≤ 60 := by omega
  clear hn
  rcases four a0 with h | ⟨h1, h2, h3⟩ | hEL
  · have HN := hide h
    clear h
    go_enter Try.func6, Try.ntmps6
    go_wp2_with fail
    refine (live_yes _).mono ?_
    rintro e w' ⟨rfl, rfl⟩
    go_wp2_with fail
    refine (chk_N _ _ HN.out).mono ?_
    rintro e w' ⟨rfl, rfl⟩
    go_wp2
    go_ret
    exact ⟨rfl, rfl⟩
  · skip
    go_enter Try.func6, Try.ntmps6
    go_wp2_with fail
    refine (live_yes _).mono ?_
    rintro e w' ⟨rfl, rfl⟩
    go_wp2_with fail
    refine (chk_H _ _ h1 h2 h3).mono ?_
    rintro e w' ⟨rfl, rfl⟩
    go_wp2_with fail
    refine (held_H _ _ h1 h2 h3).mono ?_
    rintro e w' ⟨rfl, rfl⟩
    go_wp2
    go_ret
    exact ⟨rfl, rfl⟩
  have g1 : 0 ≤ a0 := by omega
  have g2 : a0 ≤ 4611686018427387904 := by omega
  have g3 : a0 % 2 = 0 := by omega
  clear hEL
  have HB := hide w1
  have hle := w1.1
  clear w1
  go_enter Try.func6, Try.ntmps6
  go_wp2_with fail
  refine (live_yes _).mono ?_
  rintro e w' ⟨rfl, rfl⟩
  go_wp2_with fail
  refine (chk_yes _ _ g1 g2).mono ?_
  rintro e w' ⟨rfl, rfl⟩
  go_wp2_with fail
  refine (held_even _ _ g1 g2 g3).mono ?_
  rintro e w' ⟨rfl, rfl⟩
  go_wp2
  go_loopw [28, 5, 6] (fun i v b wr => ∃ (k : Nat) (x : Int) (q : Bool), k ≤ n1 ∧ i = .int .i64 k ∧ v = .int .i64 x ∧ b = .bool q ∧ wr = w ∧ a0 ≤ x ∧ x ≤ 4611686018427387904 ∧ Hid (q = true ↔ a0 < x)) (fun i _ _ _ => n1 - (intOf i).toNat)
  case atStart => exact ⟨0, a0, false, by omega, rfl, rfl, rfl, rfl, by omega, by omega, hide (by simp)⟩
  case round =>
    obtain ⟨k, x, q, hk, rfl, rfl, rfl, rfl, x1, x2, HQ⟩ := hrel
    by_cases hlt : k < n1
    · obtain ⟨g, off, t, rfl, hg, hc⟩ := HB.out.2 k hlt
      rcases kinds g1 g3 x1 x2 HQ.out with ⟨rfl, rfl⟩ | ⟨rfl, y1, y2⟩
      · skip
        cases t with
        | false =>
          go_wp2_with fail
          refine (free_even _ _ g1 g2 g3).mono ?_
          rintro e w' ⟨rfl, rfl⟩
          go_wp2_with fail
          refine (held_even _ _ g1 g2 g3).mono ?_
          rintro e w' ⟨rfl, rfl⟩
          go_wp2_with fail
          refine (chk_yes _ _ g1 g2).mono ?_
          rintro e w' ⟨rfl, rfl⟩
          go_wp2
          go_roundw
          case rel => exact ⟨k + 1, _, false, by omega, by go_num, rfl, rfl, trivial, by omega, by omega, hide (by simp)⟩
          case measure => simp [intOf]; omega
        | true =>
          by_cases hl : a0 = 4611686018427387904
          · subst hl
            go_wp2_with fail
            refine (tri_L _ _ rfl).mono ?_
            rintro e w' ⟨rfl, rfl⟩
            go_wp2_with fail
            refine (held_even _ _ g1 g2 g3).mono ?_
            rintro e w' ⟨rfl, rfl⟩
            go_wp2_with fail
            refine (chk_yes _ _ g1 g2).mono ?_
            rintro e w' ⟨rfl, rfl⟩
            go_wp2
            go_roundw
            case rel => exact ⟨k + 1, _, false, by omega, by go_num, rfl, rfl, trivial, by omega, by omega, hide (by simp)⟩
            case measure => simp [intOf]; omega
          · have nb : (a0 + 1 == a0) = false := by rw [beq_eq_false_iff_ne]; omega
            go_wp2_with fail
            refine (tri_E _ _ g1 (by omega) g3).mono ?_
            rintro e w' ⟨rfl, rfl⟩
            go_wp2_with fail
            refine (held_H _ _ (by omega) (by omega) (by omega)).mono ?_
            rintro e w' ⟨rfl, rfl⟩
            go_wp2_with fail
            refine (chk_yes _ _ (by omega) (by omega)).mono ?_
            rintro e w' ⟨rfl, rfl⟩
            go_wp2
            go_roundw
            case rel => exact ⟨k + 1, _, true, by omega, by go_num, rfl, rfl, trivial, by omega, by omega, hide (by simp; omega)⟩
            case measure => simp [intOf]; omega
      · skip
        have nb : (x == a0) = false := by rw [beq_eq_false_iff_ne]; omega
        have nb1 : (x + 1 == a0) = false := by rw [beq_eq_false_iff_ne]; omega
        rcases three x (by omega) x2 with ⟨h1, h2, h3⟩ | ⟨h1, h2, h3⟩ | hl
        · cases t with
          | false =>
            go_wp2_with fail
            refine (free_H _ _ h1 h2 h3).mono ?_
            rintro e w' ⟨rfl, rfl⟩
            go_wp2_with fail
            refine (chk_yes _ _ (by omega) (by omega)).mono ?_
            rintro e w' ⟨rfl, rfl⟩
            go_wp2
            go_roundw
            case rel => exact ⟨k + 1, _, true, by omega, by go_num, rfl, rfl, trivial, by omega, by omega, hide (by simp; omega)⟩
            case measure => simp [intOf]; omega
          | true =>
            go_wp2_with fail
            refine (tri_H _ _ h1 h2 h3).mono ?_
            rintro e w' ⟨rfl, rfl⟩
            go_wp2_with fail
            refine (chk_yes _ _ (by omega) (by omega)).mono ?_
            rintro e w' ⟨rfl, rfl⟩
            go_wp2
            go_roundw
            case rel => exact ⟨k + 1, _, true, by omega, by go_num, rfl, rfl, trivial, by omega, by omega, hide (by simp; omega)⟩
            case measure => simp [intOf]; omega
        · cases t with
          | false =>
            go_wp2_with fail
            refine (free_E _ _ h1 h2 h3).mono ?_
            rintro e w' ⟨rfl, rfl⟩
            go_wp2_with fail
            refine (chk_yes _ _ (by omega) (by omega)).mono ?_
            rintro e w' ⟨rfl, rfl⟩
            go_wp2
            go_roundw
            case rel => exact ⟨k + 1, _, true, by omega, by go_num, rfl, rfl, trivial, by omega, by omega, hide (by simp; omega)⟩
            case measure => simp [intOf]; omega
          | true =>
            go_wp2_with fail
            refine (tri_E _ _ h1 h2 h3).mono ?_
            rintro e w' ⟨rfl, rfl⟩
            go_wp2_with fail
            refine (chk_yes _ _ (by omega) (by omega)).mono ?_
            rintro e w' ⟨rfl, rfl⟩
            go_wp2
            go_roundw
            case rel => exact ⟨k + 1, _, true, by omega, by go_num, rfl, rfl, trivial, by omega, by omega, hide (by simp; omega)⟩
            case measure => simp [intOf]; omega
        · subst hl
          cases t with
          | false =>
            go_wp2_with fail
            refine (free_L _ _ rfl).mono ?_
            rintro e w' ⟨rfl, rfl⟩
            go_wp2_with fail
            refine (chk_yes _ _ (by omega) (by omega)).mono ?_
            rintro e w' ⟨rfl, rfl⟩
            go_wp2
            go_roundw
            case rel => exact ⟨k + 1, _, true, by omega, by go_num, rfl, rfl, trivial, by omega, by omega, hide (by simp; omega)⟩
            case measure => simp [intOf]; omega
          | true =>
            go_wp2_with fail
            refine (tri_L _ _ rfl).mono ?_
            rintro e w' ⟨rfl, rfl⟩
            go_wp2_with fail
            refine (chk_yes _ _ (by omega) (by omega)).mono ?_
            rintro e w' ⟨rfl, rfl⟩
            go_wp2
            go_roundw
            case rel => exact ⟨k + 1, _, true, by omega, by go_num, rfl, rfl, trivial, by omega, by omega, hide (by simp; omega)⟩
            case measure => simp [intOf]; omega
    · skip
      go_wp2
      go_ret
      exact ⟨rfl, rfl⟩

theorem lifted (os : Os) (started : os.Started) (H : Type) (enc : TypeId × Value → H) :
    ReturnsInHanded {} Try.checked os 6 .any (Rows.latchSeenSpec.pre6 enc Try.prog Try.f6 Rows.latchSeenRow.domain false) (Rows.latchSeenSpec.post enc Try.prog Try.f6 false true false false) := by
  refine returnsInHanded_of_change (C := Try.checked) own started (by kernel_rfl) Try.func6
    (ChangeSpec.witness6 (enc := enc) (C := Try.checked) false ⟨#[], #[.int .i64 0, .slice none 0 0], []⟩ 8 (by kernel_rfl) (by kernel_rfl) (by kernel_rfl) (by kernel_rfl)) ?_
  intro W base args ds gs before hval0 hW hcnd _
  have hval : ∀ (j : Nat) t v, Try.f6.params[j]? = some t → args[j]? = some v → Value.okWide Try.prog W .any base t v := hval0
  have hW' := hW
  obtain ⟨p, q, hA0, hV, rfl, hfz, hnd⟩ := hW
  have hA : DataW.TrodAll enc Try.prog W 0 (fun _ => true) true Try.f6.params.toList args.toList ds p := hA0
  rw [Try.params6] at hA hval
  obtain ⟨x0, vs0, d0, ds0, p0, q0, hargs, rfl, rfl, h0, r0⟩ := trodAll_cons hA
  obtain ⟨x1, vs1, d1, ds1, p1, q1, rfl, rfl, rfl, h1, r1⟩ := trodAll_cons r0
  obtain ⟨rfl, rfl, rfl⟩ := trodAll_nil r1
  obtain rfl : args = #[x0, x1] := by cases args; simp_all
  obtain ⟨rfl, rfl⟩ := trodVars_none hV
  have lt1 : ∀ x ∈ p1, x.block < W.heap.size := by obtain ⟨m, hm⟩ := h1; exact DataW.trod_lt m _ _ _ hm
  obtain ⟨a0, rfl, rfl, rfl, w0⟩ := open_int Try.underlying3 (hval 0 3 x0 rfl rfl) h0
  obtain ⟨A1, n1, c1, rfl⟩ := okWide_slice Try.underlying32 (hval 1 32 x1 rfl rfl)
  have w1 := open_bools h1
  clear hA0 hval0
  refine (walk a0 A1 n1 c1 W w0 w1).mono fun e W' ⟨he, hw⟩ => ?_
  subst he
  subst hw
  have bel := Below.refl W.heap.size W
  exact ⟨_, rfl, _, _, _, [], _, [], hW', trodAll_mk1 (shut_bool Try.underlying4 _), (trodAll_cons_mk (shut_int Try.underlying3 w0) (trodAll_cons_mk (Below.trod laidOut (by kernel_rfl) (of_decide_eq_true (by kernel_rfl)) h1 bel lt1) trodAll_mk0)), rfl, bel.frame _, fun h => by cases h⟩

theorem over : Rows.latchSeenRow.holds Try.pinned (OpenSpec.ofChange Rows.latchSeenSpec) :=
  OpenClaim.holds_of_wide 6 Try.f6 rfl rfl rfl rfl rfl rfl rfl ⟨rfl, rfl, rfl, rfl, rfl⟩ rfl rfl rfl rfl rfl (by kernel_rfl) Try.func6 (by kernel_rfl)
    (of_decide_eq_true (by kernel_rfl)) (by unfold Func.isWrapper; first | (rw [if_pos (by decide +kernel)]; kernel_rfl) | (rw [if_neg (by decide +kernel)]; exact ⟨rfl, rfl⟩))
    (fun os started H enc _ => lifted os started H enc)

end Go.Proofs.Ytpnidojlapcmdaa.latchSeen

namespace Go.Proofs.Ytpnidojlapcmdaa
/-- The statement. -/
theorem latchSeen_holds : Rows.LatchSeenSaid := latchSeen.over
#print axioms latchSeen_holds
end Go.Proofs.Ytpnidojlapcmdaa
