/- For every era: with nobody pinned the epoch goes on each time, and after three turns what was retired now is safe. (The statement tendrillaw06.EraGoes.) -/
import Derived.Test.YteckldjdkcbkdaaRows
import Derived.Test.YteckldjdkcbkdaaLive
import Derived.Test.YteckldjdkcbkdaaFrame
import Derived.WalkKit
namespace Go.Proofs.Yteckldjdkcbkdaa.eraGoes
open Go.Joins Go.ChangeShapes Go.WideShapes Go.ChangeAt Go.RowKit Go.Deep
set_option linter.unusedVariables false

set_option maxRecDepth 100000 in
set_option maxHeartbeats 3000000 in
theorem walk (t0 : Int) (A0 : Option Addr) (n0 c0 : Nat) (z0 : List Int) (w : World) (w0 : Reads w w.heap.size A0 n0 c0 z0) :
    Calls Try.prog 6 #[V2 t0 A0 n0 c0] w (Drew (.bool true) w) := by
  have S0 := hide (stand_in t0 w0)
  have HL := hide w0.len
  clear w0
  obtain ⟨b, HB⟩ := bool_of (Ok t0 z0)
  obtain ⟨i0, hi0, hz0, hz1, hz2⟩ := info_parts Try.info3
  have H1 := hide hi0
  have H2 := hide hz0
  have H3 := hide hz1
  have H4 := hide hz2
  clear hi0 hz0 hz1 hz2
  go_enter Try.func6, Try.ntmps6
  go_wp2_with fail
  refine (live_yes _).mono ?_
  rintro e u1 ⟨rfl, b1⟩
  have S1 := hide (S0.out.step b1)
  clear b1 S0
  have hc := S1.out.box.cells
  have hl := S1.out.box.lt
  go_wp2_with fail
  refine (check_any t0 A0 n0 c0 _ z0 b _ S1.out.reads (Nat.le_refl _) HB).mono ?_
  rintro e u2 ⟨rfl, b2⟩
  have S2 := hide (S1.out.step b2)
  clear b2 S1 hc hl
  cases b with
  | false =>
    rw [show chk false = 1 from rfl]
    clear HB
    go_wp2
    go_ret
    exact ⟨rfl, S2.out.bel⟩
  | true =>
    rw [show chk true = 0 from rfl]
    have HO := hide (HB.out.1 rfl)
    clear HB
    have p1 := HO.out.1.1
    have hn : n0 ≤ 64 := by have := HO.out.2.1; have := HL.out; omega
    have hn1 : 1 ≤ n0 := by have := HO.out.2.1; have := HL.out; omega
    have hc := S2.out.box.cells
    have hl := S2.out.box.lt
    by_cases ht : 1152921504606846972 < t0
    · have d1 : decide ((1152921504606846972 : Int) < t0) = true := by simpa using ht
      go_wp2
      go_ret
      exact ⟨rfl, S2.out.bel⟩
    have d1 : decide ((1152921504606846972 : Int) < t0) = false := by simpa using ht
    have L0 : Hid (Lay u2 (u2.alloc (.cells (C2 t0 none 0 0) 24)) (u2.heap.size + 1) u2.heap.size t0 none 0 0 (List.replicate 0 (-1))) :=
      ⟨(Below.refl _ _).alloc (Nat.le_refl _) _, Nat.le_refl _, EBox.new u2 _, Row.nil _ _, by omega, by simp⟩
    obtain ⟨h, hh⟩ : ∃ h, Hid (u2.heap.size = h) := ⟨_, rfl⟩
    rw [hh.out] at L0
    go_wp2
    rw [hh.out]
    clear hc hl
    go_loopw [23] (fun i wr => ∃ (k : Nat) (A : Option Addr) (c : Nat), k ≤ n0 ∧ i = .int .i64 k ∧ Hid (Lay u2 wr (h + 1) h t0 A k c (List.replicate k (-1)))) (fun i _ => n0 - (intOf i).toNat)
    case atStart => exact ⟨0, none, 0, by omega, rfl, L0⟩
    case round =>
      obtain ⟨k, A, c, hk, rfl, L1⟩ := hrel
      clear L0
      have hc := L1.out.box.cells
      have hl := L1.out.box.lt
      by_cases hlt : k < n0
      · have LA := hide (L1.out.alloc (.cells #[.int .i64 (-1)] 3))
        have NA := hide (lit_nums wr (-1))
        go_wp2_with (at_builtin; refine wpList_append_nums _ rfl _ _ 22 rfl (h + 1) 3 i0 (.int .i64 0) 1 8 Try.underlying22 H1.out H2.out H3.out H4.out rfl (by decide) _ k (List.replicate k (-1)) rfl LA.out.row.1 (some ⟨wr.heap.size, 0, none⟩) 1 1 _ [-1] rfl (fun h => by cases h) NA.out (by simp only [maxLen]; omega) (by omega) LA.out.le ?_; intro v1 w2 hown hb; obtain ⟨A1, c1, rfl, hA1⟩ := own_form hown; have HG := hide (LA.out.grown hown hA1 hb); have hcb := HG.out.1.cells; have hlb := HG.out.1.lt; have hfb := HG.out.1.frozen; clear hown hb hA1)
        go_roundw
        case rel => exact ⟨k + 1, A1, c1, by omega, by go_num, by show Lay _ _ _ _ _ _ _ _ _; rw [← more_negs]; exact HG.out.2⟩
        case measure => simp [intOf]; omega
      · obtain rfl : k = n0 := by omega
        have S3 : Hid (Stand w wr h t0 A k c (List.replicate k (-1))) := ⟨next_call S2.out.bel (Nat.le_refl _) L1.out.bel, by have := S2.out.bel.size; have := hh.out; omega, L1.out.box, L1.out.row.reads⟩
        go_wp2
        clear hc hl L1
        go_loopw [33] (fun i wr => ∃ (j : Nat) (y : Int) (A : Option Addr) (n c : Nat), j ≤ 3 ∧ i = .int .i64 j ∧ Hid (y = t0 + (j : Int)) ∧ Hid (Stand w wr h y A n c (List.replicate k (-1)))) (fun i _ => 3 - (intOf i).toNat)
        case atStart => exact ⟨0, t0, A, k, c, by omega, rfl, by show _ = _; simp, S3⟩
        case round =>
          obtain ⟨j, y, A, n, c, hj, rfl, HY, S4⟩ := hrel
          clear S3
          have hc := S4.out.box.cells
          have hl := S4.out.box.lt
          have y1 : 0 ≤ y := by have := HY.out; omega
          have y2 : y ≤ 1152921504606846975 := by have := HY.out; omega
          have HOY : Hid (Ok y (List.replicate k (-1))) := ⟨by omega, by simp; omega, fun z hz => .inl (List.eq_of_mem_replicate hz)⟩
          have HSY : Hid (Step y (List.replicate k (-1))) := fun z hz => .inl (List.eq_of_mem_replicate hz)
          by_cases hlt : j < 3
          · have dj : decide ((j : Int) < 3) = true := by simp; omega
            have HT : Hid (Calls Try.prog 22 #[V2 y A n c] wr (Tell2 wr (y + 1) (List.replicate k (-1)) (.bool true))) := by
              have h0 := turn_any y A n c _ _ true true wr S4.out.reads (Nat.le_refl _) (yes_of HOY.out) (yes_of HSY.out)
              have e1 : turnB true true y = true := by unfold turnB; simp; omega
              have e2 : turnT true true y = y + 1 := by unfold turnT; rw [e1]; rfl
              rw [e1, e2] at h0
              exact h0
            go_wp2_with fail
            refine HT.out.mono ?_
            rintro e u5 ⟨A5, n5, c5, rfl, r5, b5⟩
            have S5 := hide (S4.out.next r5 b5 (y + 1))
            have S6 := hide (S5.out.alloc (.cells (C2 (y + 1) A5 n5 c5) 24))
            have X5 := hide (S4.out.box.step b5)
            clear hc hl r5 b5
            have hc := X5.out.cells
            have hl := X5.out.lt
            have hf := X5.out.frozen
            have ne1 : h ≠ u5.heap.size := by omega
            go_wp2
            go_roundw
            case rel => exact ⟨j + 1, y + 1, A5, n5, c5, by omega, by go_num, by have := HY.out; show _ = _; omega, S6⟩
            case measure => simp [intOf]; omega
          · have dj : decide ((j : Int) < 3) = false := by simp; omega
            have e1 : (y == t0 + 3) = true := by have := HY.out; simp; omega
            have HT : Hid (Calls Try.prog 15 #[V2 y A n c] wr (Drew (.int .i64 (y - 2)) wr)) := safe_any y A n c _ _ true wr S4.out.reads (Nat.le_refl _) (yes_of HOY.out)
            have e2 : decide (t0 ≤ y - 2) = true := by have := HY.out; simp; omega
            go_wp2_with fail
            refine HT.out.mono ?_
            rintro e u5 ⟨rfl, b5⟩
            have B5 := hide (next_call S4.out.bel (Nat.le_refl _) b5)
            clear b5
            go_wp2
            go_ret
            exact ⟨rfl, B5.out⟩

theorem lifted (os : Os) (started : os.Started) (H : Type) (enc : TypeId × Value → H) :
    ReturnsInHanded {} Try.checked os 6 .any (Rows.eraGoesSpec.pre6 enc Try.prog Try.f6 Rows.eraGoesRow.domain false) (Rows.eraGoesSpec.post enc Try.prog Try.f6 false true false false) := by
  refine returnsInHanded_of_change (C := Try.checked) own started (by kernel_rfl) Try.func6
    (ChangeSpec.witness6 (enc := enc) (C := Try.checked) false ⟨#[], #[.agg #[.int .i64 0, .slice none 0 0]], []⟩ 8 (by kernel_rfl) (by kernel_rfl) (by kernel_rfl) (by kernel_rfl)) ?_
  intro W base args ds gs before hval0 hW hcnd _
  have hval : ∀ (j : Nat) t v, Try.f6.params[j]? = some t → args[j]? = some v → Value.okWide Try.prog W .any base t v := hval0
  have hW' := hW
  obtain ⟨p, q, hA0, hV, rfl, hfz, hnd⟩ := hW
  have hA : DataW.TrodAll enc Try.prog W 0 (fun _ => true) true Try.f6.params.toList args.toList ds p := hA0
  rw [Try.params6] at hA hval
  obtain ⟨x0, vs0, d0, ds0, p0, q0, hargs, rfl, rfl, h0, r0⟩ := trodAll_cons hA
  obtain ⟨rfl, rfl, rfl⟩ := trodAll_nil r0
  obtain rfl : args = #[x0] := by cases args; simp_all
  obtain ⟨rfl, rfl⟩ := trodVars_none hV
  have lt0 : ∀ x ∈ p0, x.block < W.heap.size := by obtain ⟨m, hm⟩ := h0; exact DataW.trod_lt m _ _ _ hm
  obtain ⟨t0, A0, n0, c0, z0, rfl, w0⟩ := open_era (hval 0 24 x0 rfl rfl) h0
  clear hA0 hval0
  refine (walk t0 A0 n0 c0 z0 W w0).mono fun e W' ⟨he, bel⟩ => ?_
  subst he
  exact ⟨_, rfl, _, _, _, [], _, [], hW', trodAll_mk1 (shut_bool Try.underlying4 _), (trodAll_cons_mk (Below.trod laidOut (by kernel_rfl) (of_decide_eq_true (by kernel_rfl)) h0 bel lt0) trodAll_mk0), rfl, bel.frame _, fun h => by cases h⟩

theorem over : Rows.eraGoesRow.holds Try.pinned (OpenSpec.ofChange Rows.eraGoesSpec) :=
  OpenClaim.holds_of_wide 6 Try.f6 rfl rfl rfl rfl rfl rfl rfl ⟨rfl, rfl, rfl, rfl, rfl⟩ rfl rfl rfl rfl rfl (by kernel_rfl) Try.func6 (by kernel_rfl)
    (of_decide_eq_true (by kernel_rfl)) (by unfold Func.isWrapper; first | (rw [if_pos (by decide +kernel)]; kernel_rfl) | (rw [if_neg (by decide +kernel)]; exact ⟨rfl, rfl⟩))
    (fun os started H enc _ => lifted os started H enc)

end Go.Proofs.Yteckldjdkcbkdaa.eraGoes

namespace Go.Proofs.Yteckldjdkcbkdaa
/-- The statement. -/
theorem eraGoes_holds : Rows.EraGoesSaid := eraGoes.over
#print axioms eraGoes_holds
end Go.Proofs.Yteckldjdkcbkdaa
