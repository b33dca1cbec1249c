/- For every era and thread: a thread that is pinned in the epoch ahead keeps the epoch as it is, till it is pinned no longer. (The statement tendrillaw06.EraStuck.) -/
import Derived.Test.YteckldjdkcbkdaaRows
import Derived.Test.YteckldjdkcbkdaaLive
import Derived.Test.YteckldjdkcbkdaaFrame
import Derived.WalkKit
namespace Go.Proofs.Yteckldjdkcbkdaa.eraStuck
open Go.Joins Go.ChangeShapes Go.WideShapes Go.ChangeAt Go.RowKit Go.Deep
set_option linter.unusedVariables false

theorem upto_next {t : Int} {zs : List Int} {j : Nat} {q : Bool} {z : Int} (h : q = true ↔ ∀ i, i < j → (zs.getD i 0 = -1 ∨ zs.getD i 0 = t)) (hz : zs.getD j 0 = z) :
    (q && decide (z = -1 ∨ z = t)) = true ↔ ∀ i, i < j + 1 → (zs.getD i 0 = -1 ∨ zs.getD i 0 = t) := by
  rw [Bool.and_eq_true, h, decide_eq_true_iff]
  constructor
  · rintro ⟨h1, h2⟩ i hi
    by_cases e : i = j
    · subst e; rw [hz]; exact h2
    · exact h1 i (by omega)
  · intro h1
    exact ⟨fun i hi => h1 i (by omega), by rw [← hz]; exact h1 j (by omega)⟩

set_option maxRecDepth 100000 in
set_option maxHeartbeats 3000000 in
theorem walk (t0 : Int) (A0 : Option Addr) (n0 c0 : Nat) (z0 : List Int) (a1 : Int) (w : World) (w0 : Reads w w.heap.size A0 n0 c0 z0) (w1 : (Lit.int .i64 a1).wf = true) :
    Calls Try.prog 8 #[V2 t0 A0 n0 c0, .int .i64 a1] w (Drew (.bool true) w) := by
  clear w1
  have S0 := hide (stand_in t0 w0)
  have HL := hide w0.len
  clear w0
  obtain ⟨b, HB⟩ := bool_of (Ok t0 z0)
  obtain ⟨s, HS⟩ := bool_of (Step t0 z0)
  go_enter Try.func8, Try.ntmps8
  go_wp2_with fail
  refine (live_yes _).mono ?_
  rintro e u1 ⟨rfl, b1⟩
  have S1 := hide (S0.out.step b1)
  clear b1 S0
  have hc := S1.out.box.cells
  have hl := S1.out.box.lt
  go_wp2_with fail
  refine (check_any t0 A0 n0 c0 _ z0 b _ S1.out.reads (Nat.le_refl _) HB).mono ?_
  rintro e u2 ⟨rfl, b2⟩
  have S2 := hide (S1.out.step b2)
  clear b2 S1 hc hl
  have hc := S2.out.box.cells
  have hl := S2.out.box.lt
  cases b with
  | false =>
    rw [show chk false = 1 from rfl]
    clear HB
    go_wp2
    go_ret
    exact ⟨rfl, S2.out.bel⟩
  | true =>
    rw [show chk true = 0 from rfl]
    have HO := hide (HB.out.1 rfl)
    have p1 := HO.out.1.1
    have hn : n0 ≤ 64 := by have := HO.out.2.1; have := HL.out; omega
    by_cases k1 : a1 < 0
    · have d1 : decide (a1 < 0) = true := by simpa using k1
      clear HB
      go_wp2
      go_ret
      exact ⟨rfl, S2.out.bel⟩
    have d1 : decide (a1 < 0) = false := by simpa using k1
    by_cases k2 : (n0 : Int) ≤ a1
    · have d2 : decide ((n0 : Int) ≤ a1) = true := by simpa using k2
      clear HB
      go_wp2
      go_ret
      exact ⟨rfl, S2.out.bel⟩
    have d2 : decide ((n0 : Int) ≤ a1) = false := by simpa using k2
    by_cases k3 : 1152921504606846974 < t0
    · have d3 : decide ((1152921504606846974 : Int) < t0) = true := by simpa using k3
      clear HB
      go_wp2
      go_ret
      exact ⟨rfl, S2.out.bel⟩
    have d3 : decide ((1152921504606846974 : Int) < t0) = false := by simpa using k3
    obtain ⟨X, rfl⟩ : ∃ X : Nat, a1 = (X : Int) := ⟨a1.toNat, by omega⟩
    have hX : X < n0 := by omega
    have HT : Hid (Calls Try.prog 22 #[V2 t0 A0 n0 c0] u2 (Tell2 u2 (if s then t0 + 1 else t0) z0 (.bool s))) := by
      have h0 := turn_any t0 A0 n0 c0 _ z0 true s u2 S2.out.reads (Nat.le_refl _) HB HS
      have e1 : turnB true s t0 = s := by unfold turnB; have : (t0 != 1152921504606846976) = true := by simp; omega
                                          rw [this]; simp
      have e2 : turnT true s t0 = if s then t0 + 1 else t0 := by unfold turnT; rw [e1]; rfl
      rw [e1, e2] at h0
      exact h0
    generalize hty : (if s then t0 + 1 else t0) = ty at HT
    have HTY := hide hty
    clear hty HB
    go_wp2_with fail
    refine HT.out.mono ?_
    rintro e u3 ⟨A3, n3, c3, rfl, r3, b3⟩
    have X3 := hide (S2.out.step b3)
    have Y3' := hide (Stand.first X3.out.bel r3 ty)
    have X3' := hide (X3.out.alloc (.cells (C2 ty A3 n3 c3) 24))
    obtain ⟨h, hh⟩ : ∃ h, Hid (u3.heap.size = h) := ⟨_, rfl⟩
    obtain ⟨U, hU⟩ : ∃ U, Hid (u3.alloc (.cells #[.int .i64 ty, .slice A3 n3 c3] 24) = U) := ⟨_, rfl⟩
    have XU : Hid (Stand w U w.heap.size t0 A0 n0 c0 z0) := by show Stand _ _ _ _ _ _ _ _; rw [← hU.out]; exact X3'.out
    have YU : Hid (Stand w U h ty A3 n3 c3 z0) := by show Stand _ _ _ _ _ _ _ _; rw [← hU.out, ← hh.out]; exact Y3'.out
    clear hc hl r3 b3 S2 Y3' X3' HT
    have hc := X3.out.box.cells
    have hl := X3.out.box.lt
    go_wp2
    rw [hU.out, hh.out]
    clear hc hl X3
    go_loopw [7, 41] (fun q i wr => ∃ (j : Nat) (q' : Bool), j ≤ n0 ∧ i = .int .i64 j ∧ q = .bool q' ∧ wr = U ∧ Hid (q' = true ↔ ∀ i, i < j → (z0.getD i 0 = -1 ∨ z0.getD i 0 = t0))) (fun _ i _ => n0 - (intOf i).toNat)
    case atStart => exact ⟨0, true, by omega, rfl, rfl, rfl, by show _ ↔ _; simp⟩
    case round =>
      obtain ⟨j, q, hj, rfl, rfl, rfl, HQ⟩ := hrel
      have hc := XU.out.box.cells
      have hl := XU.out.box.lt
      by_cases hlt : j < n0
      · obtain ⟨bA, oA, rfl, hbA, hx⟩ := XU.out.reads.1.at_ hlt
        obtain ⟨z, EZ⟩ : ∃ z, Hid (z0.getD j 0 = z) := ⟨_, rfl⟩
        rw [EZ.out] at hx
        have HN := hide (upto_next (t := t0) (zs := z0) (j := j) HQ.out EZ.out)
        cases q with
        | false =>
          go_wp2
          go_roundw
          case rel => exact ⟨j + 1, false, by omega, by go_num, rfl, trivial, by have := HN.out; simpa [Hid] using this⟩
          case measure => simp [intOf]; omega
        | true =>
          by_cases e1 : z = -1
          · subst e1
            go_wp2
            go_roundw
            case rel => exact ⟨j + 1, true, by omega, by go_num, rfl, trivial, by have := HN.out; simpa [Hid] using this⟩
            case measure => simp [intOf]; omega
          have f1 : (z == -1) = false := by simpa using e1
          have HE1 := hide e1
          clear e1
          by_cases e2 : z = t0
          · have f2 : (z == t0) = true := by simpa using e2
            have HE2 := hide e2
            clear e2
            go_wp2
            go_roundw
            case rel => exact ⟨j + 1, true, by omega, by go_num, rfl, trivial, by have := HN.out; rw [decide_eq_true (.inr HE2.out)] at this; simpa [Hid] using this⟩
            case measure => simp [intOf]; omega
          · have f2 : (z == t0) = false := by simpa using e2
            have HE2 := hide e2
            clear e2
            go_wp2
            go_roundw
            case rel => exact ⟨j + 1, false, by omega, by go_num, rfl, trivial, by have := HN.out; rw [decide_eq_false (fun h => h.elim HE1.out HE2.out)] at this; simpa [Hid] using this⟩
            case measure => simp [intOf]; omega
      · obtain rfl : q = s := by
          have h1 := HQ.out
          have h2 := HS.out
          rw [Bool.eq_iff_iff, h1, h2]
          constructor
          · intro h z hz
            obtain ⟨i, hi, rfl⟩ := mem_get hz
            exact h i (by have := HL.out; omega)
          · intro h i hi
            exact h _ (get_mem (by have := HL.out; omega))
        have hcy := YU.out.box.cells
        have hly := YU.out.box.lt
        have h63 : X < n0 := hX
        cases q with
        | false =>
          obtain rfl : t0 = ty := HTY.out
          clear HQ HS
          go_wp2_with fail
          refine (samee_yes t0 A3 A0 n3 n0 c3 c0 _ _ z0 _ YU.out.reads XU.out.reads (Nat.le_refl _) (Nat.le_refl _) (by have := YU.out.reads.len; have := HL.out; omega)).mono ?_
          rintro e u4 ⟨rfl, b4⟩
          have B4 := hide (next_call XU.out.bel (Nat.le_refl _) b4)
          clear b4 hc hl hcy hly
          go_wp2
          go_ret
          exact ⟨rfl, B4.out⟩
        | true =>
          obtain rfl : t0 + 1 = ty := HTY.out
          obtain ⟨bA, oA, rfl, hbA, hx⟩ := XU.out.reads.1.at_ hX
          obtain ⟨z, EZ⟩ : ∃ z, Hid (z0.getD X 0 = z) := ⟨_, rfl⟩
          rw [EZ.out] at hx
          by_cases e1 : z = -1
          · subst e1
            clear HQ HS
            go_wp2
            go_ret
            exact ⟨rfl, XU.out.bel⟩
          have f1 : (z == -1) = false := by simpa using e1
          have HSt := hide (HS.out.1 rfl)
          have HNS : Hid (¬ Step (t0 + 1) z0) := by
            intro h
            have h1 := h z (by rw [← EZ.out]; exact get_mem (by have := HL.out; omega))
            have h2 := HSt.out z (by rw [← EZ.out]; exact get_mem (by have := HL.out; omega))
            omega
          have HTT : Hid (Calls Try.prog 22 #[V2 (t0 + 1) A3 n3 c3] wr (Tell2 wr (t0 + 1) z0 (.bool false))) := turn_any (t0 + 1) A3 n3 c3 _ z0 true false wr YU.out.reads (Nat.le_refl _) (yes_of (ok_next HO.out HSt.out (by omega))) (no_of HNS.out)
          clear HQ HS e1
          go_wp2_with fail
          refine HTT.out.mono ?_
          rintro e u4 ⟨A4, n4, c4, rfl, r4, b4⟩
          have B4 := hide (next_call XU.out.bel (Nat.le_refl _) b4)
          clear r4 b4 hc hl hcy hly hx
          go_wp2
          go_ret
          exact ⟨rfl, B4.out.alloc B4.out.size _⟩

theorem lifted (os : Os) (started : os.Started) (H : Type) (enc : TypeId × Value → H) :
    ReturnsInHanded {} Try.checked os 8 .any (Rows.eraStuckSpec.pre6 enc Try.prog Try.f8 Rows.eraStuckRow.domain false) (Rows.eraStuckSpec.post enc Try.prog Try.f8 false true false false) := by
  refine returnsInHanded_of_change (C := Try.checked) own started (by kernel_rfl) Try.func8
    (ChangeSpec.witness6 (enc := enc) (C := Try.checked) false ⟨#[], #[.agg #[.int .i64 0, .slice none 0 0], .int .i64 0], []⟩ 8 (by kernel_rfl) (by kernel_rfl) (by kernel_rfl) (by kernel_rfl)) ?_
  intro W base args ds gs before hval0 hW hcnd _
  have hval : ∀ (j : Nat) t v, Try.f8.params[j]? = some t → args[j]? = some v → Value.okWide Try.prog W .any base t v := hval0
  have hW' := hW
  obtain ⟨p, q, hA0, hV, rfl, hfz, hnd⟩ := hW
  have hA : DataW.TrodAll enc Try.prog W 0 (fun _ => true) true Try.f8.params.toList args.toList ds p := hA0
  rw [Try.params8] at hA hval
  obtain ⟨x0, vs0, d0, ds0, p0, q0, hargs, rfl, rfl, h0, r0⟩ := trodAll_cons hA
  obtain ⟨x1, vs1, d1, ds1, p1, q1, rfl, rfl, rfl, h1, r1⟩ := trodAll_cons r0
  obtain ⟨rfl, rfl, rfl⟩ := trodAll_nil r1
  obtain rfl : args = #[x0, x1] := by cases args; simp_all
  obtain ⟨rfl, rfl⟩ := trodVars_none hV
  have lt0 : ∀ x ∈ p0, x.block < W.heap.size := by obtain ⟨m, hm⟩ := h0; exact DataW.trod_lt m _ _ _ hm
  obtain ⟨t0, A0, n0, c0, z0, rfl, w0⟩ := open_era (hval 0 24 x0 rfl rfl) h0
  obtain ⟨a1, rfl, rfl, rfl, w1⟩ := open_int Try.underlying3 (hval 1 3 x1 rfl rfl) h1
  clear hA0 hval0
  refine (walk t0 A0 n0 c0 z0 a1 W w0 w1).mono fun e W' ⟨he, bel⟩ => ?_
  subst he
  exact ⟨_, rfl, _, _, _, [], _, [], hW', trodAll_mk1 (shut_bool Try.underlying4 _), (trodAll_cons_mk (Below.trod laidOut (by kernel_rfl) (of_decide_eq_true (by kernel_rfl)) h0 bel lt0) (trodAll_cons_mk (shut_int Try.underlying3 w1) trodAll_mk0)), rfl, bel.frame _, fun h => by cases h⟩

theorem over : Rows.eraStuckRow.holds Try.pinned (OpenSpec.ofChange Rows.eraStuckSpec) :=
  OpenClaim.holds_of_wide 8 Try.f8 rfl rfl rfl rfl rfl rfl rfl ⟨rfl, rfl, rfl, rfl, rfl⟩ rfl rfl rfl rfl rfl (by kernel_rfl) Try.func8 (by kernel_rfl)
    (of_decide_eq_true (by kernel_rfl)) (by unfold Func.isWrapper; first | (rw [if_pos (by decide +kernel)]; kernel_rfl) | (rw [if_neg (by decide +kernel)]; exact ⟨rfl, rfl⟩))
    (fun os started H enc _ => lifted os started H enc)

end Go.Proofs.Yteckldjdkcbkdaa.eraStuck

namespace Go.Proofs.Yteckldjdkcbkdaa
/-- The statement. -/
theorem eraStuck_holds : Rows.EraStuckSaid := eraStuck.over
#print axioms eraStuck_holds
end Go.Proofs.Yteckldjdkcbkdaa
