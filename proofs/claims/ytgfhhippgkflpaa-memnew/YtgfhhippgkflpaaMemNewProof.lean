/- Whatever the count and the place: a new memory has as many words as are told, all 0; no conditions. (The statement tendrillaw02.MemNew.) -/
import Derived.Test.YtgfhhippgkflpaaRows
import Derived.Test.YtgfhhippgkflpaaWords
import Derived.Test.YtgfhhippgkflpaaWalks
import Derived.WalkKit
import Derived.ProofKit
import Derived.OpenShut
import Derived.ShutString
namespace Go.Proofs.Ytgfhhippgkflpaa.memNew
open Go.ChangeShapes Go.WideShapes Go.ChangeAt Go.RowKit
open Go.ChangeMaps (open_string shut_string)
set_option linter.unusedVariables false      -- a walk need not use every 'w<i>' (that an integer argument fits its kind)

theorem own : ownKnob Try.prog.godebug = none := by kernel_rfl

/-! ### STEP 1: THE WALK: the Go text returns true. 'Grown w w'': the world has at most new blocks (Derived/RowKit3.lean). Part the cases AHEAD of 'go_enter' where a test parts the walk; take each callee by a contract of your own. -/
set_option maxHeartbeats 1000000 in
theorem walk (a0 : Int) (a1 : Int) (w0 : (Lit.int .i64 a0).wf = true) (w1 : (Lit.int .i64 a1).wf = true) (w : World) :
    Calls Try.prog 8 #[.int .i64 a0, .int .i64 a1] w fun e w' => e = .returned (.bool true) ∧ Below w.heap.size w w' := by
  by_cases hp : 0 ≤ a0 ∧ a0 ≤ 4096
  · obtain ⟨n, rfl⟩ := Int.eq_ofNat_of_zero_le hp.1
    have hn : n ≤ 4096 := by omega
    clear hp w0 w1
    by_cases hq : 0 ≤ a1 ∧ a1 < (n : Int)
    · obtain ⟨k, rfl⟩ := Int.eq_ofNat_of_zero_le hq.1
      have hk : k < n := by omega
      have q1 : decide ((0 : Int) ≤ (k : Int)) = true := by simp
      have q2 : decide ((k : Int) < (n : Int)) = true := by simp; omega
      have X1 : Hid ((List.replicate n (0 : Int)).getD k 0 = 0) := by show _ = _; simp [List.getD_eq_getElem?_getD, hk]
      clear hq
      go_enter Try.func8, Try.ntmps8
      go_wp2_with fail
      refine (live_yes _).mono ?_
      rintro e u1 ⟨rfl, hb1⟩
      go_wp2_with fail
      refine (new_ok n _ hn).mono ?_
      rintro e u2 ⟨A2, c2, rfl, hf2, hb2⟩
      go_wp2_with fail
      refine (load_ok _ _ _ _ k _ 0 _ hf2.nums X1 hk (by omega)).mono ?_
      rintro e w' ⟨rfl, rfl⟩
      go_wp2
      go_ret
      exact ⟨rfl, hb1.trans (hb2.mono hb1.size)⟩
    · have HQ : Hid (a1 < 0 ∨ (n : Int) ≤ a1) := (by omega : a1 < 0 ∨ (n : Int) ≤ a1)
      by_cases c1 : a1 < 0
      · have q1 : decide ((0 : Int) ≤ a1) = false := by simp; omega
        clear hq
        go_enter Try.func8, Try.ntmps8
        go_wp2_with fail
        refine (live_yes _).mono ?_
        rintro e u1 ⟨rfl, hb1⟩
        go_wp2_with fail
        refine (new_ok n _ hn).mono ?_
        rintro e u2 ⟨A2, c2, rfl, hf2, hb2⟩
        go_wp2_with fail
        refine (load_no _ _ _ _ _ HQ (by omega)).mono ?_
        rintro e w' ⟨rfl, rfl⟩
        go_wp2
        go_ret
        exact ⟨rfl, hb1.trans (hb2.mono hb1.size)⟩
      · have q1 : decide ((0 : Int) ≤ a1) = true := by simp; omega
        have q2 : decide (a1 < (n : Int)) = false := by simp; omega
        clear hq
        go_enter Try.func8, Try.ntmps8
        go_wp2_with fail
        refine (live_yes _).mono ?_
        rintro e u1 ⟨rfl, hb1⟩
        go_wp2_with fail
        refine (new_ok n _ hn).mono ?_
        rintro e u2 ⟨A2, c2, rfl, hf2, hb2⟩
        go_wp2_with fail
        refine (load_no _ _ _ _ _ HQ (by omega)).mono ?_
        rintro e w' ⟨rfl, rfl⟩
        go_wp2
        go_ret
        exact ⟨rfl, hb1.trans (hb2.mono hb1.size)⟩
  · have hP : a0 < 0 ∨ 4096 < a0 := by omega
    have HP := hide hP
    by_cases c1 : a0 < 0
    · have q1 : decide (a0 < 0) = true := by simpa using c1
      clear hp hP
      go_enter Try.func8, Try.ntmps8
      go_wp2_with fail
      refine (live_yes _).mono ?_
      rintro e u1 ⟨rfl, hb1⟩
      go_wp2_with fail
      refine (new_no _ _ HP.out).mono ?_
      rintro e w' ⟨rfl, rfl⟩
      go_wp2
      go_ret
      exact ⟨rfl, hb1⟩
    · have q1 : decide (a0 < 0) = false := by simp; omega
      have q2 : decide (4096 < a0) = true := by simp; omega
      clear hp hP
      go_enter Try.func8, Try.ntmps8
      go_wp2_with fail
      refine (live_yes _).mono ?_
      rintro e u1 ⟨rfl, hb1⟩
      go_wp2_with fail
      refine (new_no _ _ HP.out).mono ?_
      rintro e w' ⟨rfl, rfl⟩
      go_wp2
      go_ret
      exact ⟨rfl, hb1⟩

/-! ### THE ROW's STEP: WRITTEN OUT: LEAVE IT -/
set_option maxRecDepth 100000 in
theorem lifted (os : Os) (started : os.Started) (H : Type) (enc : TypeId × Value → H) :
    ReturnsInHanded {} Try.checked os 8 .any (Rows.memNewSpec.pre6 enc Try.prog Try.f8 Rows.memNewRow.domain false) (Rows.memNewSpec.post enc Try.prog Try.f8 false true false false) := by
  refine returnsInHanded_of_change (C := Try.checked) own started (by kernel_rfl) Try.func8
    (ChangeSpec.witness6 (enc := enc) (C := Try.checked) false ⟨#[], #[.int .i64 0, .int .i64 0], []⟩ 8 (by kernel_rfl) (by kernel_rfl) (by kernel_rfl) (by kernel_rfl)) ?_
  intro W base args ds gs before hval0 hW hcnd _
  have hval : ∀ (j : Nat) t v, Try.f8.params[j]? = some t → args[j]? = some v → Value.okWide Try.prog W .any base t v := hval0
  have hW' := hW
  obtain ⟨p, q, hA0, hV, rfl, hfz, hnd⟩ := hW
  have hA : DataW.TrodAll enc Try.prog W 0 (fun _ => true) true Try.f8.params.toList args.toList ds p := hA0
  rw [Try.params8] at hA hval
  obtain ⟨v0, vs0, d0, ds0, p0, q0, hargs, rfl, rfl, h0, r0⟩ := trodAll_cons hA
  obtain ⟨v1, vs1, d1, ds1, p1, q1, rfl, rfl, rfl, h1, r1⟩ := trodAll_cons r0
  obtain ⟨rfl, rfl, rfl⟩ := trodAll_nil r1
  obtain rfl : args = #[v0, v1] := by cases args; simp_all
  obtain ⟨rfl, rfl⟩ := trodVars_none hV
  obtain ⟨a0, rfl, rfl, rfl, w0⟩ := open_int Try.underlying3 (hval 0 3 v0 rfl rfl) h0
  obtain ⟨a1, rfl, rfl, rfl, w1⟩ := open_int Try.underlying3 (hval 1 3 v1 rfl rfl) h1
  clear hA0 hval0
  refine (walk a0 a1 w0 w1 W).mono fun e W' ⟨he, bel⟩ => ?_
  subst he
  exact ⟨_, rfl, _, _, _, [], _, [], hW', trodAll_mk1 (shut_bool Try.underlying4 _), (trodAll_cons_mk (shut_int Try.underlying3 w0) (trodAll_cons_mk (shut_int Try.underlying3 w1) trodAll_mk0)), rfl, bel.frame _, fun h => by cases h⟩

theorem over : Rows.memNewRow.holds Try.pinned (OpenSpec.ofChange Rows.memNewSpec) :=
  OpenClaim.holds_of_wide 8 Try.f8 rfl rfl rfl rfl rfl rfl rfl ⟨rfl, rfl, rfl, rfl, rfl⟩ rfl rfl rfl rfl rfl (by kernel_rfl) Try.func8 (by kernel_rfl)
    (of_decide_eq_true (by kernel_rfl)) (by unfold Func.isWrapper; first | (rw [if_pos (by decide +kernel)]; kernel_rfl) | (rw [if_neg (by decide +kernel)]; exact ⟨rfl, rfl⟩))
    (fun os started H enc _ => lifted os started H enc)

end Go.Proofs.Ytgfhhippgkflpaa.memNew

namespace Go.Proofs.Ytgfhhippgkflpaa
/-- The statement. -/
theorem memNew_holds : Rows.MemNewSaid := memNew.over
#print axioms memNew_holds
end Go.Proofs.Ytgfhhippgkflpaa
