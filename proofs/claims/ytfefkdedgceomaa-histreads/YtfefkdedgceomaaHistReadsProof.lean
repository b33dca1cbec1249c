/- Whether any history may be, and its calls, or why not, are told as the document says. (The statement tendrillaw12.HistReads.) -/
import Derived.Test.YtfefkdedgceomaaRows
import Derived.Test.YtfefkdedgceomaaWLive
import Derived.Test.YtfefkdedgceomaaRCalls
import Derived.Test.YtfefkdedgceomaaRSame
import Derived.Test.YtfefkdedgceomaaHFrame
import Derived.WalkKit
import Derived.Below
import Derived.Deep.QuietTactic
import Derived.BigQuiet
import Derived.Deep.AppendLies
import Derived.Deep.RegionHeld3
import Derived.Deep.DeepCutAuto
import Derived.Shelf.Abstract
namespace Go.Proofs.Ytfefkdedgceomaa.histReads
open Go.Joins Go.ChangeShapes Go.WideShapes Go.ChangeAt Go.RowKit Go.Deep
set_option linter.unusedVariables false

theorem resC_le (L : List Ev) : (resC L).length ≤ L.length := by
  by_cases h : May L
  · rw [resC_yes h]
    have := calls_le L L.length
    rwa [List.take_length] at this
  · rw [resC_no h]; simp
theorem resC_most {L : List Ev} (h : ∀ i, i < L.length → FewR (L.getD i noEv).r) : ∀ i, i < (resC L).length → MostR ((resC L).getD i noCl).r := by
  by_cases hm : May L
  · rw [resC_yes hm]
    intro i hi
    have p := put_at L i hi
    rcases p.e with ⟨_, h2⟩ | ⟨h1, h2, _, h4⟩
    · rw [h2]; exact FewR.nil.most
    · have := p.f0
      rw [← h4]
      exact (h _ (by omega)).most
  · rw [resC_no hm]
    intro i hi
    simp at hi

set_option maxRecDepth 100000 in
set_option maxHeartbeats 8000000 in
theorem walk (s0 : Sl) (L0 : List Ev) (w : World) (w0 : Evs w w.heap.size s0 L0) (m0 : s0.n ≤ maxLen) (u0 : ∀ i, i < L0.length → Most (L0.getD i noEv).r ∧ (Lit.int .i64 (L0.getD i noEv).t).wf = true) (v0 : s0.n ≤ s0.c) :
    Calls Try.prog 3 #[.slice s0.A s0.n s0.c] w (Drew (.bool true) w) := by
  obtain ⟨A0, N, cp⟩ := s0
  have HP := hide w0
  have HM := hide m0
  have HU := hide u0
  have hl : Hid (L0.length = N) := w0.1
  dsimp only at m0
  unfold maxLen at m0
  clear w0 u0
  go_enter Try.func3, Try.ntmps3
  go_wp2_with fail
  refine (live_any w).mono ?_
  rintro e u1 ⟨rfl, hb1⟩
  have BW := hide hb1
  clear hb1
  go_wp2_with fail
  obtain ⟨q, hq⟩ := hbool (FewL L0 100)
  refine (few_any ⟨A0, N, cp⟩ L0 100 q u1 ((HP.out.below BW.out (Nat.le_refl _)).more BW.out.size) m0 (fun i hi => (HU.out i hi).1) (by decide) hq).mono ?_
  rintro e v2 ⟨rfl, hb1⟩
  have BW := hide (BW.out.trans (hb1.mono BW.out.size))
  clear hb1
  cases q with
  | false =>
    go_wp2
    go_ret
    exact ⟨rfl, BW.out⟩
  | true =>
  have FL : Hid (FewL L0 100) := hq.out.1 rfl
  have hN : N ≤ 100 := by have h1 := FL.out.2; have h2 := hl.out; omega
  clear hq m0
  go_wp2_with fail
  refine (calls_any ⟨A0, N, cp⟩ L0 v2 ((HP.out.below BW.out (Nat.le_refl _)).more BW.out.size) (by dsimp only; omega) (FL.out.few) (fun i hi => (HU.out i hi).2)).mono ?_
  rintro e X3 ⟨⟨A, n, c⟩, Z, rfl, O, E, hb1⟩
  have BW := hide (BW.out.trans (hb1.out.mono BW.out.size))
  have HC : Hid (Cls X3 X3.heap.size ⟨A, n, c⟩ (resC L0)) := by
    have h := O.out.cls
    rw [E.out] at h
    exact h
  clear O E hb1
  go_wp2_with fail
  refine (rcalls_any ⟨A0, N, cp⟩ L0 X3 ((HP.out.below BW.out (Nat.le_refl _)).more BW.out.size) (by dsimp only; omega) v0 FL.out.few).mono ?_
  rintro e X4 ⟨⟨A2, n2, c2⟩, Z2, rfl, O2, E2, hb1⟩
  have BW := hide (BW.out.trans (hb1.out.mono BW.out.size))
  have HC := hide (HC.out.step hb1.out)
  have HD : Hid (Cls X4 X4.heap.size ⟨A2, n2, c2⟩ (resC L0)) := by
    have h := O2.out.cls
    rw [E2.out] at h
    exact h
  clear O2 E2 hb1
  go_wp2_with fail
  refine (check_any ⟨A0, N, cp⟩ L0 X4 ((HP.out.below BW.out (Nat.le_refl _)).more BW.out.size) (by dsimp only; omega) FL.out.few (fun i hi => (HU.out i hi).2)).mono ?_
  rintro e X5 ⟨rfl, hb1⟩
  have BW := hide (BW.out.trans (hb1.mono BW.out.size))
  have HC := hide (HC.out.step hb1)
  have HD := hide (HD.out.step hb1)
  clear hb1
  go_wp2_with fail
  refine (rcheck_any ⟨A0, N, cp⟩ L0 X5 ((HP.out.below BW.out (Nat.le_refl _)).more BW.out.size) (by dsimp only; omega) v0 FL.out.few).mono ?_
  rintro e X6 ⟨rfl, hb1⟩
  have BW := hide (BW.out.trans (hb1.mono BW.out.size))
  have HC := hide (HC.out.step hb1)
  have HD := hide (HD.out.step hb1)
  clear hb1
  have hnn : n ≤ 1000 := by have h1 : (resC L0).length = n := HC.out.1; have h2 := resC_le L0; have := hl.out; omega
  go_wp2_with fail
  refine (sameAll_any ⟨A, n, c⟩ ⟨A2, n2, c2⟩ (resC L0) X6 HC.out HD.out hnn (resC_most FL.out.few)).mono ?_
  rintro e X7 ⟨rfl, hb1⟩
  have BW := hide (BW.out.trans (hb1.mono BW.out.size))
  clear hb1
  go_wp2
  go_ret
  exact ⟨rfl, BW.out⟩

set_option maxRecDepth 100000 in
theorem lifted (os : Os) (started : os.Started) (H : Type) (enc : TypeId × Value → H) :
    ReturnsInHanded {} Try.checked os 3 .any (Rows.histReadsSpec.pre6 enc Try.prog Try.f3 Rows.histReadsRow.domain false) (Rows.histReadsSpec.post enc Try.prog Try.f3 false true false false) := by
  refine returnsInHanded_of_change (C := Try.checked) own started (by kernel_rfl) Try.func3
    (ChangeSpec.witness6 (enc := enc) (C := Try.checked) false ⟨#[], #[.slice none 0 0], []⟩ 8 (by kernel_rfl) (by kernel_rfl) (by kernel_rfl) (by kernel_rfl)) ?_
  intro W base args ds gs before hval0 hW hcnd _
  have hval : ∀ (j : Nat) t v, Try.f3.params[j]? = some t → args[j]? = some v → Value.okWide Try.prog W .any base t v := hval0
  have hW' := hW
  obtain ⟨p, q, hA0, hV, rfl, hfz, hnd⟩ := hW
  have hA : DataW.TrodAll enc Try.prog W 0 (fun _ => true) true Try.f3.params.toList args.toList ds p := hA0
  rw [Try.params3] at hA hval
  obtain ⟨x0, vs0, d0, ds0, p0_, q0, hargs, rfl, rfl, h0, r0⟩ := trodAll_cons hA
  obtain ⟨rfl, rfl, rfl⟩ := trodAll_nil r0
  obtain rfl : args = #[x0] := by cases args; simp_all
  obtain ⟨rfl, rfl⟩ := trodVars_none hV
  have lt0 : ∀ x ∈ p0_, x.block < W.heap.size := by obtain ⟨m, hm⟩ := h0; exact DataW.trod_lt m _ _ _ hm
  obtain ⟨s0, L0, rfl, w0, m0, u0, v0⟩ := open_events (hval 0 22 x0 rfl rfl) h0
  clear hA0 hval0
  refine (walk s0 L0 W w0 m0 u0 v0).mono fun e W' ⟨he, bel⟩ => ?_
  subst he
  exact ⟨_, rfl, _, _, _, [], _, [], hW', trodAll_mk1 (shut_bool Try.underlying4 _), (trodAll_cons_mk (Below.trod laidOut (by kernel_rfl) (of_decide_eq_true (by kernel_rfl)) h0 bel lt0) trodAll_mk0), rfl, bel.frame _, fun h => by cases h⟩

theorem over : Rows.histReadsRow.holds Try.pinned (OpenSpec.ofChange Rows.histReadsSpec) :=
  OpenClaim.holds_of_wide 3 Try.f3 rfl rfl rfl rfl rfl rfl rfl ⟨rfl, rfl, rfl, rfl, rfl⟩ rfl rfl rfl rfl rfl (by kernel_rfl) Try.func3 (by kernel_rfl)
    (of_decide_eq_true (by kernel_rfl)) (by unfold Func.isWrapper; first | (rw [if_pos (by decide +kernel)]; kernel_rfl) | (rw [if_neg (by decide +kernel)]; exact ⟨rfl, rfl⟩))
    (fun os started H enc _ => lifted os started H enc)

end Go.Proofs.Ytfefkdedgceomaa.histReads

namespace Go.Proofs.Ytfefkdedgceomaa
/-- The statement. -/
theorem histReads_holds : Rows.HistReadsSaid := histReads.over
#print axioms histReads_holds
end Go.Proofs.Ytfefkdedgceomaa
