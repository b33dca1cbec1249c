/- Of two calls of one thread the first one is before the other one; at most its last one is pending. (The statement tendrillaw12.HistThreads.) -/
import Derived.Test.YtfefkdedgceomaaRows
import Derived.Test.YtfefkdedgceomaaWLive
import Derived.Test.YtfefkdedgceomaaHFrame
import Derived.WalkKit
import Derived.Below
import Derived.Deep.QuietTactic
import Derived.BigQuiet
import Derived.Deep.AppendLies
import Derived.Deep.RegionHeld3
import Derived.Deep.DeepCutAuto
import Derived.Shelf.Abstract
namespace Go.Proofs.Ytfefkdedgceomaa.histThreads
open Go.Joins Go.ChangeShapes Go.WideShapes Go.ChangeAt Go.RowKit Go.Deep
set_option linter.unusedVariables false

theorem own_cap {u : World} {B e s n c : Nat} {A : Option Addr} {xs : List Value} (h : u.ownsRow B e s (.slice A n c) n xs) : n ≤ c := by
  rcases h.2 with ⟨h1, h2⟩ | ⟨g, cap, cur, h1, _, _, h3, _⟩
  · omega
  · simp only [Value.slice.injEq] at h1
    omega

set_option maxRecDepth 100000 in
set_option maxHeartbeats 8000000 in
theorem walk (s0 : Sl) (L0 : List Ev) (w : World) (w0 : Evs w w.heap.size s0 L0) (m0 : s0.n ≤ maxLen) (u0 : ∀ i, i < L0.length → Most (L0.getD i noEv).r ∧ (Lit.int .i64 (L0.getD i noEv).t).wf = true) (v0 : s0.n ≤ s0.c) :
    Calls Try.prog 5 #[.slice s0.A s0.n s0.c] w (Drew (.bool true) w) := by
  obtain ⟨A0, N, cp⟩ := s0
  have HP := hide w0
  have HM := hide m0
  have HU := hide u0
  have hl : Hid (L0.length = N) := w0.1
  dsimp only at m0
  unfold maxLen at m0
  clear w0 u0
  go_enter Try.func5, Try.ntmps5
  go_wp2_with fail
  refine (live_any w).mono ?_
  rintro e u1 ⟨rfl, hb1⟩
  have BW := hide hb1
  clear hb1
  go_wp2_with fail
  obtain ⟨q, hq⟩ := hbool (FewL L0 100)
  refine (few_any ⟨A0, N, cp⟩ L0 100 q u1 ((HP.out.below BW.out (Nat.le_refl _)).more BW.out.size) m0 (fun i hi => (HU.out i hi).1) (by decide) hq).mono ?_
  rintro e v2 ⟨rfl, hb1⟩
  have BW := hide (BW.out.trans (hb1.mono BW.out.size))
  clear hb1
  cases q with
  | false =>
    go_wp2
    go_ret
    exact ⟨rfl, BW.out⟩
  | true =>
  have FL : Hid (FewL L0 100) := hq.out.1 rfl
  have hN : N ≤ 100 := by have h1 := FL.out.2; have h2 := hl.out; omega
  clear hq m0
  go_wp2_with fail
  refine (calls_any ⟨A0, N, cp⟩ L0 v2 ((HP.out.below BW.out (Nat.le_refl _)).more BW.out.size) (by dsimp only; omega) (FL.out.few) (fun i hi => (HU.out i hi).2)).mono ?_
  rintro e u3 ⟨⟨A, n, c⟩, Z, rfl, O, E, hb1⟩
  have BW := hide (BW.out.trans (hb1.out.mono BW.out.size))
  by_cases hm : May L0
  case neg =>
    have E1 : Hid (resE L0 = 1) := resE_no hm
    have e1 := E1.out
    rw [e1]
    clear hm
    have E2 : Hid (resC L0 = []) := resC_no (fun h => by have := resE_yes h; rw [this] at e1; cases e1)
    have hn0 : n = 0 := by have h1 := O.out.many; have h2 := congrArg List.length (E.out.trans E2.out); simp at h2; dsimp only at h1; rw [h1, h2]; rfl
    subst hn0
    clear O E E2 hb1
    go_wp2_with fail
    refine (check_any ⟨A0, N, cp⟩ L0 u3 ((HP.out.below BW.out (Nat.le_refl _)).more BW.out.size) (by dsimp only; omega) FL.out.few (fun i hi => (HU.out i hi).2)).mono ?_
    rintro e u4 ⟨rfl, hb4⟩
    rw [e1]
    go_wp2
    go_ret
    exact ⟨rfl, BW.out.trans (hb4.mono BW.out.size)⟩
  have HMAY := hide hm
  have E1 : resE L0 = 0 := resE_yes hm
  rw [E1]
  clear E1 hm
  have HC : Hid (Cls u3 u3.heap.size ⟨A, n, c⟩ (calls L0)) := by
    have h := O.out.cls
    rw [E.out, resC_yes HMAY.out] at h
    exact h
  have hn : Hid (n = (calls L0).length) := HC.out.1.symm
  have hnN : n ≤ N := by have h1 := calls_le L0 L0.length; have h2 := hn.out; rw [List.take_length] at h1; have := hl.out; omega
  have HCAP : n ≤ c := own_cap O.out.rows
  clear O E hb1
  go_wp2
  go_loopw [32] (fun j wr => ∃ i : Nat, i ≤ n ∧ j = .int .i64 i ∧ Hid (Below u3.heap.size u3 wr)) (fun j _ => n - (intOf j).toNat)
  case atStart => exact ⟨0, by omega, rfl, Below.refl _ _⟩
  case round =>
    obtain ⟨i, hk, rfl, HB⟩ := hrel
    by_cases hlt : i < n
    · obtain ⟨ba, oa, za, eaa, -, La0, Ra0⟩ := (HC.out.below HB.out (Nat.le_refl _)).at_ (k := i) hlt
      dsimp only at eaa
      have Pa : Hid (Put L0 ((calls L0).getD i noCl)) := put_at L0 i (by have := hn.out; omega)
      obtain ⟨a, ha⟩ : ∃ c, Hid ((calls L0).getD i noCl = c) := ⟨_, rfl⟩
      rw [ha.out] at La0 Ra0 Pa
      have La := hide La0
      have Ma := hide (made wr zero39 (cc a za) 39)
      clear La0 Ra0
      subst eaa
      have BA := hide Ma.out.1
      have HB1 := hide (HB.out.trans (Ma.out.2.mono HB.out.size))
      by_cases hls : i + 1 < n
      · obtain ⟨mm, hmm⟩ : ∃ mm, mm = n - (i + 1) := ⟨_, rfl⟩
        have ic : i + 1 < c := by omega
        go_wp2_with (first | ((with_reducible refine ld39 (.tmp 35) ba (oa + i * 13) ?_ ?_ a za ?_ ?_); (exact rfl); (exact rfl); (exact La.out)) | ((with_reducible refine st39 (.tmp 6) (.tmp 36) wr.heap.size ?_ a za ?_ zero39 ?_ rfl ?_); (exact rfl); (exact rfl); (exact Bx.new wr zero39 39)))
        obtain ⟨U, hU⟩ : ∃ U, Hid ((wr.alloc (.cells zero39 39)).setRow wr.heap.size (cc a za) = U) := ⟨_, rfl⟩
        obtain ⟨ga, hga⟩ : ∃ g, Hid (wr.heap.size = g) := ⟨_, rfl⟩
        have hU' := hU.out
        have hg' := hga.out
        rw [hU', hg']
        rw [hU'] at BA HB1
        rw [hg'] at BA
        clear hU hU' hga hg' Ma HB
        go_loopw [42] (fun j wx => ∃ k2 : Nat, k2 ≤ n - (i + 1) ∧ j = .int .i64 k2 ∧ Hid (Bx wx ga (cc a za) 39) ∧ Hid (Below u3.heap.size u3 wx)) (fun j _ => n - (intOf j).toNat)
        case atStart => exact ⟨0, by omega, rfl, BA, HB1⟩
        case round =>
          clear BA HB1
          obtain ⟨k2, hk2, rfl, BA, HB⟩ := hrel
          by_cases hlt2 : k2 < n - (i + 1)
          · obtain ⟨bb, ob, zb, eab, -, Lb0, Rb0⟩ := (HC.out.below HB.out (Nat.le_refl _)).at_ (k := (i + 1 + k2)) (by dsimp only; omega)
            dsimp only at eab
            have Pb : Hid (Put L0 ((calls L0).getD (i + 1 + k2) noCl)) := put_at L0 (i + 1 + k2) (by have := hn.out; omega)
            obtain ⟨b, hb⟩ : ∃ c, Hid ((calls L0).getD (i + 1 + k2) noCl = c) := ⟨_, rfl⟩
            rw [hb.out] at Lb0 Rb0 Pb
            have Lb := hide Lb0
            have Mb := hide (made wr zero39 (cc b zb) 39)
            clear Lb0 Rb0
            simp only [Option.some.injEq, Addr.mk.injEq, and_true] at eab
            obtain ⟨x1, x2⟩ := eab
            subst x1 x2
            have Lb2 : Hid (Lies wr ba (oa + (i + 1) * 13 + k2 * 13) (cc b zb)) := by have h := Lb.out; rwa [show oa + (i + 1 + k2) * 13 = oa + (i + 1) * 13 + k2 * 13 by omega] at h
            have BB := hide Mb.out.1
            have BA1 := hide (BA.out.step Mb.out.2)
            have HB1 := hide (HB.out.trans (Mb.out.2.mono HB.out.size))
            have HPL : Hid (a.f < b.f) := by have h := places L0 i (i + 1 + k2) (by omega) (by have := hn.out; omega); rw [ha.out, hb.out] at h; exact h
            have HAH : Hid (a.t = b.t → 0 ≤ a.e ∧ a.e < b.f) := by have h := ahead L0 HMAY.out i (i + 1 + k2) (by omega) (by have := hn.out; omega); rw [ha.out, hb.out] at h; exact h
            have HBA : Hid (¬ (0 ≤ b.e ∧ b.e < a.f)) := by have h1 := HPL.out; have h2 := Pb.out.e; show ¬ _; omega
            have t1 : decide (a.f ≥ b.f) = false := by have := HPL.out; simp; omega
            have t1' : decide (b.f ≤ a.f) = false := by have := HPL.out; simp; omega
            obtain ⟨X, hX⟩ : ∃ X, Hid ((wr.alloc (.cells zero39 39)).setRow wr.heap.size (cc b zb) = X) := ⟨_, rfl⟩
            obtain ⟨gb, hgb⟩ : ∃ g, Hid (wr.heap.size = g) := ⟨_, rfl⟩
            have a6 : ((wr.alloc (.cells zero39 39)).setRow wr.heap.size (cc b zb)).cell? ⟨ga, 6, none⟩ = some (.int .i64 a.f) := BA1.out.c6
            have b6 : ((wr.alloc (.cells zero39 39)).setRow wr.heap.size (cc b zb)).cell? ⟨wr.heap.size, 6, none⟩ = some (.int .i64 b.f) := BB.out.c6
            have a0 : ((wr.alloc (.cells zero39 39)).setRow wr.heap.size (cc b zb)).cell? ⟨ga, 0, none⟩ = some (.int .i64 a.t) := BA1.out.c0
            have b0 : ((wr.alloc (.cells zero39 39)).setRow wr.heap.size (cc b zb)).cell? ⟨wr.heap.size, 0, none⟩ = some (.int .i64 b.t) := BB.out.c0
            by_cases hab : a.t = b.t
            case pos =>
              have t2 : (a.t == b.t) = true := by simpa using hab
              have HAB := hide (HAH.out hab)
              clear hab HAH
              go_wp2_with (first | ((with_reducible refine ld39 (.tmp 44) ba (oa + (i + 1) * 13 + k2 * 13) ?_ ?_ b zb ?_ ?_); (exact rfl); (exact rfl); (exact Lb2.out)) | ((with_reducible refine st39 (.tmp 8) (.tmp 45) wr.heap.size ?_ b zb ?_ zero39 ?_ rfl ?_); (exact rfl); (exact rfl); (exact Bx.new wr zero39 39)) | ((with_reducible refine ld39 (.tmp 6) ga (0) ?_ ?_ a za ?_ ?_); (exact rfl); (exact rfl); (exact BA1.out.lies)) | ((with_reducible refine ld39 (.tmp 8) wr.heap.size (0) ?_ ?_ b zb ?_ ?_); (exact rfl); (exact rfl); (exact BB.out.lies)))
              clear a6 b6 a0 b0
              have hgb' := hgb.out
              have hX' := hX.out
              rw [hX']
              rw [hX'] at BA1 BB HB1
              rw [hgb'] at BB ⊢
              clear hX hX' hgb hgb' Mb HB BA
              refine (before16 a b za zb true X ⟨fun _ => HAB.out, fun _ => rfl⟩).mono ?_
              rintro e v4 ⟨rfl, hb4⟩
              have BA2 := hide (BA1.out.step hb4)
              have BB2 := hide (BB.out.step hb4)
              have HB2 := hide (HB1.out.trans (hb4.mono HB1.out.size))
              have a7 : v4.cell? ⟨ga, 7, none⟩ = some (.int .i64 a.e) := BA2.out.c7
              have t3 : decide (a.e < 0) = false := by have := HAB.out.1; simp; omega
              clear hb4 BA1 BB HB1
              go_wp2_with (first | ((with_reducible refine ld39 (.tmp 6) ga (0) ?_ ?_ a za ?_ ?_); (exact rfl); (exact rfl); (exact BA2.out.lies)) | ((with_reducible refine ld39 (.tmp 8) gb (0) ?_ ?_ b zb ?_ ?_); (exact rfl); (exact rfl); (exact BB2.out.lies)))
              refine (before16 b a zb za false v4 ⟨(fun h => by cases h), fun h => absurd h HBA.out⟩).mono ?_
              rintro e v5 ⟨rfl, hb4⟩
              have BA3 := hide (BA2.out.step hb4)
              have HB3 := hide (HB2.out.trans (hb4.mono HB2.out.size))
              clear hb4
              go_wp2
              go_roundw
              case rel => exact ⟨k2 + 1, by omega, by go_num, BA3, HB3⟩
              case measure => simp [intOf]; omega
            case neg =>
              have t2 : (a.t == b.t) = false := by simpa using hab
              clear hab HAH
              go_wp2_with (first | ((with_reducible refine ld39 (.tmp 44) ba (oa + (i + 1) * 13 + k2 * 13) ?_ ?_ b zb ?_ ?_); (exact rfl); (exact rfl); (exact Lb2.out)) | ((with_reducible refine st39 (.tmp 8) (.tmp 45) wr.heap.size ?_ b zb ?_ zero39 ?_ rfl ?_); (exact rfl); (exact rfl); (exact Bx.new wr zero39 39)) | ((with_reducible refine ld39 (.tmp 6) ga (0) ?_ ?_ a za ?_ ?_); (exact rfl); (exact rfl); (exact BA1.out.lies)) | ((with_reducible refine ld39 (.tmp 8) wr.heap.size (0) ?_ ?_ b zb ?_ ?_); (exact rfl); (exact rfl); (exact BB.out.lies)))
              clear a6 b6 a0 b0
              have hgb' := hgb.out
              have hX' := hX.out
              rw [hX']
              rw [hX'] at BA1 BB HB1
              rw [hgb'] at BB ⊢
              clear hX hX' hgb hgb' Mb HB BA
              refine (before16 b a zb za false X ⟨(fun h => by cases h), fun h => absurd h HBA.out⟩).mono ?_
              rintro e v5 ⟨rfl, hb4⟩
              have BA3 := hide (BA1.out.step hb4)
              have HB3 := hide (HB1.out.trans (hb4.mono HB1.out.size))
              clear hb4
              go_wp2
              go_roundw
              case rel => exact ⟨k2 + 1, by omega, by go_num, BA3, HB3⟩
              case measure => simp [intOf]; omega
          · obtain rfl : k2 = n - (i + 1) := by omega
            go_wp2
            go_roundw
            case rel => exact ⟨i + 1, by omega, by go_num, HB⟩
            case measure => simp [intOf]; omega
      · have hn1 : n ≤ i + 1 := by omega
        by_cases hcc : c = i + 1
        · subst hcc
          go_wp2_with (first | ((with_reducible refine ld39 (.tmp 35) ba (oa + i * 13) ?_ ?_ a za ?_ ?_); (exact rfl); (exact rfl); (exact La.out)) | ((with_reducible refine st39 (.tmp 6) (.tmp 36) wr.heap.size ?_ a za ?_ zero39 ?_ rfl ?_); (exact rfl); (exact rfl); (exact Bx.new wr zero39 39)))
          obtain ⟨U, hU⟩ : ∃ U, Hid ((wr.alloc (.cells zero39 39)).setRow wr.heap.size (cc a za) = U) := ⟨_, rfl⟩
          obtain ⟨ga, hga⟩ : ∃ g, Hid (wr.heap.size = g) := ⟨_, rfl⟩
          have hU' := hU.out
          have hg' := hga.out
          rw [hU', hg']
          rw [hU'] at BA HB1
          rw [hg'] at BA
          clear hU hU' hga hg' Ma HB
          go_loopw [42] (fun j wx => ∃ k2 : Nat, k2 ≤ n - (i + 1) ∧ j = .int .i64 k2 ∧ Hid (Below u3.heap.size u3 wx)) (fun j _ => n - (intOf j).toNat)
          case atStart => exact ⟨0, by omega, rfl, HB1⟩
          case round =>
            clear HB1
            obtain ⟨k2, hk2, rfl, HB⟩ := hrel
            obtain rfl : k2 = n - (i + 1) := by omega
            go_wp2
            go_roundw
            case rel => exact ⟨i + 1, by omega, by go_num, HB⟩
            case measure => simp [intOf]; omega
        · have ic : i + 1 < c := by omega
          go_wp2_with (first | ((with_reducible refine ld39 (.tmp 35) ba (oa + i * 13) ?_ ?_ a za ?_ ?_); (exact rfl); (exact rfl); (exact La.out)) | ((with_reducible refine st39 (.tmp 6) (.tmp 36) wr.heap.size ?_ a za ?_ zero39 ?_ rfl ?_); (exact rfl); (exact rfl); (exact Bx.new wr zero39 39)))
          obtain ⟨U, hU⟩ : ∃ U, Hid ((wr.alloc (.cells zero39 39)).setRow wr.heap.size (cc a za) = U) := ⟨_, rfl⟩
          obtain ⟨ga, hga⟩ : ∃ g, Hid (wr.heap.size = g) := ⟨_, rfl⟩
          have hU' := hU.out
          have hg' := hga.out
          rw [hU', hg']
          rw [hU'] at BA HB1
          rw [hg'] at BA
          clear hU hU' hga hg' Ma HB
          go_loopw [42] (fun j wx => ∃ k2 : Nat, k2 ≤ n - (i + 1) ∧ j = .int .i64 k2 ∧ Hid (Below u3.heap.size u3 wx)) (fun j _ => n - (intOf j).toNat)
          case atStart => exact ⟨0, by omega, rfl, HB1⟩
          case round =>
            clear HB1
            obtain ⟨k2, hk2, rfl, HB⟩ := hrel
            obtain rfl : k2 = n - (i + 1) := by omega
            go_wp2
            go_roundw
            case rel => exact ⟨i + 1, by omega, by go_num, HB⟩
            case measure => simp [intOf]; omega
    · obtain rfl : n = i := by omega
      go_wp2
      go_ret
      exact ⟨rfl, BW.out.trans (HB.out.mono BW.out.size)⟩

set_option maxRecDepth 100000 in
theorem lifted (os : Os) (started : os.Started) (H : Type) (enc : TypeId × Value → H) :
    ReturnsInHanded {} Try.checked os 5 .any (Rows.histThreadsSpec.pre6 enc Try.prog Try.f5 Rows.histThreadsRow.domain false) (Rows.histThreadsSpec.post enc Try.prog Try.f5 false true false false) := by
  refine returnsInHanded_of_change (C := Try.checked) own started (by kernel_rfl) Try.func5
    (ChangeSpec.witness6 (enc := enc) (C := Try.checked) false ⟨#[], #[.slice none 0 0], []⟩ 8 (by kernel_rfl) (by kernel_rfl) (by kernel_rfl) (by kernel_rfl)) ?_
  intro W base args ds gs before hval0 hW hcnd _
  have hval : ∀ (j : Nat) t v, Try.f5.params[j]? = some t → args[j]? = some v → Value.okWide Try.prog W .any base t v := hval0
  have hW' := hW
  obtain ⟨p, q, hA0, hV, rfl, hfz, hnd⟩ := hW
  have hA : DataW.TrodAll enc Try.prog W 0 (fun _ => true) true Try.f5.params.toList args.toList ds p := hA0
  rw [Try.params5] at hA hval
  obtain ⟨x0, vs0, d0, ds0, p0_, q0, hargs, rfl, rfl, h0, r0⟩ := trodAll_cons hA
  obtain ⟨rfl, rfl, rfl⟩ := trodAll_nil r0
  obtain rfl : args = #[x0] := by cases args; simp_all
  obtain ⟨rfl, rfl⟩ := trodVars_none hV
  have lt0 : ∀ x ∈ p0_, x.block < W.heap.size := by obtain ⟨m, hm⟩ := h0; exact DataW.trod_lt m _ _ _ hm
  obtain ⟨s0, L0, rfl, w0, m0, u0, v0⟩ := open_events (hval 0 22 x0 rfl rfl) h0
  clear hA0 hval0
  refine (walk s0 L0 W w0 m0 u0 v0).mono fun e W' ⟨he, bel⟩ => ?_
  subst he
  exact ⟨_, rfl, _, _, _, [], _, [], hW', trodAll_mk1 (shut_bool Try.underlying4 _), (trodAll_cons_mk (Below.trod laidOut (by kernel_rfl) (of_decide_eq_true (by kernel_rfl)) h0 bel lt0) trodAll_mk0), rfl, bel.frame _, fun h => by cases h⟩

theorem over : Rows.histThreadsRow.holds Try.pinned (OpenSpec.ofChange Rows.histThreadsSpec) :=
  OpenClaim.holds_of_wide 5 Try.f5 rfl rfl rfl rfl rfl rfl rfl ⟨rfl, rfl, rfl, rfl, rfl⟩ rfl rfl rfl rfl rfl (by kernel_rfl) Try.func5 (by kernel_rfl)
    (of_decide_eq_true (by kernel_rfl)) (by unfold Func.isWrapper; first | (rw [if_pos (by decide +kernel)]; kernel_rfl) | (rw [if_neg (by decide +kernel)]; exact ⟨rfl, rfl⟩))
    (fun os started H enc _ => lifted os started H enc)

end Go.Proofs.Ytfefkdedgceomaa.histThreads

namespace Go.Proofs.Ytfefkdedgceomaa
/-- The statement. -/
theorem histThreads_holds : Rows.HistThreadsSaid := histThreads.over
#print axioms histThreads_holds
end Go.Proofs.Ytfefkdedgceomaa
