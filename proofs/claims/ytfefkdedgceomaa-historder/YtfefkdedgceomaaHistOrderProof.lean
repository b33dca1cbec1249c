/- Being ahead is an order: of the calls of a history none is ahead of itself, and who is ahead of one that is ahead of a third one is ahead of that. (The statement tendrillaw12.HistOrder.) -/
import Derived.Test.YtfefkdedgceomaaRows
import Derived.Test.YtfefkdedgceomaaWLive
import Derived.Test.YtfefkdedgceomaaHFrame
import Derived.WalkKit
import Derived.Below
import Derived.Deep.QuietTactic
import Derived.BigQuiet
import Derived.Deep.AppendLies
import Derived.Deep.RegionHeld3
import Derived.Deep.DeepCutAuto
import Derived.Shelf.Abstract
namespace Go.Proofs.Ytfefkdedgceomaa.histOrder
open Go.Joins Go.ChangeShapes Go.WideShapes Go.ChangeAt Go.RowKit Go.Deep
set_option linter.unusedVariables false

set_option maxRecDepth 100000 in
set_option maxHeartbeats 8000000 in
theorem walk (s0 : Sl) (L0 : List Ev) (w : World) (w0 : Evs w w.heap.size s0 L0) (m0 : s0.n ≤ maxLen) (u0 : ∀ i, i < L0.length → Most (L0.getD i noEv).r ∧ (Lit.int .i64 (L0.getD i noEv).t).wf = true) (v0 : s0.n ≤ s0.c) :
    Calls Try.prog 8 #[.slice s0.A s0.n s0.c] w (Drew (.bool true) w) := by
  obtain ⟨A0, N, cp⟩ := s0
  have HP := hide w0
  have HM := hide m0
  have HU := hide u0
  have hl : Hid (L0.length = N) := w0.1
  dsimp only at m0
  unfold maxLen at m0
  clear w0 u0
  go_enter Try.func8, Try.ntmps8
  go_wp2_with fail
  refine (live_any w).mono ?_
  rintro e u1 ⟨rfl, hb1⟩
  have BW := hide hb1
  clear hb1
  go_wp2_with fail
  obtain ⟨q, hq⟩ := hbool (FewL L0 30)
  refine (few_any ⟨A0, N, cp⟩ L0 30 q u1 ((HP.out.below BW.out (Nat.le_refl _)).more BW.out.size) m0 (fun i hi => (HU.out i hi).1) (by decide) hq).mono ?_
  rintro e v2 ⟨rfl, hb1⟩
  have BW := hide (BW.out.trans (hb1.mono BW.out.size))
  clear hb1
  cases q with
  | false =>
    go_wp2
    go_ret
    exact ⟨rfl, BW.out⟩
  | true =>
  have FL : Hid (FewL L0 30) := hq.out.1 rfl
  have hN : N ≤ 30 := by have h1 := FL.out.2; have h2 := hl.out; omega
  clear hq m0
  go_wp2_with fail
  refine (calls_any ⟨A0, N, cp⟩ L0 v2 ((HP.out.below BW.out (Nat.le_refl _)).more BW.out.size) (by dsimp only; omega) (FL.out.few) (fun i hi => (HU.out i hi).2)).mono ?_
  rintro e u3 ⟨⟨A, n, c⟩, Z, rfl, O, E, hb1⟩
  have BW := hide (BW.out.trans (hb1.out.mono BW.out.size))
  by_cases hm : May L0
  case neg =>
    have E1 : Hid (resE L0 = 1) := resE_no hm
    have e1 := E1.out
    rw [e1]
    clear e1 hm
    go_wp2
    go_ret
    exact ⟨rfl, BW.out⟩
  have HMAY := hide hm
  have E1 : resE L0 = 0 := resE_yes hm
  rw [E1]
  clear E1 hm
  have HC : Hid (Cls u3 u3.heap.size ⟨A, n, c⟩ (calls L0)) := by
    have h := O.out.cls
    rw [E.out, resC_yes HMAY.out] at h
    exact h
  have hn : Hid (n = (calls L0).length) := HC.out.1.symm
  have hnN : n ≤ N := by have h1 := calls_le L0 L0.length; have h2 := hn.out; rw [List.take_length] at h1; have := hl.out; omega
  clear O E hb1
  go_wp2
  go_loopw [25] (fun i wr => ∃ k : Nat, k ≤ n ∧ i = .int .i64 k ∧ Hid (Below u3.heap.size u3 wr)) (fun i _ => n - (intOf i).toNat)
  case atStart => exact ⟨0, by omega, rfl, Below.refl _ _⟩
  case round =>
    obtain ⟨k, hk, rfl, HB⟩ := hrel
    by_cases hlt : k < n
    · obtain ⟨w1, hw1⟩ : ∃ x, x = wr := ⟨_, rfl⟩
      obtain ⟨ba, oa, za, eaa, -, La0, Ra0⟩ := (HC.out.below HB.out (Nat.le_refl _)).at_ (k := k) hlt
      dsimp only at eaa
      have Pa : Hid (Put L0 ((calls L0).getD k noCl)) := put_at L0 k (by have := hn.out; omega)
      obtain ⟨a, ha⟩ : ∃ c, Hid ((calls L0).getD k noCl = c) := ⟨_, rfl⟩
      rw [ha.out] at La0 Ra0 Pa
      have La := hide La0
      have Ma := hide (made wr zero39 (cc a za) 39)
      clear La0 Ra0
      subst eaa
      have BA := hide Ma.out.1
      have HB1 := hide (HB.out.trans (Ma.out.2.mono HB.out.size))
      go_wp2_with (first | ((with_reducible refine ld39 (.tmp 27) ba (oa + k * 13) ?_ ?_ a za ?_ ?_); (exact rfl); (exact rfl); (exact La.out)) | ((with_reducible refine st39 (.tmp 6) (.tmp 28) wr.heap.size ?_ a za ?_ zero39 ?_ rfl ?_); (exact rfl); (exact rfl); (exact Bx.new wr zero39 39)) | ((with_reducible refine ld39 (.tmp 6) wr.heap.size (0) ?_ ?_ a za ?_ ?_); (exact rfl); (exact rfl); (exact BA.out.lies)))
      obtain ⟨U, hU⟩ : ∃ U, Hid ((wr.alloc (.cells zero39 39)).setRow wr.heap.size (cc a za) = U) := ⟨_, rfl⟩
      obtain ⟨ga, hga⟩ : ∃ g, Hid (wr.heap.size = g) := ⟨_, rfl⟩
      have hU' := hU.out
      have hg' := hga.out
      rw [hU', hg']
      rw [hU'] at BA HB1
      rw [hg'] at BA
      clear hU hU' hga hg' Ma
      refine (before16 a a za za false U ⟨(fun h => by cases h), fun h => by have := Pa.out.e; omega⟩).mono ?_
      rintro e u4 ⟨rfl, hb4⟩
      have BA := hide (BA.out.step hb4)
      have HB1 := hide (HB1.out.trans (hb4.mono HB1.out.size))
      clear hb4 HB
      go_wp2
      go_loopw [34] (fun i wx => ∃ k2 : Nat, k2 ≤ n ∧ i = .int .i64 k2 ∧ Hid (Bx wx ga (cc a za) 39) ∧ Hid (Below u3.heap.size u3 wx)) (fun i _ => n - (intOf i).toNat)
      case atStart => exact ⟨0, by omega, rfl, BA, HB1⟩
      case round =>
        clear BA HB1
        obtain ⟨k2, hk2, rfl, BA, HB⟩ := hrel
        by_cases hlt2 : k2 < n
        · obtain ⟨bb, ob, zb, eab, -, Lb0, Rb0⟩ := (HC.out.below HB.out (Nat.le_refl _)).at_ (k := k2) hlt2
          dsimp only at eab
          have Pb : Hid (Put L0 ((calls L0).getD k2 noCl)) := put_at L0 k2 (by have := hn.out; omega)
          obtain ⟨b, hb⟩ : ∃ c, Hid ((calls L0).getD k2 noCl = c) := ⟨_, rfl⟩
          rw [hb.out] at Lb0 Rb0 Pb
          have Lb := hide Lb0
          have Mb := hide (made wr zero39 (cc b zb) 39)
          clear Lb0 Rb0
          simp only [Option.some.injEq, Addr.mk.injEq, and_true] at eab
          obtain ⟨x1, x2⟩ := eab
          subst x1 x2
          have BB := hide Mb.out.1
          have BA1 := hide (BA.out.step Mb.out.2)
          have HB1 := hide (HB.out.trans (Mb.out.2.mono HB.out.size))
          go_wp2_with (first | ((with_reducible refine ld39 (.tmp 36) ba (oa + k2 * 13) ?_ ?_ b zb ?_ ?_); (exact rfl); (exact rfl); (exact Lb.out)) | ((with_reducible refine st39 (.tmp 8) (.tmp 37) wr.heap.size ?_ b zb ?_ zero39 ?_ rfl ?_); (exact rfl); (exact rfl); (exact Bx.new wr zero39 39)))
          obtain ⟨X, hX⟩ : ∃ X, Hid ((wr.alloc (.cells zero39 39)).setRow wr.heap.size (cc b zb) = X) := ⟨_, rfl⟩
          obtain ⟨gb, hgb⟩ : ∃ g, Hid (wr.heap.size = g) := ⟨_, rfl⟩
          have hgb' := hgb.out
          have hX' := hX.out
          rw [hX', hgb']
          rw [hX'] at BA1 HB1 BB
          rw [hgb'] at BB
          clear hgb hgb' hX hX' Mb HB BA
          go_loopw [40] (fun i wy => ∃ k3 : Nat, k3 ≤ n ∧ i = .int .i64 k3 ∧ Hid (Bx wy ga (cc a za) 39) ∧ Hid (Bx wy gb (cc b zb) 39) ∧ Hid (Below u3.heap.size u3 wy)) (fun i _ => n - (intOf i).toNat)
          case atStart => exact ⟨0, by omega, rfl, BA1, BB, HB1⟩
          case round =>
            clear BA1 BB HB1
            obtain ⟨k3, hk3, rfl, BA, BB, HB⟩ := hrel
            by_cases hlt3 : k3 < n
            · obtain ⟨bd, od, zd, ead, -, Ld0, Rd0⟩ := (HC.out.below HB.out (Nat.le_refl _)).at_ (k := k3) hlt3
              dsimp only at ead
              have Pd : Hid (Put L0 ((calls L0).getD k3 noCl)) := put_at L0 k3 (by have := hn.out; omega)
              obtain ⟨d, hd⟩ : ∃ c, Hid ((calls L0).getD k3 noCl = c) := ⟨_, rfl⟩
              rw [hd.out] at Ld0 Rd0 Pd
              have Ld := hide Ld0
              have Md := hide (made wr zero39 (cc d zd) 39)
              clear Ld0 Rd0
              simp only [Option.some.injEq, Addr.mk.injEq, and_true] at ead
              obtain ⟨x1, x2⟩ := ead
              subst x1 x2
              have BD := hide Md.out.1
              have BA1 := hide (BA.out.step Md.out.2)
              have BB1 := hide (BB.out.step Md.out.2)
              have HB1 := hide (HB.out.trans (Md.out.2.mono HB.out.size))
              go_wp2_with (first | ((with_reducible refine ld39 (.tmp 42) ba (oa + k3 * 13) ?_ ?_ d zd ?_ ?_); (exact rfl); (exact rfl); (exact Ld.out)) | ((with_reducible refine st39 (.tmp 10) (.tmp 43) wr.heap.size ?_ d zd ?_ zero39 ?_ rfl ?_); (exact rfl); (exact rfl); (exact Bx.new wr zero39 39)) | ((with_reducible refine ld39 (.tmp 6) ga (0) ?_ ?_ a za ?_ ?_); (exact rfl); (exact rfl); (exact BA1.out.lies)) | ((with_reducible refine ld39 (.tmp 8) gb (0) ?_ ?_ b zb ?_ ?_); (exact rfl); (exact rfl); (exact BB1.out.lies)))
              obtain ⟨X, hX⟩ : ∃ X, Hid ((wr.alloc (.cells zero39 39)).setRow wr.heap.size (cc d zd) = X) := ⟨_, rfl⟩
              obtain ⟨gd, hgd⟩ : ∃ g, Hid (wr.heap.size = g) := ⟨_, rfl⟩
              have hgd' := hgd.out
              have hX' := hX.out
              rw [hX', hgd']
              rw [hX'] at BA1 BB1 HB1 BD
              rw [hgd'] at BD
              clear hgd hgd' hX hX' Md HB BA BB
              by_cases hab : 0 ≤ a.e ∧ a.e < b.f
              case neg =>
                have HAB : Hid (false = true ↔ 0 ≤ a.e ∧ a.e < b.f) := ⟨(fun h => by cases h), fun h => absurd h hab⟩
                clear hab
                refine (before16 a b za zb false X HAB).mono ?_
                rintro e v4 ⟨rfl, hb4⟩
                have BA2 := hide (BA1.out.step hb4)
                have BB2 := hide (BB1.out.step hb4)
                have HB2 := hide (HB1.out.trans (hb4.mono HB1.out.size))
                clear hb4 HAB
                go_wp2
                go_roundw
                case rel => exact ⟨k3 + 1, by omega, by go_num, BA2, BB2, HB2⟩
                case measure => simp [intOf]; omega
              have HAB : Hid (true = true ↔ 0 ≤ a.e ∧ a.e < b.f) := ⟨fun _ => hab, fun _ => rfl⟩
              refine (before16 a b za zb true X HAB).mono ?_
              rintro e v4 ⟨rfl, hb4⟩
              have BA2 := hide (BA1.out.step hb4)
              have BB2 := hide (BB1.out.step hb4)
              have BD2 := hide (BD.out.step hb4)
              have HB2 := hide (HB1.out.trans (hb4.mono HB1.out.size))
              have HAB2 := hide hab
              clear hb4 HAB BA1 BB1 BD HB1 hab
              go_wp2_with (first | ((with_reducible refine ld39 (.tmp 8) gb (0) ?_ ?_ b zb ?_ ?_); (exact rfl); (exact rfl); (exact BB2.out.lies)) | ((with_reducible refine ld39 (.tmp 10) gd (0) ?_ ?_ d zd ?_ ?_); (exact rfl); (exact rfl); (exact BD2.out.lies)))
              by_cases hbd : 0 ≤ b.e ∧ b.e < d.f
              case neg =>
                have HBD : Hid (false = true ↔ 0 ≤ b.e ∧ b.e < d.f) := ⟨(fun h => by cases h), fun h => absurd h hbd⟩
                clear hbd
                refine (before16 b d zb zd false v4 HBD).mono ?_
                rintro e v5 ⟨rfl, hb4⟩
                have BA3 := hide (BA2.out.step hb4)
                have BB3 := hide (BB2.out.step hb4)
                have HB3 := hide (HB2.out.trans (hb4.mono HB2.out.size))
                clear hb4 HBD
                go_wp2
                go_roundw
                case rel => exact ⟨k3 + 1, by omega, by go_num, BA3, BB3, HB3⟩
                case measure => simp [intOf]; omega
              have HBD : Hid (true = true ↔ 0 ≤ b.e ∧ b.e < d.f) := ⟨fun _ => hbd, fun _ => rfl⟩
              have HAD : Hid (0 ≤ a.e ∧ a.e < d.f) := by have h1 := HAB2.out; have h2 := Pb.out.e; exact ⟨h1.1, by omega⟩
              clear hbd
              refine (before16 b d zb zd true v4 HBD).mono ?_
              rintro e v5 ⟨rfl, hb4⟩
              have BA3 := hide (BA2.out.step hb4)
              have BB3 := hide (BB2.out.step hb4)
              have BD3 := hide (BD2.out.step hb4)
              have HB3 := hide (HB2.out.trans (hb4.mono HB2.out.size))
              clear hb4 HBD BA2 BB2 BD2 HB2
              go_wp2_with (first | ((with_reducible refine ld39 (.tmp 6) ga (0) ?_ ?_ a za ?_ ?_); (exact rfl); (exact rfl); (exact BA3.out.lies)) | ((with_reducible refine ld39 (.tmp 10) gd (0) ?_ ?_ d zd ?_ ?_); (exact rfl); (exact rfl); (exact BD3.out.lies)))
              refine (before16 a d za zd true v5 ⟨fun _ => HAD.out, fun _ => rfl⟩).mono ?_
              rintro e v6 ⟨rfl, hb4⟩
              have BA4 := hide (BA3.out.step hb4)
              have BB4 := hide (BB3.out.step hb4)
              have HB4 := hide (HB3.out.trans (hb4.mono HB3.out.size))
              clear hb4 HAD BA3 BB3 BD3 HB3
              go_wp2
              go_roundw
              case rel => exact ⟨k3 + 1, by omega, by go_num, BA4, BB4, HB4⟩
              case measure => simp [intOf]; omega
            · obtain rfl : n = k3 := by omega
              go_wp2
              go_roundw
              case rel => exact ⟨k2 + 1, by omega, by go_num, BA, HB⟩
              case measure => simp [intOf]; omega
        · obtain rfl : n = k2 := by omega
          go_wp2
          go_roundw
          case rel => exact ⟨k + 1, by omega, by go_num, HB⟩
          case measure => simp [intOf]; omega
    · obtain rfl : n = k := by omega
      go_wp2
      go_ret
      exact ⟨rfl, BW.out.trans (HB.out.mono BW.out.size)⟩

set_option maxRecDepth 100000 in
theorem lifted (os : Os) (started : os.Started) (H : Type) (enc : TypeId × Value → H) :
    ReturnsInHanded {} Try.checked os 8 .any (Rows.histOrderSpec.pre6 enc Try.prog Try.f8 Rows.histOrderRow.domain false) (Rows.histOrderSpec.post enc Try.prog Try.f8 false true false false) := by
  refine returnsInHanded_of_change (C := Try.checked) own started (by kernel_rfl) Try.func8
    (ChangeSpec.witness6 (enc := enc) (C := Try.checked) false ⟨#[], #[.slice none 0 0], []⟩ 8 (by kernel_rfl) (by kernel_rfl) (by kernel_rfl) (by kernel_rfl)) ?_
  intro W base args ds gs before hval0 hW hcnd _
  have hval : ∀ (j : Nat) t v, Try.f8.params[j]? = some t → args[j]? = some v → Value.okWide Try.prog W .any base t v := hval0
  have hW' := hW
  obtain ⟨p, q, hA0, hV, rfl, hfz, hnd⟩ := hW
  have hA : DataW.TrodAll enc Try.prog W 0 (fun _ => true) true Try.f8.params.toList args.toList ds p := hA0
  rw [Try.params8] at hA hval
  obtain ⟨x0, vs0, d0, ds0, p0_, q0, hargs, rfl, rfl, h0, r0⟩ := trodAll_cons hA
  obtain ⟨rfl, rfl, rfl⟩ := trodAll_nil r0
  obtain rfl : args = #[x0] := by cases args; simp_all
  obtain ⟨rfl, rfl⟩ := trodVars_none hV
  have lt0 : ∀ x ∈ p0_, x.block < W.heap.size := by obtain ⟨m, hm⟩ := h0; exact DataW.trod_lt m _ _ _ hm
  obtain ⟨s0, L0, rfl, w0, m0, u0, v0⟩ := open_events (hval 0 22 x0 rfl rfl) h0
  clear hA0 hval0
  refine (walk s0 L0 W w0 m0 u0 v0).mono fun e W' ⟨he, bel⟩ => ?_
  subst he
  exact ⟨_, rfl, _, _, _, [], _, [], hW', trodAll_mk1 (shut_bool Try.underlying4 _), (trodAll_cons_mk (Below.trod laidOut (by kernel_rfl) (of_decide_eq_true (by kernel_rfl)) h0 bel lt0) trodAll_mk0), rfl, bel.frame _, fun h => by cases h⟩

theorem over : Rows.histOrderRow.holds Try.pinned (OpenSpec.ofChange Rows.histOrderSpec) :=
  OpenClaim.holds_of_wide 8 Try.f8 rfl rfl rfl rfl rfl rfl rfl ⟨rfl, rfl, rfl, rfl, rfl⟩ rfl rfl rfl rfl rfl (by kernel_rfl) Try.func8 (by kernel_rfl)
    (of_decide_eq_true (by kernel_rfl)) (by unfold Func.isWrapper; first | (rw [if_pos (by decide +kernel)]; kernel_rfl) | (rw [if_neg (by decide +kernel)]; exact ⟨rfl, rfl⟩))
    (fun os started H enc _ => lifted os started H enc)

end Go.Proofs.Ytfefkdedgceomaa.histOrder

namespace Go.Proofs.Ytfefkdedgceomaa
/-- The statement. -/
theorem histOrder_holds : Rows.HistOrderSaid := histOrder.over
#print axioms histOrder_holds
end Go.Proofs.Ytfefkdedgceomaa
