/- A history that may be, cut off anywhere, may be; its calls are as they were, but those that have no result yet. (The statement tendrillaw12.HistCuts.) -/
import Derived.Test.YtfefkdedgceomaaRows
import Derived.Test.YtfefkdedgceomaaWLive
import Derived.Test.YtfefkdedgceomaaLMath
import Derived.Test.YtfefkdedgceomaaHFrame
import Derived.WalkKit
import Derived.Below
import Derived.Deep.QuietTactic
import Derived.BigQuiet
import Derived.Deep.AppendLies
import Derived.Deep.RegionHeld3
import Derived.Deep.DeepCutAuto
import Derived.Shelf.Abstract
namespace Go.Proofs.Ytfefkdedgceomaa.histCuts
open Go.Joins Go.ChangeShapes Go.WideShapes Go.ChangeAt Go.RowKit Go.Deep
set_option linter.unusedVariables false

theorem slice_from {A : Option Addr} {c : Nat} (h : A = none → c = 0) : ∀ b : Nat, (if c = 0 then A else Option.map (fun x : Addr => x.add (0 * 12)) A) = A := fun _ => by
  split
  · rfl
  · rcases A with _ | ⟨b, o, s⟩
    · rfl
    · rcases s with _ | s <;> simp [Addr.add]
theorem evs_take {w : World} {B k N cp : Nat} {A : Option Addr} {L : List Ev} (p : Evs w B ⟨A, N, cp⟩ L) (hk : k ≤ N) : Evs w B ⟨A, k, cp⟩ (L.take k) := by
  have hl := p.1
  dsimp only at hl
  refine ⟨by simp; omega, p.2.1, fun hn => ?_⟩
  obtain ⟨b, off, e, hb, hc⟩ := p.2.2 (by show 0 < N; exact Nat.lt_of_lt_of_le hn hk)
  refine ⟨b, off, e, hb, fun i hi => ?_⟩
  dsimp only at hi
  have e1 : (L.take k).getD i noEv = L.getD i noEv := by simp [List.getD_eq_getElem?_getD, hi]
  rw [e1]
  exact hc i (by show i < N; omega)
theorem take_getD (L : List Ev) (k i : Nat) (hi : i < (L.take k).length) : (L.take k).getD i noEv = L.getD i noEv ∧ i < L.length := by
  simp only [List.length_take] at hi
  exact ⟨by simp [List.getD_eq_getElem?_getD, show i < k by omega], by omega⟩
theorem take_few {L : List Ev} (h : ∀ i, i < L.length → FewR (L.getD i noEv).r) (k : Nat) : ∀ i, i < (L.take k).length → FewR ((L.take k).getD i noEv).r := fun i hi => by
  obtain ⟨e, h1⟩ := take_getD L k i hi
  rw [e]
  exact h i h1
theorem take_wf {L : List Ev} (h : ∀ i, i < L.length → (Lit.int .i64 (L.getD i noEv).t).wf = true) (k : Nat) : ∀ i, i < (L.take k).length → (Lit.int .i64 ((L.take k).getD i noEv).t).wf = true := fun i hi => by
  obtain ⟨e, h1⟩ := take_getD L k i hi
  rw [e]
  exact h i h1

/-- A box of a call as a row of one; its end and its result struck out. -/
theorem own_box {u : World} {g : Nat} {c : Cl} {z : S3} (h : Bx u g (cc c z) 39) : u.ownsRow g 39 13 (.slice (some ⟨g, 0, none⟩) 1 1) 1 (cc c z).toList :=
  ⟨rfl, .inr ⟨g, 1, cc c z, rfl, Nat.le_refl _, h, Nat.le_refl _, by simp only [maxLen]; omega, rfl, rfl⟩⟩
theorem box_cut {u : World} {g : Nat} {c : Cl} {z : S3} (h : Bx u g (cc c z) 39) : Bx (putL (u.setCell ⟨g, 7, none⟩ (.int .i64 (-1))) g 8 (rc noR noS3).toList) g (cc { c with e := -1, r := noR } noS3) 39 := by
  have h0 := heap_setCell_same u g 7 _ 39 (.int .i64 (-1)) h
  have h1 := heap_setCell_same _ g 8 _ 39 (.int .i64 0) h0
  have h2 := heap_setCell_same _ g 9 _ 39 (.int .i64 0) h1
  have h3 := heap_setCell_same _ g 10 _ 39 (.slice none 0 0) h2
  have h4 := heap_setCell_same _ g 11 _ 39 (.slice none 0 0) h3
  have h5 := heap_setCell_same _ g 12 _ 39 (.slice none 0 0) h4
  exact h5
theorem bx_put_other {u : World} {g k : Nat} {cs : Array Value} {t : TypeId} (h : Bx u g cs t) (hk : g ≠ k) (i : Nat) (v : Value) (o : Nat) (vs : List Value) : Bx (putL (u.setCell ⟨k, i, none⟩ v) k o vs) g cs t :=
  (putL_other hk vs o _).trans (h.other hk i v)
theorem few_calls {L : List Ev} (h : ∀ i, i < L.length → FewR (L.getD i noEv).r) (k i : Nat) (hi : i < (calls (L.take k)).length) : FewR ((calls (L.take k)).getD i noCl).r := by
  have p := put_at (L.take k) i hi
  rcases p.e with ⟨_, h2⟩ | ⟨h1, h2, _, h4⟩
  · rw [h2]; exact FewR.nil
  · have := p.f0
    rw [← h4]
    exact take_few h k _ (by omega)

set_option maxRecDepth 100000 in
set_option maxHeartbeats 8000000 in
theorem walk (s0 : Sl) (L0 : List Ev) (a1 : Int) (w : World) (w0 : Evs w w.heap.size s0 L0) (m0 : s0.n ≤ maxLen) (u0 : ∀ i, i < L0.length → Most (L0.getD i noEv).r ∧ (Lit.int .i64 (L0.getD i noEv).t).wf = true) (v0 : s0.n ≤ s0.c) (w1 : (Lit.int .i64 a1).wf = true) :
    Calls Try.prog 7 #[.slice s0.A s0.n s0.c, .int .i64 a1] w (Drew (.bool true) w) := by
  obtain ⟨A0, N, cp⟩ := s0
  have HP := hide w0
  have HM := hide m0
  have HU := hide u0
  have hl : Hid (L0.length = N) := w0.1
  clear w1
  dsimp only at m0
  unfold maxLen at m0
  clear w0 u0
  go_enter Try.func7, Try.ntmps7
  go_wp2_with fail
  refine (live_any w).mono ?_
  rintro e u1 ⟨rfl, hb1⟩
  have BW := hide hb1
  clear hb1
  go_wp2_with fail
  obtain ⟨q, hq⟩ := hbool (FewL L0 100)
  refine (few_any ⟨A0, N, cp⟩ L0 100 q u1 ((HP.out.below BW.out (Nat.le_refl _)).more BW.out.size) m0 (fun i hi => (HU.out i hi).1) (by decide) hq).mono ?_
  rintro e v2 ⟨rfl, hb1⟩
  have BW := hide (BW.out.trans (hb1.mono BW.out.size))
  clear hb1
  cases q with
  | false =>
    go_wp2
    go_ret
    exact ⟨rfl, BW.out⟩
  | true =>
  have FL : Hid (FewL L0 100) := hq.out.1 rfl
  have hN : N ≤ 100 := by have h1 := FL.out.2; have h2 := hl.out; omega
  clear hq m0
  by_cases hk0 : a1 < 0
  case pos =>
    have t1 : decide (a1 < 0) = true := by simpa using hk0
    go_wp2
    go_ret
    exact ⟨rfl, BW.out⟩
  have t1 : decide (a1 < 0) = false := by simpa using hk0
  obtain ⟨k, rfl⟩ : ∃ k : Nat, a1 = k := ⟨a1.toNat, by omega⟩
  by_cases hkn : N < k
  case pos =>
    have t2 : decide ((k : Int) > (N : Int)) = true := by simp; omega
    have t2' : decide ((N : Int) < (k : Int)) = true := by simp; omega
    go_wp2
    go_ret
    exact ⟨rfl, BW.out⟩
  have t2 : decide ((k : Int) > (N : Int)) = false := by simp; omega
  have t2' : decide ((N : Int) < (k : Int)) = false := by simp; omega
  clear hk0
  have hkn2 : k ≤ N := by omega
  go_wp2_with fail
  clear t1 t2 t2' hkn
  refine (check_any ⟨A0, N, cp⟩ L0 v2 ((HP.out.below BW.out (Nat.le_refl _)).more BW.out.size) (by dsimp only; omega) FL.out.few (fun i hi => (HU.out i hi).2)).mono ?_
  rintro e v3 ⟨rfl, hb1⟩
  have BW := hide (BW.out.trans (hb1.mono BW.out.size))
  clear hb1
  by_cases hm : May L0
  case neg =>
    have E1 : Hid (resE L0 = 1) := resE_no hm
    have e1 := E1.out
    rw [e1]
    clear e1 hm
    go_wp2
    go_ret
    exact ⟨rfl, BW.out⟩
  have HMAY := hide hm
  have E1 : resE L0 = 0 := resE_yes hm
  rw [E1]
  clear hm
  go_wp2_with fail
  refine (calls_any ⟨A0, N, cp⟩ L0 v3 ((HP.out.below BW.out (Nat.le_refl _)).more BW.out.size) (by dsimp only; omega) (FL.out.few) (fun i hi => (HU.out i hi).2)).mono ?_
  rintro e u3 ⟨⟨A, n, c⟩, Z, rfl, O, E, hb1⟩
  have BW := hide (BW.out.trans (hb1.out.mono BW.out.size))
  rw [E1]
  have HC0 : Hid (Cls u3 u3.heap.size ⟨A, n, c⟩ (calls L0)) := by
    have h := O.out.cls
    rw [E.out, resC_yes HMAY.out] at h
    exact h
  have hn : Hid (n = (calls L0).length) := HC0.out.1.symm
  have HPT : Hid (Evs w w.heap.size ⟨A0, k, cp⟩ (L0.take k)) := evs_take HP.out hkn2
  have HMK : Hid (May (L0.take k)) := HMAY.out.take k
  have E2 : resE (L0.take k) = 0 := resE_yes HMK.out
  clear O E hb1
  have ik1 : (0 : Int) ≤ (k : Int) := by omega
  have ik2 : (k : Int) ≤ (cp : Int) := by omega
  have hA0 : Hid (∀ b : Nat, (if cp = 0 then A0 else Option.map (fun x => x.add (0 * 12)) A0) = A0) := slice_from (HP.out.2.1)
  go_wp2_with fail
  refine (calls_any ⟨A0, k, cp⟩ (L0.take k) u3 ((HPT.out.below BW.out (Nat.le_refl _)).more BW.out.size) (by dsimp only; omega) (take_few FL.out.few k) (take_wf (fun i hi => (HU.out i hi).2) k)).mono ?_
  rintro e X4 ⟨⟨A2, n2, c2⟩, Z2, rfl, O2, E2', hb1⟩
  have BW := hide (BW.out.trans (hb1.out.mono BW.out.size))
  rw [E2]
  have HC : Hid (Cls X4 X4.heap.size ⟨A, n, c⟩ (calls L0)) := HC0.out.step hb1.out
  have HD : Hid (Cls X4 X4.heap.size ⟨A2, n2, c2⟩ (calls (L0.take k))) := by
    have h := O2.out.cls
    rw [E2'.out, resC_yes HMK.out] at h
    exact h
  have hn2 : Hid (n2 = (calls (L0.take k)).length) := HD.out.1.symm
  obtain ⟨cu1, cu2, cu3⟩ := cut_at L0 k (by have := hl.out; omega)
  have CU2 := hide cu2
  have CU3 := hide cu3
  have hnn : n2 ≤ n := by have h1 := hn.out; have h2 := hn2.out; omega
  have hnN : n ≤ N := by have h1 := calls_le L0 L0.length; have h2 := hn.out; rw [List.take_length] at h1; have := hl.out; omega
  have t3 : decide ((n2 : Int) > (n : Int)) = false := by simp; omega
  have t3' : decide ((n : Int) < (n2 : Int)) = false := by simp; omega
  have t5 : decide (n < n2) = false := by simp; omega
  clear O2 E2' hb1 cu1 cu2 cu3 E1 E2 HC0 HPT
  go_wp2
  clear t3 t3' t5
  go_loopw [59] (fun j wr => ∃ i : Nat, i ≤ n2 ∧ j = .int .i64 i ∧ Hid (Below X4.heap.size X4 wr)) (fun j _ => n2 - (intOf j).toNat)
  case atStart => exact ⟨0, by omega, rfl, Below.refl _ _⟩
  case round =>
    obtain ⟨i, hi, rfl, HB⟩ := hrel
    by_cases hlt : i < n2
    · obtain ⟨bb, ob, zb, eab, -, Lb0, Rb0⟩ := (HD.out.below HB.out (Nat.le_refl _)).at_ (k := i) hlt
      dsimp only at eab
      obtain ⟨b, hb⟩ : ∃ c, Hid ((calls (L0.take k)).getD i noCl = c) := ⟨_, rfl⟩
      rw [hb.out] at Lb0 Rb0
      have Lb := hide Lb0
      have Mb := hide (made wr zero39 (cc b zb) 39)
      have Rb := hide Rb0
      clear Lb0 Rb0
      subst eab
      go_upto_region 12 with (first | ((with_reducible refine ld39 (.tmp 62) bb (ob + i * 13) ?_ ?_ b zb ?_ ?_); (exact rfl); (exact rfl); (exact Lb.out)) | ((with_reducible refine st39 (.tmp 10) (.tmp 63) wr.heap.size ?_ b zb ?_ zero39 ?_ rfl ?_); (exact rfl); (exact rfl); (exact Bx.new wr zero39 39)))
      obtain ⟨U, hU⟩ : ∃ U, Hid ((wr.alloc (.cells zero39 39)).setRow wr.heap.size (cc b zb) = U) := ⟨_, rfl⟩
      obtain ⟨gb, hgb⟩ : ∃ g, Hid (wr.heap.size = g) := ⟨_, rfl⟩
      have BB := hide Mb.out.1
      have HB1 := hide (HB.out.trans (Mb.out.2.mono HB.out.size))
      have HW1 := hide (Mb.out.2.mono HB.out.size)
      have hU' := hU.out
      have hg' := hgb.out
      rw [hU', hg']
      rw [hU'] at BB HB1 HW1
      rw [hg'] at BB
      clear hU hU' hgb hg' Mb
      obtain ⟨bd, od, zd, ead, -, Ld0, Rd0⟩ := (HC.out.below HB1.out (Nat.le_refl _)).at_ (k := i) (by dsimp only; omega)
      dsimp only at ead
      have Pd : Hid (Put L0 ((calls L0).getD i noCl)) := put_at L0 i (by have := hn.out; omega)
      obtain ⟨d, hd⟩ : ∃ c, Hid ((calls L0).getD i noCl = c) := ⟨_, rfl⟩
      rw [hd.out] at Ld0 Rd0 Pd
      have Ld := hide Ld0
      have Md := hide (made U zero39 (cc d zd) 39)
      have Rd := hide Rd0
      clear Ld0 Rd0
      subst ead
      have j1 : (0 : Int) ≤ (i : Int) := by omega
      have j2 : (i : Int) < (n : Int) := by omega
      have HCD : Hid (b = cutc k d) := by
        have h := CU2.out i (by have := hn2.out; omega)
        rw [hb.out, hd.out] at h
        exact h
      have FB : Hid (FewR b.r) := by
        have h := few_calls (fun i hi => FL.out.few i hi) k i (by have := hn2.out; omega)
        rw [hb.out] at h
        exact h
      have BD := hide Md.out.1
      have BB2 := hide (BB.out.step Md.out.2)
      have HB2 := hide (HB1.out.trans (Md.out.2.mono HB1.out.size))
      have HW2 := hide (HW1.out.trans (Md.out.2.mono HB1.out.size))
      have NE : Hid (gb ≠ U.heap.size) := by have := BB.out.lt; show gb ≠ _; omega
      have c7 : ((U.alloc (.cells zero39 39)).setRow U.heap.size (cc d zd)).cell? ⟨U.heap.size, 7, none⟩ = some (.int .i64 d.e) := BD.out.c7
      have f7 : ((U.alloc (.cells zero39 39)).setRow U.heap.size (cc d zd)).frozen? ⟨U.heap.size, 7, none⟩ = false := BD.out.frozen 7
      by_cases hkd : (k : Int) ≤ d.e
      case pos =>
        have t4 : decide (d.e ≥ (k : Int)) = true := by simpa using hkd
        have t4' : decide ((k : Int) ≤ d.e) = true := by simpa using hkd
        have HCE : Hid (b = { d with e := -1, r := noR }) := by show _ = _; rw [HCD.out]; unfold cutc; rw [if_pos hkd]
        clear hkd HCD
        have OSB := hide ((own_box BD.out).stored 7 (.int .i64 (-1))).1
        have PB := hide (box_cut BD.out)
        have BBY := hide (bx_put_other BB2.out NE.out 7 (.int .i64 (-1)) 8 (rc noR noS3).toList)
        have HBY := hide (putL_below (rc noR noS3).toList 8 _ (HB2.out.setCell (p := ⟨U.heap.size, 7, none⟩) (show X4.heap.size ≤ U.heap.size from HB1.out.size) (.int .i64 (-1))) HB1.out.size)
        have HWY := hide (putL_below (rc noR noS3).toList 8 _ (HW2.out.setCell (p := ⟨U.heap.size, 7, none⟩) (show X4.heap.size ≤ U.heap.size from HB1.out.size) (.int .i64 (-1))) HB1.out.size)
        go_wp2_with (first | ((with_reducible refine ld39 (.tmp 66) bd (od + i * 13) ?_ ?_ d zd ?_ ?_); (exact rfl); (exact rfl); (exact Ld.out)) | ((with_reducible refine st39 (.tmp 11) (.tmp 67) U.heap.size ?_ d zd ?_ zero39 ?_ rfl ?_); (exact rfl); (exact rfl); (exact Bx.new U zero39 39)) | ((with_reducible refine st37r (.tmp 74) (.tmp 73) U.heap.size U.heap.size 8 1 1 _ ?_ noR noS3 ?_ OSB.out ?_ ?_); (exact rfl); (exact rfl); (omega)) | ((with_reducible refine ld39 (.tmp 10) gb (0) ?_ ?_ b zb ?_ ?_); (exact rfl); (exact rfl); (exact BBY.out.lies)) | ((with_reducible refine ld39 (.tmp 11) U.heap.size (0) ?_ ?_ { d with e := -1, r := noR } noS3 ?_ ?_); (exact rfl); (exact rfl); (exact PB.out.lies)))
        refine (csame18 b { d with e := -1, r := noR } zb noS3 true _ ((Rb.out.below HWY.out (Nat.le_refl _)).more HBY.out.size) (RSee.nil _ _) FB.out.most FewR.nil.most ⟨fun _ => HCE.out, fun _ => rfl⟩).mono ?_
        rintro e v6 ⟨rfl, hb6⟩
        have HB6 := hide (HBY.out.trans (hb6.mono HBY.out.size))
        clear hb6
        go_wp2
        go_roundw
        case rel => exact ⟨i + 1, by omega, by go_num, HB6⟩
        case measure => simp [intOf]; omega
      case neg =>
        have t4 : decide (d.e ≥ (k : Int)) = false := by simpa using hkd
        have t4' : decide ((k : Int) ≤ d.e) = false := by simpa using hkd
        have HCE : Hid (b = d) := by show _ = _; rw [HCD.out]; unfold cutc; rw [if_neg hkd]
        clear hkd HCD
        go_wp2_with (first | ((with_reducible refine ld39 (.tmp 66) bd (od + i * 13) ?_ ?_ d zd ?_ ?_); (exact rfl); (exact rfl); (exact Ld.out)) | ((with_reducible refine st39 (.tmp 11) (.tmp 67) U.heap.size ?_ d zd ?_ zero39 ?_ rfl ?_); (exact rfl); (exact rfl); (exact Bx.new U zero39 39)) | ((with_reducible refine ld39 (.tmp 10) gb (0) ?_ ?_ b zb ?_ ?_); (exact rfl); (exact rfl); (exact BB2.out.lies)) | ((with_reducible refine ld39 (.tmp 11) U.heap.size (0) ?_ ?_ d zd ?_ ?_); (exact rfl); (exact rfl); (exact BD.out.lies)))
        refine (csame18 b d zb zd true _ ((Rb.out.below HW2.out (Nat.le_refl _)).more HB2.out.size) ((Rd.out.below Md.out.2 (Nat.le_trans HB1.out.size (Nat.le_refl _))).more HB2.out.size) FB.out.most (by rw [← HCE.out]; exact FB.out.most) ⟨fun _ => HCE.out, fun _ => rfl⟩).mono ?_
        rintro e v6 ⟨rfl, hb6⟩
        have HB6 := hide (HB2.out.trans (hb6.mono HB2.out.size))
        clear hb6
        go_wp2
        go_roundw
        case rel => exact ⟨i + 1, by omega, by go_num, HB6⟩
        case measure => simp [intOf]; omega
    · obtain rfl : i = n2 := by omega
      by_cases hnl : i = n
      · have t6 : ((i : Int) == (n : Int)) = true := by rw [beq_iff_eq]; omega
        clear hnl
        go_wp2
        go_ret
        exact ⟨rfl, BW.out.trans (HB.out.mono BW.out.size)⟩
      · have t6 : ((i : Int) == (n : Int)) = false := by rw [beq_eq_false_iff_ne]; omega
        have hin : i < n := by omega
        clear hnl
        obtain ⟨bd, od, zd, ead, -, Ld0, Rd0⟩ := (HC.out.below HB.out (Nat.le_refl _)).at_ (k := i) (by dsimp only; omega)
        dsimp only at ead
        have Pd : Hid (Put L0 ((calls L0).getD i noCl)) := put_at L0 i (by have := hn.out; omega)
        obtain ⟨d, hd⟩ : ∃ c, Hid ((calls L0).getD i noCl = c) := ⟨_, rfl⟩
        rw [hd.out] at Ld0 Rd0 Pd
        have Ld := hide Ld0
        have Md := hide (made wr zero39 (cc d zd) 39)
        clear Ld0 Rd0
        subst ead
        have HF := hide (CU3.out i (by have := hn2.out; omega) (by have := hn.out; omega))
        rw [hd.out] at HF
        have j1 : (0 : Int) ≤ (i : Int) := by omega
        have j2 : (i : Int) < (n : Int) := by omega
        have c6 : wr.cell? ⟨bd, od + i * 13 + 6, none⟩ = some (.int .i64 d.f) := Ld.out.c6
        have t7 : decide (d.f ≥ (k : Int)) = true := by have := HF.out; simpa using this
        have t7' : decide ((k : Int) ≤ d.f) = true := by have := HF.out; simpa using this
        go_wp2
        go_ret
        exact ⟨rfl, BW.out.trans (HB.out.mono BW.out.size)⟩

set_option maxRecDepth 100000 in
theorem lifted (os : Os) (started : os.Started) (H : Type) (enc : TypeId × Value → H) :
    ReturnsInHanded {} Try.checked os 7 .any (Rows.histCutsSpec.pre6 enc Try.prog Try.f7 Rows.histCutsRow.domain false) (Rows.histCutsSpec.post enc Try.prog Try.f7 false true false false) := by
  refine returnsInHanded_of_change (C := Try.checked) own started (by kernel_rfl) Try.func7
    (ChangeSpec.witness6 (enc := enc) (C := Try.checked) false ⟨#[], #[.slice none 0 0, .int .i64 0], []⟩ 8 (by kernel_rfl) (by kernel_rfl) (by kernel_rfl) (by kernel_rfl)) ?_
  intro W base args ds gs before hval0 hW hcnd _
  have hval : ∀ (j : Nat) t v, Try.f7.params[j]? = some t → args[j]? = some v → Value.okWide Try.prog W .any base t v := hval0
  have hW' := hW
  obtain ⟨p, q, hA0, hV, rfl, hfz, hnd⟩ := hW
  have hA : DataW.TrodAll enc Try.prog W 0 (fun _ => true) true Try.f7.params.toList args.toList ds p := hA0
  rw [Try.params7] at hA hval
  obtain ⟨x0, vs0, d0, ds0, p0_, q0, hargs, rfl, rfl, h0, r0⟩ := trodAll_cons hA
  obtain ⟨x1, vs1, d1, ds1, p1_, q1, rfl, rfl, rfl, h1, r1⟩ := trodAll_cons r0
  obtain ⟨rfl, rfl, rfl⟩ := trodAll_nil r1
  obtain rfl : args = #[x0, x1] := by cases args; simp_all
  obtain ⟨rfl, rfl⟩ := trodVars_none hV
  have lt0 : ∀ x ∈ p0_, x.block < W.heap.size := by obtain ⟨m, hm⟩ := h0; exact DataW.trod_lt m _ _ _ hm
  obtain ⟨s0, L0, rfl, w0, m0, u0, v0⟩ := open_events (hval 0 22 x0 rfl rfl) h0
  obtain ⟨a1, rfl, rfl, rfl, w1⟩ := open_int Try.underlying3 (hval 1 3 x1 rfl rfl) h1
  clear hA0 hval0
  refine (walk s0 L0 a1 W w0 m0 u0 v0 w1).mono fun e W' ⟨he, bel⟩ => ?_
  subst he
  exact ⟨_, rfl, _, _, _, [], _, [], hW', trodAll_mk1 (shut_bool Try.underlying4 _), (trodAll_cons_mk (Below.trod laidOut (by kernel_rfl) (of_decide_eq_true (by kernel_rfl)) h0 bel lt0) (trodAll_cons_mk (shut_int Try.underlying3 w1) trodAll_mk0)), rfl, bel.frame _, fun h => by cases h⟩

theorem over : Rows.histCutsRow.holds Try.pinned (OpenSpec.ofChange Rows.histCutsSpec) :=
  OpenClaim.holds_of_wide 7 Try.f7 rfl rfl rfl rfl rfl rfl rfl ⟨rfl, rfl, rfl, rfl, rfl⟩ rfl rfl rfl rfl rfl (by kernel_rfl) Try.func7 (by kernel_rfl)
    (of_decide_eq_true (by kernel_rfl)) (by unfold Func.isWrapper; first | (rw [if_pos (by decide +kernel)]; kernel_rfl) | (rw [if_neg (by decide +kernel)]; exact ⟨rfl, rfl⟩))
    (fun os started H enc _ => lifted os started H enc)

end Go.Proofs.Ytfefkdedgceomaa.histCuts

namespace Go.Proofs.Ytfefkdedgceomaa
/-- The statement. -/
theorem histCuts_holds : Rows.HistCutsSaid := histCuts.over
#print axioms histCuts_holds
end Go.Proofs.Ytfefkdedgceomaa
