/- Each event of a history that may be is one call's; what the call says is what the event says. (The statement tendrillaw12.HistEvents.) -/
import Derived.Test.YtfefkdedgceomaaRows
import Derived.Test.YtfefkdedgceomaaWLive
import Derived.Test.YtfefkdedgceomaaLMath
import Derived.Test.YtfefkdedgceomaaEvL
import Derived.Test.YtfefkdedgceomaaHFrame
import Derived.WalkKit
import Derived.Below
import Derived.Deep.QuietTactic
import Derived.BigQuiet
import Derived.Deep.AppendLies
import Derived.Deep.RegionHeld3
import Derived.Deep.DeepCutAuto
import Derived.Shelf.Abstract
namespace Go.Proofs.Ytfefkdedgceomaa.histEvents
open Go.Joins Go.ChangeShapes Go.WideShapes Go.ChangeAt Go.RowKit Go.Deep
set_option linter.unusedVariables false

set_option maxRecDepth 100000 in
set_option maxHeartbeats 8000000 in
theorem walk (s0 : Sl) (L0 : List Ev) (w : World) (w0 : Evs w w.heap.size s0 L0) (m0 : s0.n ≤ maxLen) (u0 : ∀ i, i < L0.length → Most (L0.getD i noEv).r ∧ (Lit.int .i64 (L0.getD i noEv).t).wf = true) (v0 : s0.n ≤ s0.c) :
    Calls Try.prog 6 #[.slice s0.A s0.n s0.c] w (Drew (.bool true) w) := by
  obtain ⟨A0, N, cp⟩ := s0
  have HP := hide w0
  have HM := hide m0
  have HU := hide u0
  have hl : Hid (L0.length = N) := w0.1
  dsimp only at m0
  unfold maxLen at m0
  clear w0 u0
  go_enter Try.func6, Try.ntmps6
  go_wp2_with fail
  refine (live_any w).mono ?_
  rintro e u1 ⟨rfl, hb1⟩
  have BW := hide hb1
  clear hb1
  go_wp2_with fail
  obtain ⟨q, hq⟩ := hbool (FewL L0 100)
  refine (few_any ⟨A0, N, cp⟩ L0 100 q u1 ((HP.out.below BW.out (Nat.le_refl _)).more BW.out.size) m0 (fun i hi => (HU.out i hi).1) (by decide) hq).mono ?_
  rintro e v2 ⟨rfl, hb1⟩
  have BW := hide (BW.out.trans (hb1.mono BW.out.size))
  clear hb1
  cases q with
  | false =>
    go_wp2
    go_ret
    exact ⟨rfl, BW.out⟩
  | true =>
  have FL : Hid (FewL L0 100) := hq.out.1 rfl
  have hN : N ≤ 100 := by have h1 := FL.out.2; have h2 := hl.out; omega
  clear hq m0
  go_wp2_with fail
  refine (calls_any ⟨A0, N, cp⟩ L0 v2 ((HP.out.below BW.out (Nat.le_refl _)).more BW.out.size) (by dsimp only; omega) (FL.out.few) (fun i hi => (HU.out i hi).2)).mono ?_
  rintro e X3 ⟨⟨A, n, c⟩, Z, rfl, O, E, hb1⟩
  have BW := hide (BW.out.trans (hb1.out.mono BW.out.size))
  by_cases hm : May L0
  case neg =>
    have E1 : Hid (resE L0 = 1) := resE_no hm
    have e1 := E1.out
    rw [e1]
    clear e1 hm
    go_wp2
    go_ret
    exact ⟨rfl, BW.out⟩
  have HMAY := hide hm
  have E1 : resE L0 = 0 := resE_yes hm
  rw [E1]
  clear E1 hm
  have HC : Hid (Cls X3 X3.heap.size ⟨A, n, c⟩ (calls L0)) := by
    have h := O.out.cls
    rw [E.out, resC_yes HMAY.out] at h
    exact h
  have hn : Hid (n = (calls L0).length) := HC.out.1.symm
  have hnN : n ≤ N := by have h1 := calls_le L0 L0.length; have h2 := hn.out; rw [List.take_length] at h1; have := hl.out; omega
  clear O E hb1
  obtain ⟨Zm, HZ, hmk⟩ := make_ints N (by omega)
  go_wp2
  clear hmk
  have OM0 : Hid ((X3.alloc (.cells Zm 3)).ownsRow X3.heap.size 3 1 (.slice (some ⟨X3.heap.size, 0, none⟩) N N) N (ints (rowF N (fun _ => 0)))) := met_start X3 N Zm HZ.out (by omega)
  have HBZ : Hid (Below X3.heap.size X3 (X3.alloc (.cells Zm 3))) := (Below.refl _ _).alloc (Nat.le_refl _) _
  go_loopw [27] (fun j wr => ∃ (k : Nat) (F : Nat → Int), k ≤ n ∧ j = .int .i64 k ∧ Hid (CntIs F (calls L0) N k) ∧ Hid (wr.ownsRow X3.heap.size 3 1 (.slice (some ⟨X3.heap.size, 0, none⟩) N N) N (ints (rowF N F))) ∧ Hid (Below X3.heap.size X3 wr)) (fun j _ => n - (intOf j).toNat)
  case atStart => exact ⟨0, fun _ => 0, by omega, rfl, cnt_start _ _, OM0, HBZ⟩
  case round =>
    clear OM0 HBZ
    obtain ⟨k, F, hk, rfl, HF, OM, HB⟩ := hrel
    have hnl : n ≤ 100 := by omega
    by_cases hlt : k < n
    · obtain ⟨bd, od, zd, ead, -, Ld0, Rd0⟩ := (HC.out.below HB.out (Nat.le_refl _)).at_ (k := k) hlt
      dsimp only at ead
      have Pd : Hid (Put L0 ((calls L0).getD k noCl)) := put_at L0 k (by have := hn.out; omega)
      obtain ⟨d, hd⟩ : ∃ c, Hid ((calls L0).getD k noCl = c) := ⟨_, rfl⟩
      rw [hd.out] at Ld0 Rd0 Pd
      have Ld := hide Ld0
      have Md := hide (made wr zero39 (cc d zd) 39)
      have Rd := hide Rd0
      clear Ld0 Rd0
      subst ead
      have HKC : Hid (k < (calls L0).length) := by have := hn.out; show _ < _; omega
      have HTH := hide ((threads L0 HMAY.out k HKC.out).2)
      rw [hd.out] at HTH
      obtain ⟨f, hf⟩ : ∃ f : Nat, Hid (d.f = f) := ⟨d.f.toNat, by have := Pd.out.f0; show _ = _; omega⟩
      have hfN : f < N := by have h1 := Pd.out.f1; have h2 := hl.out; rw [hf.out] at h1; omega
      have BWR := hide (BW.out.trans (HB.out.mono BW.out.size))
      obtain ⟨bx, ox, zx, eax, hbx, Lx0, _⟩ := (HP.out.below BWR.out (Nat.le_refl _)).at_ hfN
      dsimp only at eax
      subst eax
      obtain ⟨x, hx⟩ : ∃ x, Hid (L0.getD f noEv = x) := ⟨_, rfl⟩
      have hft : d.f.toNat = f := by rw [hf.out]; exact Int.toNat_natCast f
      have HXD : Hid (x.d = false) := by have h := Pd.out.fd; rw [hft, hx.out] at h; exact h
      have HXT : Hid (x.t = d.t) := by have h := Pd.out.ft; rw [hft, hx.out] at h; exact h
      have HXO : Hid (x.o = d.o) := by have h := Pd.out.fo; rw [hft, hx.out] at h; exact h
      clear hft
      rw [hx.out] at Lx0
      have Lx := hide Lx0
      clear Lx0
      go_upto_region 12 with (first | ((with_reducible refine ld39 (.tmp 29) bd (od + k * 13) ?_ ?_ d zd ?_ ?_); (exact rfl); (exact rfl); (exact Ld.out)) | ((with_reducible refine st39 (.tmp 7) (.tmp 30) wr.heap.size ?_ d zd ?_ zero39 ?_ rfl ?_); (exact rfl); (exact rfl); (exact Bx.new wr zero39 39)))
      obtain ⟨U, hU⟩ : ∃ U, Hid ((wr.alloc (.cells zero39 39)).setRow wr.heap.size (cc d zd) = U) := ⟨_, rfl⟩
      obtain ⟨g, hg⟩ : ∃ g, Hid (wr.heap.size = g) := ⟨_, rfl⟩
      have BX := hide Md.out.1
      have HB1 := hide (HB.out.trans (Md.out.2.mono HB.out.size))
      have HW1 := hide (Md.out.2.mono HB.out.size)
      have OM1 := hide (own_below OM.out Md.out.2)
      have LU := hide (Lx.out.below Md.out.2 (Nat.lt_of_lt_of_le hbx BWR.out.size))
      have HGX : Hid (X3.heap.size < g) := by show _ < _; rw [← hg.out]; exact (OM.out.lt X3.heap.size rfl).2
      have hU' := hU.out
      have hg' := hg.out
      rw [hU', hg']
      rw [hU'] at BX HB1 OM1 LU HW1
      rw [hg'] at BX
      clear hU hU' hg hg' Md HB OM Lx
      have c6 : U.drew.cell? ⟨g, 6, none⟩ = some (.int .i64 f) := BX.out.c6.trans (by rw [hf.out])
      have c7 : U.drew.cell? ⟨g, 7, none⟩ = some (.int .i64 d.e) := BX.out.c7
      have c0 : U.drew.cell? ⟨g, 0, none⟩ = some (.int .i64 d.t) := BX.out.c0
      have e0 : U.drew.cell? ⟨bx, ox + f * 12, none⟩ = some (.int .i64 x.t) := LU.out.e0
      have e1 : U.drew.cell? ⟨bx, ox + f * 12 + 1, none⟩ = some (.bool false) := LU.out.e1.trans (by rw [HXD.out])
      have LUo : Hid (Lies U.drew bx (ox + f * 12 + 2) (oc x.o)) := LU.out.eo
      have LGo : Hid (Lies U.drew g 1 (oc d.o)) := BX.out.co
      have hde : Hid (d.e < (N : Int)) := by have h := Pd.out.e; have h1 := Pd.out.f1; have h2 := hl.out; show d.e < _; omega
      have t1 : decide ((f : Int) < 0) = false := decide_eq_false (by omega)
      have t2 : decide ((f : Int) ≥ (N : Int)) = false := decide_eq_false (by omega)
      have t2' : decide ((N : Int) ≤ (f : Int)) = false := decide_eq_false (by omega)
      have t3 : decide (d.e ≥ (N : Int)) = false := decide_eq_false (by have := hde.out; omega)
      have t3' : decide ((N : Int) ≤ d.e) = false := decide_eq_false (by have := hde.out; omega)
      have t4 : (x.t != d.t) = false := by rw [HXT.out]; simp
      have i1 : (0 : Int) ≤ (f : Int) := by omega
      have i2 : (f : Int) < (N : Int) := by omega
      refine wp_region_held_drew (S := fun u => u = U.drew) (by kernel_rfl) rfl (fun hS => ?_)
      refine wpAnyH_ready (rs := [0]) (by kernel_rfl) (by simp) ?_
      refine AllReadyH.cons rfl (fun K hK => ?_) AllReadyH.nil
      go_simp
      refine hK.out _ _ hS (fun _ => ?_)
      clear hK K
      refine wpAnyH_ready (rs := [1]) (by kernel_rfl) (by simp) ?_
      refine AllReadyH.cons rfl (fun K hK => ?_) AllReadyH.nil
      go_simp
      refine hK.out _ _ hS (fun _ => ?_)
      clear hK K
      refine wpAnyH_ready (rs := [2]) (by kernel_rfl) (by simp) ?_
      refine AllReadyH.cons rfl (fun K hK => ?_) AllReadyH.nil
      go_simp
      refine hK.out _ _ hS (fun _ => ?_)
      clear hK K
      refine wpAnyH_ready (rs := [3]) (by kernel_rfl) (by simp) ?_
      refine AllReadyH.cons rfl (fun K hK => ?_) AllReadyH.nil
      go_simp
      refine hK.out _ _ hS (fun _ => ?_)
      clear hK K
      refine wpAnyH_take (i := 4) (v := .pointer (some ⟨g, 6, none⟩)) rfl (by kernel_rfl) (by kernel_rfl) (by kernel_rfl) (fun _ _ _ h => h) (Or.inl ⟨by kernel_rfl, by intro u hu; subst hu; go_simp⟩) hS ?_
      refine wpAnyH_take (i := 5) (v := .int .i64 f) rfl (by kernel_rfl) (by kernel_rfl) (by kernel_rfl) (fun _ _ _ h => h) (Or.inl ⟨by kernel_rfl, by intro u hu; subst hu; go_simp⟩) hS ?_
      refine wpAnyH_take (i := 6) (v := .slice (some ⟨bx, ox, none⟩) N cp) rfl (by kernel_rfl) (by kernel_rfl) (by kernel_rfl) (fun _ _ _ h => h) (Or.inl ⟨by kernel_rfl, by intro u hu; subst hu; go_simp⟩) hS ?_
      refine wpAnyH_take (i := 7) (v := .int .i64 N) rfl (by kernel_rfl) (by kernel_rfl) (by kernel_rfl) (fun _ _ _ h => h) (Or.inl ⟨by kernel_rfl, by intro u hu; subst hu; go_simp⟩) hS ?_
      refine wpAnyH_take (i := 8) (v := .bool false) rfl (by kernel_rfl) (by kernel_rfl) (by kernel_rfl) (fun _ _ _ h => h) (Or.inl ⟨by kernel_rfl, by intro u hu; subst hu; go_simp⟩) hS ?_
      refine wpAnyH_ready (rs := [9]) (by kernel_rfl) (by simp) ?_
      refine AllReadyH.cons rfl (fun K hK => ?_) AllReadyH.nil
      go_simp
      refine hK.out _ _ hS (fun _ => ?_)
      clear hK K
      refine wpAnyH_ready (rs := [10]) (by kernel_rfl) (by simp) ?_
      refine AllReadyH.cons rfl (fun K hK => ?_) AllReadyH.nil
      go_simp
      refine hK.out _ _ hS (fun _ => ?_)
      clear hK K
      refine wpAnyH_take (i := 11) (v := .pointer (some ⟨g, 7, none⟩)) rfl (by kernel_rfl) (by kernel_rfl) (by kernel_rfl) (fun _ _ _ h => h) (Or.inl ⟨by kernel_rfl, by intro u hu; subst hu; go_simp⟩) hS ?_
      refine wpAnyH_take (i := 12) (v := .int .i64 d.e) rfl (by kernel_rfl) (by kernel_rfl) (by kernel_rfl) (fun _ _ _ h => h) (Or.inl ⟨by kernel_rfl, by intro u hu; subst hu; go_simp⟩) hS ?_
      refine wpAnyH_take (i := 13) (v := .slice (some ⟨bx, ox, none⟩) N cp) rfl (by kernel_rfl) (by kernel_rfl) (by kernel_rfl) (fun _ _ _ h => h) (Or.inl ⟨by kernel_rfl, by intro u hu; subst hu; go_simp⟩) hS ?_
      refine wpAnyH_take (i := 14) (v := .int .i64 N) rfl (by kernel_rfl) (by kernel_rfl) (by kernel_rfl) (fun _ _ _ h => h) (Or.inl ⟨by kernel_rfl, by intro u hu; subst hu; go_simp⟩) hS ?_
      refine wpAnyH_take (i := 15) (v := .bool false) rfl (by kernel_rfl) (by kernel_rfl) (by kernel_rfl) (fun _ _ _ h => h) (Or.inl ⟨by kernel_rfl, by intro u hu; subst hu; go_simp⟩) hS ?_
      refine wpAnyH_ready (rs := [16]) (by kernel_rfl) (by simp) ?_
      refine AllReadyH.cons rfl (fun K hK => ?_) AllReadyH.nil
      go_simp
      refine hK.out _ _ hS (fun _ => ?_)
      clear hK K
      refine wpAnyH_ready (rs := [17]) (by kernel_rfl) (by simp) ?_
      refine AllReadyH.cons rfl (fun K hK => ?_) AllReadyH.nil
      go_simp
      refine hK.out _ _ hS (fun _ => ?_)
      clear hK K
      refine wpAnyH_take (i := 18) (v := .slice (some ⟨bx, ox, none⟩) N cp) rfl (by kernel_rfl) (by kernel_rfl) (by kernel_rfl) (fun _ _ _ h => h) (Or.inl ⟨by kernel_rfl, by intro u hu; subst hu; go_simp⟩) hS ?_
      refine wpAnyH_take (i := 19) (v := .pointer (some ⟨g, 6, none⟩)) rfl (by kernel_rfl) (by kernel_rfl) (by kernel_rfl) (fun _ _ _ h => h) (Or.inl ⟨by kernel_rfl, by intro u hu; subst hu; go_simp⟩) hS ?_
      refine wpAnyH_take (i := 20) (v := .int .i64 f) rfl (by kernel_rfl) (by kernel_rfl) (by kernel_rfl) (fun _ _ _ h => h) (Or.inl ⟨by kernel_rfl, by intro u hu; subst hu; go_simp⟩) hS ?_
      refine wpAnyH_take (i := 21) (v := .pointer (some ⟨bx, ox + f * 12, none⟩)) rfl (by kernel_rfl) (by kernel_rfl) (by kernel_rfl) (fun _ _ _ h => h) (Or.inl ⟨by kernel_rfl, by intro u hu; subst hu; go_simp⟩) hS ?_
      refine wpAnyH_take (i := 22) (v := .pointer (some ⟨bx, ox + f * 12 + 1, none⟩)) rfl (by kernel_rfl) (by kernel_rfl) (by kernel_rfl) (fun _ _ _ h => h) (Or.inl ⟨by kernel_rfl, by intro u hu; subst hu; go_simp⟩) hS ?_
      refine wpAnyH_take (i := 23) (v := .bool false) rfl (by kernel_rfl) (by kernel_rfl) (by kernel_rfl) (fun _ _ _ h => h) (Or.inl ⟨by kernel_rfl, by intro u hu; subst hu; go_simp⟩) hS ?_
      refine wpAnyH_ready (rs := [24]) (by kernel_rfl) (by simp) ?_
      refine AllReadyH.cons rfl (fun K hK => ?_) AllReadyH.nil
      go_simp
      refine hK.out _ _ hS (fun _ => ?_)
      clear hK K
      refine wpAnyH_ready (rs := [25]) (by kernel_rfl) (by simp) ?_
      refine AllReadyH.cons rfl (fun K hK => ?_) AllReadyH.nil
      go_simp
      refine hK.out _ _ hS (fun _ => ?_)
      clear hK K
      refine wpAnyH_take (i := 26) (v := .slice (some ⟨bx, ox, none⟩) N cp) rfl (by kernel_rfl) (by kernel_rfl) (by kernel_rfl) (fun _ _ _ h => h) (Or.inl ⟨by kernel_rfl, by intro u hu; subst hu; go_simp⟩) hS ?_
      refine wpAnyH_take (i := 27) (v := .pointer (some ⟨g, 6, none⟩)) rfl (by kernel_rfl) (by kernel_rfl) (by kernel_rfl) (fun _ _ _ h => h) (Or.inl ⟨by kernel_rfl, by intro u hu; subst hu; go_simp⟩) hS ?_
      refine wpAnyH_take (i := 28) (v := .int .i64 f) rfl (by kernel_rfl) (by kernel_rfl) (by kernel_rfl) (fun _ _ _ h => h) (Or.inl ⟨by kernel_rfl, by intro u hu; subst hu; go_simp⟩) hS ?_
      refine wpAnyH_take (i := 29) (v := .pointer (some ⟨bx, ox + f * 12, none⟩)) rfl (by kernel_rfl) (by kernel_rfl) (by kernel_rfl) (fun _ _ _ h => h) (Or.inl ⟨by kernel_rfl, by intro u hu; subst hu; go_simp⟩) hS ?_
      refine wpAnyH_take (i := 30) (v := .pointer (some ⟨bx, ox + f * 12 + 2, none⟩)) rfl (by kernel_rfl) (by kernel_rfl) (by kernel_rfl) (fun _ _ _ h => h) (Or.inl ⟨by kernel_rfl, by intro u hu; subst hu; go_simp⟩) hS ?_
      refine wpAnyH_take (i := 31) (v := .agg (oc x.o)) rfl (by kernel_rfl) (by kernel_rfl) (by kernel_rfl) (fun _ _ _ h => h) (Or.inl ⟨by kernel_rfl, by intro u hu; subst hu; exact exec33 (.tmp 61) bx (ox + f * 12 + 2) (by kernel_rfl) x.o LUo.out⟩) hS ?_
      refine wpAnyH_take (i := 32) (v := .pointer (some ⟨g, 1, none⟩)) rfl (by kernel_rfl) (by kernel_rfl) (by kernel_rfl) (fun _ _ _ h => h) (Or.inl ⟨by kernel_rfl, by intro u hu; subst hu; go_simp⟩) hS ?_
      refine wpAnyH_take (i := 33) (v := .agg (oc d.o)) rfl (by kernel_rfl) (by kernel_rfl) (by kernel_rfl) (fun _ _ _ h => h) (Or.inl ⟨by kernel_rfl, by intro u hu; subst hu; exact exec33 (.tmp 63) g 1 (by kernel_rfl) d.o LGo.out⟩) hS ?_
      refine wpAnyH_take (i := 34) (v := .bool false) rfl (by kernel_rfl) (by kernel_rfl) (by kernel_rfl) (fun _ _ _ h => h) (Or.inl ⟨by kernel_rfl, by intro u hu; exact exec_neq 62 64 x.o d.o HXO.out (by kernel_rfl) (by kernel_rfl)⟩) hS ?_
      refine wpAnyH_ready (rs := [35]) (by kernel_rfl) (by simp) ?_
      refine AllReadyH.cons rfl (fun K hK => ?_) AllReadyH.nil
      go_simp
      refine hK.out _ _ hS (fun _ => ?_)
      clear hK K
      refine wpAnyH_ready (rs := [36]) (by kernel_rfl) (by simp) ?_
      refine AllReadyH.cons rfl (fun K hK => ?_) AllReadyH.nil
      go_simp
      refine hK.out _ _ hS (fun _ => ?_)
      clear hK K
      refine wpAnyH_take (i := 37) (v := .slice (some ⟨bx, ox, none⟩) N cp) rfl (by kernel_rfl) (by kernel_rfl) (by kernel_rfl) (fun _ _ _ h => h) (Or.inl ⟨by kernel_rfl, by intro u hu; subst hu; go_simp⟩) hS ?_
      refine wpAnyH_take (i := 38) (v := .pointer (some ⟨g, 6, none⟩)) rfl (by kernel_rfl) (by kernel_rfl) (by kernel_rfl) (fun _ _ _ h => h) (Or.inl ⟨by kernel_rfl, by intro u hu; subst hu; go_simp⟩) hS ?_
      refine wpAnyH_take (i := 39) (v := .int .i64 f) rfl (by kernel_rfl) (by kernel_rfl) (by kernel_rfl) (fun _ _ _ h => h) (Or.inl ⟨by kernel_rfl, by intro u hu; subst hu; go_simp⟩) hS ?_
      refine wpAnyH_take (i := 40) (v := .pointer (some ⟨bx, ox + f * 12, none⟩)) rfl (by kernel_rfl) (by kernel_rfl) (by kernel_rfl) (fun _ _ _ h => h) (Or.inl ⟨by kernel_rfl, by intro u hu; subst hu; go_simp⟩) hS ?_
      refine wpAnyH_take (i := 41) (v := .pointer (some ⟨bx, ox + f * 12, none⟩)) rfl (by kernel_rfl) (by kernel_rfl) (by kernel_rfl) (fun _ _ _ h => h) (Or.inl ⟨by kernel_rfl, by intro u hu; subst hu; go_simp⟩) hS ?_
      refine wpAnyH_take (i := 42) (v := .int .i64 x.t) rfl (by kernel_rfl) (by kernel_rfl) (by kernel_rfl) (fun _ _ _ h => h) (Or.inl ⟨by kernel_rfl, by intro u hu; subst hu; go_simp⟩) hS ?_
      refine wpAnyH_take (i := 43) (v := .pointer (some ⟨g, 0, none⟩)) rfl (by kernel_rfl) (by kernel_rfl) (by kernel_rfl) (fun _ _ _ h => h) (Or.inl ⟨by kernel_rfl, by intro u hu; subst hu; go_simp⟩) hS ?_
      refine wpAnyH_take (i := 44) (v := .int .i64 d.t) rfl (by kernel_rfl) (by kernel_rfl) (by kernel_rfl) (fun _ _ _ h => h) (Or.inl ⟨by kernel_rfl, by intro u hu; subst hu; go_simp⟩) hS ?_
      refine wpAnyH_take (i := 45) (v := .bool false) rfl (by kernel_rfl) (by kernel_rfl) (by kernel_rfl) (fun _ _ _ h => h) (Or.inl ⟨by kernel_rfl, by intro u hu; subst hu; go_simp⟩) hS ?_
      refine wpAnyH_ready (rs := [46]) (by kernel_rfl) (by simp) ?_
      refine AllReadyH.cons rfl (fun K hK => ?_) AllReadyH.nil
      go_simp
      refine hK.out _ _ hS (fun _ => ?_)
      clear hK K
      refine wpAnyH_done (by kernel_rfl) ?_ _
      clear t1 t2 t2' t3 t3' t4 e0 e1 c0 c6 c7 LUo LGo hS
      obtain ⟨V, hV⟩ : ∃ V, Hid (U.drew = V) := ⟨_, rfl⟩
      have bUV : Below U.heap.size U U.drew := (Below.refl _ _).drew
      have BX := hide (BX.out.step bUV)
      have HW1 := hide (HW1.out.trans (bUV.mono HB1.out.size))
      have HB1 := hide (HB1.out.trans (bUV.mono HB1.out.size))
      have OM1 := hide (own_below OM1.out bUV)
      have hV' := hV.out
      rw [hV']
      rw [hV'] at BX HB1 OM1 HW1
      clear bUV hV hV' LU
      have hFf : Hid (F f = cnt ((calls L0).take k) f) := HF.out f hfN
      obtain ⟨vf, hvf⟩ : ∃ vf : Nat, Hid (F f = vf) := ⟨cnt ((calls L0).take k) f, hFf.out⟩
      have hvb : vf ≤ 200 := by have h1 := hvf.out; rw [hFf.out] at h1; have h2 := cnt_le ((calls L0).take k) f; simp at h2; omega
      have c6 : V.cell? ⟨g, 6, none⟩ = some (.int .i64 f) := BX.out.c6.trans (by rw [hf.out])
      have y1 : V.cell? ⟨X3.heap.size, f, none⟩ = some (.int .i64 vf) := (row_cell OM1.out hfN).trans (by rw [hvf.out])
      have q1 : V.frozen? ⟨X3.heap.size, f, none⟩ = false := OM1.out.frozenAt f
      have OM2 := hide ((OM1.out.stored f (.int .i64 (vf + 1))).1)
      rw [rowF_set] at OM2
      have BX2 := hide (BX.out.other (k := X3.heap.size) (by have := HGX.out; omega) f (.int .i64 (vf + 1)))
      have HB2 := hide (HB1.out.setCell (p := ⟨X3.heap.size, f, none⟩) (Nat.le_refl _) (.int .i64 (vf + 1)))
      have HW2 := hide (HW1.out.setCell (p := ⟨X3.heap.size, f, none⟩) (Nat.le_refl _) (.int .i64 (vf + 1)))
      have c7 : (V.setCell ⟨X3.heap.size, f, none⟩ (.int .i64 (vf + 1))).cell? ⟨g, 7, none⟩ = some (.int .i64 d.e) := BX2.out.c7
      by_cases hpe : d.e = -1
      · have HE : Hid (d.e = -1) := hpe
        have HRN : Hid (d.r = noR) := by rcases Pd.out.e with ⟨_, h⟩ | ⟨h, _⟩; exact h; have := Pd.out.f0; omega
        rw [hpe] at c7
        clear hpe
        have er := hide BX2.out.cr
        go_wp2_with ((with_reducible refine ld37 (.tmp 92) g 8 ?_ ?_ d.r zd ?_ ?_); (exact rfl); (exact rfl); (exact er.out))
        refine (same22 d.r noR zd noS3 true _ ((Rd.out.below HW2.out (Nat.le_refl _)).more HB2.out.size) (RSee.nil _ _) (by rw [HRN.out]; exact FewR.nil.most) FewR.nil.most ⟨fun _ => HRN.out, fun _ => rfl⟩).mono ?_
        rintro e v5 ⟨rfl, hb1⟩
        have HF2 : Hid (CntIs (fun m => if m = f then (vf : Int) + 1 else F m) (calls L0) N (k + 1)) := cnt_one_more HF.out HKC.out (by rw [hd.out]; exact hf.out) hvf.out (by rw [hd.out, HE.out])
        have OM3 := hide (own_below OM2.out hb1)
        have HB3 := hide (HB2.out.trans (hb1.mono HB2.out.size))
        clear hb1 er
        go_wp2
        go_roundw
        case rel => exact ⟨k + 1, _, by omega, by go_num, HF2, OM3, HB3⟩
        case measure => simp [intOf]; omega
      · obtain ⟨e, he⟩ : ∃ e : Nat, Hid (d.e = e) := ⟨d.e.toNat, by have h := Pd.out.e; have h0 := Pd.out.f0; show _ = _; omega⟩
        have HE : Hid (d.e = (e : Int)) := he.out
        have hfe : f < e := by have h := Pd.out.e; have h1 := hf.out; have h2 := he.out; omega
        have heN : e < N := by have h := hde.out; have h2 := he.out; omega
        have hen : d.e.toNat = e := by rw [he.out]; exact Int.toNat_natCast e
        have hnp : Hid (d.e ≠ -1) := hpe
        rw [he.out] at c7
        clear hpe
        have BW2 := hide (BW.out.trans (HB2.out.mono BW.out.size))
        obtain ⟨y, hy⟩ : ∃ y, Hid (L0.getD e noEv = y) := ⟨_, rfl⟩
        have HYD : Hid (y.d = true) := by have h := (HTH.out hnp.out).1; rw [hen, hy.out] at h; exact h
        have HYT : Hid (y.t = d.t) := by have h := Pd.out.e; have h0 := Pd.out.f0; rcases h with ⟨h, _⟩ | ⟨_, _, h, _⟩; exact absurd h hnp.out; rw [hen, hy.out] at h; exact h
        have HYR : Hid (y.r = d.r) := by have h := Pd.out.e; have h0 := Pd.out.f0; rcases h with ⟨h, _⟩ | ⟨_, _, _, h⟩; exact absurd h hnp.out; rw [hen, hy.out] at h; exact h
        have FY : Hid (FewR y.r) := by have h := FL.out.few e (by have := hl.out; omega); rw [hy.out] at h; exact h
        clear hen HTH
        have hFe : Hid (F e = cnt ((calls L0).take k) e) := HF.out e heN
        obtain ⟨ve, hve⟩ : ∃ ve : Nat, Hid (F e = ve) := ⟨cnt ((calls L0).take k) e, hFe.out⟩
        have hveb : ve ≤ 200 := by have h1 := hve.out; rw [hFe.out] at h1; have h2 := cnt_le ((calls L0).take k) e; simp at h2; omega
        have y2 : (V.setCell ⟨X3.heap.size, f, none⟩ (.int .i64 (vf + 1))).cell? ⟨X3.heap.size, e, none⟩ = some (.int .i64 ve) := (row_cell OM2.out heN).trans (by rw [if_neg (by omega), hve.out])
        have q2 : (V.setCell ⟨X3.heap.size, f, none⟩ (.int .i64 (vf + 1))).frozen? ⟨X3.heap.size, e, none⟩ = false := OM2.out.frozenAt e
        have OM3 := hide ((OM2.out.stored e (.int .i64 (ve + 1))).1)
        rw [rowF_set] at OM3
        have BX3 := hide (BX2.out.other (k := X3.heap.size) (by have := HGX.out; omega) e (.int .i64 (ve + 1)))
        have HB3 := hide (HB2.out.setCell (p := ⟨X3.heap.size, e, none⟩) (Nat.le_refl _) (.int .i64 (ve + 1)))
        have HW3 := hide (HW2.out.setCell (p := ⟨X3.heap.size, e, none⟩) (Nat.le_refl _) (.int .i64 (ve + 1)))
        go_upto_region 19 with fail
        obtain ⟨Y, hY⟩ : ∃ Y, Hid ((V.setCell ⟨X3.heap.size, f, none⟩ (.int .i64 (vf + 1))).setCell ⟨X3.heap.size, e, none⟩ (.int .i64 (ve + 1)) = Y) := ⟨_, rfl⟩
        have hY' := hY.out
        rw [hY'] at BX3 HB3 HW3 OM3 ⊢
        clear hY hY' c6 c7 y1 q1 y2 q2
        have BWY := hide (BW.out.trans (HB3.out.mono BW.out.size))
        obtain ⟨b2, o2, zy, eay, hb2, Ly0, Ry0⟩ := (HP.out.below BWY.out (Nat.le_refl _)).at_ heN
        dsimp only at eay
        simp only [Option.some.injEq, Addr.mk.injEq, and_true] at eay
        obtain ⟨x1, x2⟩ := eay
        subst x1 x2
        rw [hy.out] at Ly0 Ry0
        have Ly := hide Ly0
        have Ry := hide Ry0
        clear Ly0 Ry0
        have j1 : (0 : Int) ≤ (e : Int) := by omega
        have j2 : (e : Int) < (N : Int) := by omega
        have t4 : (y.t != d.t) = false := by rw [HYT.out]; simp
        refine wp_region_held_drew (S := fun u => Bx u g (cc d zd) 39 ∧ Lies u bx (ox + e * 12) (ec y zy) ∧ Below Y.heap.size Y u) (by kernel_rfl) ⟨BX3.out.step (Below.refl _ _).drew, Ly.out.below (Below.refl Y.heap.size Y).drew (Nat.lt_of_lt_of_le hb2 BWY.out.size), (Below.refl _ _).drew⟩ (fun hS => ?_)
        refine wpAnyH_take (i := 0) (v := .slice (some ⟨bx, ox, none⟩) N cp) rfl (by kernel_rfl) (by kernel_rfl) (by kernel_rfl) (fun _ _ _ h => h) (Or.inl ⟨by kernel_rfl, by intro u hu; go_simp⟩) hS ?_
        refine wpAnyH_take (i := 1) (v := .pointer (some ⟨g, 7, none⟩)) rfl (by kernel_rfl) (by kernel_rfl) (by kernel_rfl) (fun _ _ _ h => h) (Or.inl ⟨by kernel_rfl, by intro u hu; go_simp⟩) hS ?_
        refine wpAnyH_take (i := 2) (v := .int .i64 e) rfl (by kernel_rfl) (by kernel_rfl) (by kernel_rfl) (fun _ _ _ h => h) (Or.inl ⟨by kernel_rfl, by intro u hu; have q := hu.1.c7; rw [HE.out] at q; go_simp⟩) hS ?_
        refine wpAnyH_take (i := 3) (v := .pointer (some ⟨bx, ox + e * 12, none⟩)) rfl (by kernel_rfl) (by kernel_rfl) (by kernel_rfl) (fun _ _ _ h => h) (Or.inl ⟨by kernel_rfl, by intro u hu; go_simp⟩) hS ?_
        refine wpAnyH_take (i := 4) (v := .pointer (some ⟨bx, ox + e * 12 + 1, none⟩)) rfl (by kernel_rfl) (by kernel_rfl) (by kernel_rfl) (fun _ _ _ h => h) (Or.inl ⟨by kernel_rfl, by intro u hu; go_simp⟩) hS ?_
        refine wpAnyH_take (i := 5) (v := .bool true) rfl (by kernel_rfl) (by kernel_rfl) (by kernel_rfl) (fun _ _ _ h => h) (Or.inl ⟨by kernel_rfl, by intro u hu; have q := hu.2.1.e1; rw [HYD.out] at q; go_simp⟩) hS ?_
        refine wpAnyH_ready (rs := [6]) (by kernel_rfl) (by simp) ?_
        refine AllReadyH.cons rfl (fun K hK => ?_) AllReadyH.nil
        go_simp
        refine hK.out _ _ hS (fun _ => ?_)
        clear hK K
        refine wpAnyH_ready (rs := [7]) (by kernel_rfl) (by simp) ?_
        refine AllReadyH.cons rfl (fun K hK => ?_) AllReadyH.nil
        go_simp
        refine hK.out _ _ hS (fun _ => ?_)
        clear hK K
        refine wpAnyH_take (i := 8) (v := .slice (some ⟨bx, ox, none⟩) N cp) rfl (by kernel_rfl) (by kernel_rfl) (by kernel_rfl) (fun _ _ _ h => h) (Or.inl ⟨by kernel_rfl, by intro u hu; go_simp⟩) hS ?_
        refine wpAnyH_take (i := 9) (v := .pointer (some ⟨g, 7, none⟩)) rfl (by kernel_rfl) (by kernel_rfl) (by kernel_rfl) (fun _ _ _ h => h) (Or.inl ⟨by kernel_rfl, by intro u hu; go_simp⟩) hS ?_
        refine wpAnyH_take (i := 10) (v := .int .i64 e) rfl (by kernel_rfl) (by kernel_rfl) (by kernel_rfl) (fun _ _ _ h => h) (Or.inl ⟨by kernel_rfl, by intro u hu; have q := hu.1.c7; rw [HE.out] at q; go_simp⟩) hS ?_
        refine wpAnyH_take (i := 11) (v := .pointer (some ⟨bx, ox + e * 12, none⟩)) rfl (by kernel_rfl) (by kernel_rfl) (by kernel_rfl) (fun _ _ _ h => h) (Or.inl ⟨by kernel_rfl, by intro u hu; go_simp⟩) hS ?_
        refine wpAnyH_take (i := 12) (v := .pointer (some ⟨bx, ox + e * 12, none⟩)) rfl (by kernel_rfl) (by kernel_rfl) (by kernel_rfl) (fun _ _ _ h => h) (Or.inl ⟨by kernel_rfl, by intro u hu; go_simp⟩) hS ?_
        refine wpAnyH_take (i := 13) (v := .int .i64 y.t) rfl (by kernel_rfl) (by kernel_rfl) (by kernel_rfl) (fun _ _ _ h => h) (Or.inl ⟨by kernel_rfl, by intro u hu; have q := hu.2.1.e0; go_simp⟩) hS ?_
        refine wpAnyH_take (i := 14) (v := .pointer (some ⟨g, 0, none⟩)) rfl (by kernel_rfl) (by kernel_rfl) (by kernel_rfl) (fun _ _ _ h => h) (Or.inl ⟨by kernel_rfl, by intro u hu; go_simp⟩) hS ?_
        refine wpAnyH_take (i := 15) (v := .int .i64 d.t) rfl (by kernel_rfl) (by kernel_rfl) (by kernel_rfl) (fun _ _ _ h => h) (Or.inl ⟨by kernel_rfl, by intro u hu; have q := hu.1.c0; go_simp⟩) hS ?_
        refine wpAnyH_take (i := 16) (v := .bool false) rfl (by kernel_rfl) (by kernel_rfl) (by kernel_rfl) (fun _ _ _ h => h) (Or.inl ⟨by kernel_rfl, by intro u hu; go_simp⟩) hS ?_
        refine wpAnyH_ready (rs := [17]) (by kernel_rfl) (by simp) ?_
        refine AllReadyH.cons rfl (fun K hK => ?_) AllReadyH.nil
        go_simp
        refine hK.out _ _ hS (fun _ => ?_)
        clear hK K
        refine wpAnyH_ready (rs := [18]) (by kernel_rfl) (by simp) ?_
        refine AllReadyH.cons rfl (fun K hK => ?_) AllReadyH.nil
        go_simp
        refine hK.out _ _ hS (fun _ => ?_)
        clear hK K
        refine wpAnyH_take (i := 19) (v := .slice (some ⟨bx, ox, none⟩) N cp) rfl (by kernel_rfl) (by kernel_rfl) (by kernel_rfl) (fun _ _ _ h => h) (Or.inl ⟨by kernel_rfl, by intro u hu; go_simp⟩) hS ?_
        refine wpAnyH_take (i := 20) (v := .pointer (some ⟨g, 7, none⟩)) rfl (by kernel_rfl) (by kernel_rfl) (by kernel_rfl) (fun _ _ _ h => h) (Or.inl ⟨by kernel_rfl, by intro u hu; go_simp⟩) hS ?_
        refine wpAnyH_take (i := 21) (v := .int .i64 e) rfl (by kernel_rfl) (by kernel_rfl) (by kernel_rfl) (fun _ _ _ h => h) (Or.inl ⟨by kernel_rfl, by intro u hu; have q := hu.1.c7; rw [HE.out] at q; go_simp⟩) hS ?_
        refine wpAnyH_take (i := 22) (v := .pointer (some ⟨bx, ox + e * 12, none⟩)) rfl (by kernel_rfl) (by kernel_rfl) (by kernel_rfl) (fun _ _ _ h => h) (Or.inl ⟨by kernel_rfl, by intro u hu; go_simp⟩) hS ?_
        refine wpAnyH_take (i := 23) (v := .pointer (some ⟨bx, ox + e * 12 + 7, none⟩)) rfl (by kernel_rfl) (by kernel_rfl) (by kernel_rfl) (fun _ _ _ h => h) (Or.inl ⟨by kernel_rfl, by intro u hu; go_simp⟩) hS ?_
        refine wpAnyH_take (i := 24) (v := .agg (rc y.r zy)) rfl (by kernel_rfl) (by kernel_rfl) (by kernel_rfl) (fun _ _ _ h => h) (Or.inl ⟨by kernel_rfl, by intro u hu; exact exec37 (.tmp 128) bx (ox + e * 12 + 7) (by kernel_rfl) y.r zy hu.2.1.er⟩) hS ?_
        refine wpAnyH_take (i := 25) (v := .pointer (some ⟨g, 8, none⟩)) rfl (by kernel_rfl) (by kernel_rfl) (by kernel_rfl) (fun _ _ _ h => h) (Or.inl ⟨by kernel_rfl, by intro u hu; go_simp⟩) hS ?_
        refine wpAnyH_take (i := 26) (v := .agg (rc d.r zd)) rfl (by kernel_rfl) (by kernel_rfl) (by kernel_rfl) (fun _ _ _ h => h) (Or.inl ⟨by kernel_rfl, by intro u hu; exact exec37 (.tmp 130) g 8 (by kernel_rfl) d.r zd hu.1.cr⟩) hS ?_
        refine wpAnyH_ready (rs := [27]) (by kernel_rfl) (by simp) ?_
        refine AllReadyH.cons rfl (fun K hK => ?_) AllReadyH.nil
        go_simp
        refine (same22 y.r d.r zy zd true _ ((Ry.out.below (hS.2.2.mono BWY.out.size) (Nat.le_refl _)).more (Nat.le_trans BWY.out.size hS.2.2.size)) ((Rd.out.below (HW3.out.trans (hS.2.2.mono HB3.out.size)) (Nat.le_refl _)).more (Nat.le_trans HB3.out.size hS.2.2.size)) FY.out.most (by rw [← HYR.out]; exact FY.out.most) ⟨fun _ => HYR.out, fun _ => rfl⟩).mono ?_
        rintro e' v5 ⟨rfl, hb1⟩
        have BU : Below Y.heap.size Y v5 := hS.2.2.trans (hb1.mono hS.2.2.size)
        refine hK.out _ _ ⟨BX3.out.step BU, Ly.out.below BU (Nat.lt_of_lt_of_le hb2 BWY.out.size), BU⟩ (fun hS1 => ?_)
        clear hK K
        refine wpAnyH_ready (rs := [28]) (by kernel_rfl) (by simp) ?_
        refine AllReadyH.cons rfl (fun K hK => ?_) AllReadyH.nil
        go_simp
        refine hK.out _ _ hS1 (fun hS2 => ?_)
        clear hK K
        refine wpAnyH_ready (rs := [29]) (by kernel_rfl) (by simp) ?_
        refine AllReadyH.cons rfl (fun K hK => ?_) AllReadyH.nil
        go_simp
        refine hK.out _ _ hS2 (fun _ => ?_)
        clear hK K
        refine wpAnyH_done (by kernel_rfl) ?_ _
        have HF2 : Hid (CntIs (fun m => if m = e then (ve : Int) + 1 else if m = f then (vf : Int) + 1 else F m) (calls L0) N (k + 1)) := cnt_two_more HF.out HKC.out (by rw [hd.out]; exact hf.out) hvf.out (by rw [hd.out]; exact HE.out) hve.out hfe
        have OM4 := hide (own_below OM3.out BU)
        have HB4 := hide (HB3.out.trans (BU.mono HB3.out.size))
        clear hS hS1 hS2 hb1 BU t4
        go_wp2
        go_roundw
        case rel => exact ⟨k + 1, _, by omega, by go_num, HF2, OM4, HB4⟩
        case measure => simp [intOf]; omega
    · obtain rfl : n = k := by omega
      have HF1 : Hid (∀ m, m < N → F m = 1) := fun m hm => by
        rw [HF.out m hm, List.take_of_length_le (by have := hn.out; omega), cnt_one L0 HMAY.out m (by have := hl.out; omega)]
        rfl
      clear HF
      go_wp2
      go_loopw [138] (fun j wx => ∃ m : Nat, m ≤ N ∧ j = .int .i64 m ∧ wx = wr) (fun j _ => N - (intOf j).toNat)
      case atStart => exact ⟨0, by omega, rfl, rfl⟩
      case round =>
        obtain ⟨m, hm, rfl, rfl⟩ := hrel
        by_cases hlm : m < N
        · have y1 : wr.cell? ⟨X3.heap.size, m, none⟩ = some (.int .i64 1) := (row_cell OM.out hlm).trans (by rw [HF1.out m hlm])
          go_wp2
          go_roundw
          case rel => exact ⟨m + 1, by omega, by go_num, trivial⟩
          case measure => simp [intOf]; omega
        · obtain rfl : N = m := by omega
          have HPS : Hid (N + pendN (calls L0) = 2 * n) := by
            have h := pend_sum L0 HMAY.out
            have e : pendN (calls L0) = pendC (calls L0) := by unfold pendN pendC; rw [List.countP_eq_length_filter]
            show _ = _
            rw [e, hn.out]
            have := hl.out
            omega
          go_wp2_with fail
          refine (pend20 ⟨A, n, c⟩ (calls L0) _ ((HC.out.below HB.out (Nat.le_refl _)).more HB.out.size) (by dsimp only; omega)).mono ?_
          rintro e v5 ⟨rfl, hb1⟩
          obtain ⟨pp, hpp⟩ : ∃ pp, Hid (pendN (calls L0) = pp) := ⟨_, rfl⟩
          have hps : N + pp = 2 * n := by have := HPS.out; rw [hpp.out] at this; exact this
          have hpp' := hpp.out
          rw [hpp']
          clear hpp' HPS
          have t9 : ((N : Int) == 2 * (n : Int) - (pp : Int)) = true := by rw [beq_iff_eq]; omega
          go_wp2
          go_ret
          exact ⟨rfl, BW.out.trans ((HB.out.trans (hb1.mono HB.out.size)).mono BW.out.size)⟩

set_option maxRecDepth 100000 in
theorem lifted (os : Os) (started : os.Started) (H : Type) (enc : TypeId × Value → H) :
    ReturnsInHanded {} Try.checked os 6 .any (Rows.histEventsSpec.pre6 enc Try.prog Try.f6 Rows.histEventsRow.domain false) (Rows.histEventsSpec.post enc Try.prog Try.f6 false true false false) := by
  refine returnsInHanded_of_change (C := Try.checked) own started (by kernel_rfl) Try.func6
    (ChangeSpec.witness6 (enc := enc) (C := Try.checked) false ⟨#[], #[.slice none 0 0], []⟩ 8 (by kernel_rfl) (by kernel_rfl) (by kernel_rfl) (by kernel_rfl)) ?_
  intro W base args ds gs before hval0 hW hcnd _
  have hval : ∀ (j : Nat) t v, Try.f6.params[j]? = some t → args[j]? = some v → Value.okWide Try.prog W .any base t v := hval0
  have hW' := hW
  obtain ⟨p, q, hA0, hV, rfl, hfz, hnd⟩ := hW
  have hA : DataW.TrodAll enc Try.prog W 0 (fun _ => true) true Try.f6.params.toList args.toList ds p := hA0
  rw [Try.params6] at hA hval
  obtain ⟨x0, vs0, d0, ds0, p0_, q0, hargs, rfl, rfl, h0, r0⟩ := trodAll_cons hA
  obtain ⟨rfl, rfl, rfl⟩ := trodAll_nil r0
  obtain rfl : args = #[x0] := by cases args; simp_all
  obtain ⟨rfl, rfl⟩ := trodVars_none hV
  have lt0 : ∀ x ∈ p0_, x.block < W.heap.size := by obtain ⟨m, hm⟩ := h0; exact DataW.trod_lt m _ _ _ hm
  obtain ⟨s0, L0, rfl, w0, m0, u0, v0⟩ := open_events (hval 0 22 x0 rfl rfl) h0
  clear hA0 hval0
  refine (walk s0 L0 W w0 m0 u0 v0).mono fun e W' ⟨he, bel⟩ => ?_
  subst he
  exact ⟨_, rfl, _, _, _, [], _, [], hW', trodAll_mk1 (shut_bool Try.underlying4 _), (trodAll_cons_mk (Below.trod laidOut (by kernel_rfl) (of_decide_eq_true (by kernel_rfl)) h0 bel lt0) trodAll_mk0), rfl, bel.frame _, fun h => by cases h⟩

theorem over : Rows.histEventsRow.holds Try.pinned (OpenSpec.ofChange Rows.histEventsSpec) :=
  OpenClaim.holds_of_wide 6 Try.f6 rfl rfl rfl rfl rfl rfl rfl ⟨rfl, rfl, rfl, rfl, rfl⟩ rfl rfl rfl rfl rfl (by kernel_rfl) Try.func6 (by kernel_rfl)
    (of_decide_eq_true (by kernel_rfl)) (by unfold Func.isWrapper; first | (rw [if_pos (by decide +kernel)]; kernel_rfl) | (rw [if_neg (by decide +kernel)]; exact ⟨rfl, rfl⟩))
    (fun os started H enc _ => lifted os started H enc)

end Go.Proofs.Ytfefkdedgceomaa.histEvents

namespace Go.Proofs.Ytfefkdedgceomaa
/-- The statement. -/
theorem histEvents_holds : Rows.HistEventsSaid := histEvents.over
#print axioms histEvents_holds
end Go.Proofs.Ytfefkdedgceomaa
