/- Whether a history may be: the document's answer. Conditions: not many events, lists that are not great. -/
import Derived.Test.YtfefkdedgceomaaRNext
import Derived.WalkKit
import Derived.Below
import Derived.Deep.QuietTactic
import Derived.BigQuiet
import Derived.Deep.AppendLies
import Derived.Deep.RegionHeld3
import Derived.Deep.DeepCutAuto
import Derived.Shelf.Abstract
import Derived.Laws.Rows
namespace Go.Proofs.Ytfefkdedgceomaa
open Go.RowKit
set_option linter.unusedVariables false
set_option maxRecDepth 100000

theorem tmod_two {n p : Nat} (hp : n % 2 = p) : ((n : Nat) : Int).tmod 2 = (p : Int) := by rw [Int.tmod_eq_emod_of_nonneg (by omega)]; omega
theorem op_ne (o p : O5) (h : o ≠ p) : ∀ u : World, (Op.equalIn 10000 33 (.agg #[.int .i64 o.k, .int .i64 o.a, .int .i64 o.b, .int .i64 o.q, .int .i64 o.v]) (.agg #[.int .i64 p.k, .int .i64 p.a, .int .i64 p.b, .int .i64 p.q, .int .i64 p.v])).run Try.prog u = .ok false u := fun u => by
  have := eq33 u o p
  rw [decide_eq_false h] at this
  exact this
theorem op_eq (o p : O5) (h : o = p) : ∀ u : World, (Op.equalIn 10000 33 (.agg #[.int .i64 o.k, .int .i64 o.a, .int .i64 o.b, .int .i64 o.q, .int .i64 o.v]) (.agg #[.int .i64 p.k, .int .i64 p.a, .int .i64 p.b, .int .i64 p.q, .int .i64 p.v])).run Try.prog u = .ok true u := fun u => by
  have := eq33 u o p
  rw [decide_eq_true h] at this
  exact this
theorem rbad {L : List Ev} {k : Nat} (hk : k < L.length) (h : ¬ RGood L k) : resE L = 1 := resE_no fun hm => h ((rmay_iff L).2 hm k hk)

set_option maxHeartbeats 8000000 in
theorem rcheck_any (sl : Sl) (L : List Ev) (w : World) (p : Evs w w.heap.size sl L) (hn : sl.n ≤ 1000) (hcap : sl.n ≤ sl.c) (F : ∀ i, i < L.length → FewR (L.getD i noEv).r) : Calls Try.prog 14 #[.slice sl.A sl.n sl.c] w (Drew (.int .i64 (resE L)) w) := by
  obtain ⟨A0, N, cp⟩ := sl
  have HP := hide p
  have hl : Hid (L.length = N) := p.1
  have HF := hide F
  dsimp only at hn hcap ⊢
  clear p F
  go_enter Try.func14, Try.ntmps14
  go_wp2
  go_loopw [8] (fun i wr => ∃ k : Nat, k ≤ N ∧ i = .int .i64 k ∧ Hid (∀ j, j < k → RGood L j) ∧ Hid (Below w.heap.size w wr)) (fun i _ => N - (intOf i).toNat)
  case atStart => exact ⟨0, by omega, rfl, (fun j hj => by omega), Below.refl _ _⟩
  case round =>
    obtain ⟨k, hk, rfl, HS, HB⟩ := hrel
    by_cases hlt : k < N
    · have HKL : Hid (k < L.length) := by have := hl.out; show _ < _; omega
      obtain ⟨b, off, z, e, hb, LI0, RS0⟩ := (HP.out.below HB.out (Nat.le_refl _)).at_ hlt
      dsimp only at e
      subst e
      obtain ⟨x, hx⟩ : ∃ x, Hid (L.getD k noEv = x) := ⟨_, rfl⟩
      have FX : Hid (FewR x.r) := by have := HF.out k HKL.out; rw [hx.out] at this; exact this
      rw [hx.out] at LI0 RS0
      have LI := hide LI0
      have MD := hide (made wr zero45 (ec x z) 45)
      have RU := hide ((RS0.below MD.out.2 HB.out.size).more (Nat.le_trans HB.out.size MD.out.2.size))
      have HB1 := hide (HB.out.trans (MD.out.2.mono HB.out.size))
      have BX := hide MD.out.1
      clear LI0 RS0
      go_upto_region 4 with (first | ((with_reducible refine ld45 (.tmp 11) b (off + k * 12) ?_ ?_ x z ?_ ?_); (exact rfl); (exact rfl); (exact LI.out)) | ((with_reducible refine st45 (.tmp 4) (.tmp 12) wr.heap.size ?_ x z ?_ zero45 ?_ rfl ?_); (exact rfl); (exact rfl); (exact Bx.new wr zero45 45)))
      obtain ⟨U, hU⟩ : ∃ U, Hid ((wr.alloc (.cells zero45 45)).setRow wr.heap.size (ec x z) = U) := ⟨_, rfl⟩
      obtain ⟨g, hg⟩ : ∃ g, Hid (wr.heap.size = g) := ⟨_, rfl⟩
      have hU' := hU.out
      have hg' := hg.out
      rw [hU', hg']
      rw [hU'] at BX HB1 RU
      rw [hg'] at BX
      clear hU hU' hg hg' MD HB LI
      by_cases y0 : x.t < 0
      case pos =>
        have HE : Hid (resE L = 1) := rbad HKL.out (fun h => by have := h.1.1; rw [hx.out] at this; omega)
        have t0 : decide (x.t < 0) = true := by simpa using y0
        clear y0
        have c0 : U.cell? ⟨g, 0, none⟩ = some (.int .i64 x.t) := BX.out.e0
        refine wp_region_any (by kernel_rfl) ?_
        change wpAny _ _ _ _ _ _ _ (World.drew _)
        refine wpAny_ready (rs := [0]) (by kernel_rfl) (by simp) ?_
        refine AllReady.cons rfl (fun K hK => ?_) AllReady.nil
        go_simp
        refine hK _ _ ?_
        clear hK K
        refine wpAny_ready (rs := [1]) (by kernel_rfl) (by simp) ?_
        refine AllReady.cons rfl (fun K hK => ?_) AllReady.nil
        go_simp
        refine hK _ _ ?_
        clear hK K
        refine wpAny_ready (rs := [2]) (by kernel_rfl) (by simp) ?_
        refine AllReady.cons rfl (fun K hK => ?_) AllReady.nil
        go_simp
        refine hK _ _ ?_
        clear hK K
        refine wpAny_ready (rs := [3]) (by kernel_rfl) (by simp) ?_
        refine AllReady.cons rfl (fun K hK => ?_) AllReady.nil
        go_simp
        refine hK _ _ ?_
        clear hK K
        refine wpAny_take (i := 4) (v := undef) rfl (by kernel_rfl) (by kernel_rfl) (by kernel_rfl) (fun _ _ _ h => h) (Or.inr ⟨by kernel_rfl, rfl⟩) ?_
        refine wpAny_take (i := 5) (v := undef) rfl (by kernel_rfl) (by kernel_rfl) (by kernel_rfl) (fun _ _ _ h => h) (Or.inr ⟨by kernel_rfl, rfl⟩) ?_
        refine wpAny_take (i := 6) (v := undef) rfl (by kernel_rfl) (by kernel_rfl) (by kernel_rfl) (fun _ _ _ h => h) (Or.inr ⟨by kernel_rfl, rfl⟩) ?_
        refine wpAny_ready (rs := [7]) (by kernel_rfl) (by simp) ?_
        refine AllReady.cons rfl (fun K hK => ?_) AllReady.nil
        go_simp
        refine hK _ _ ?_
        clear hK K
        refine wpAny_ready (rs := [8]) (by kernel_rfl) (by simp) ?_
        refine AllReady.cons rfl (fun K hK => ?_) AllReady.nil
        go_simp
        refine hK _ _ ?_
        clear hK K
        refine wpAny_take (i := 9) (v := undef) rfl (by kernel_rfl) (by kernel_rfl) (by kernel_rfl) (fun _ _ _ h => h) (Or.inr ⟨by kernel_rfl, rfl⟩) ?_
        refine wpAny_take (i := 10) (v := undef) rfl (by kernel_rfl) (by kernel_rfl) (by kernel_rfl) (fun _ _ _ h => h) (Or.inr ⟨by kernel_rfl, rfl⟩) ?_
        refine wpAny_take (i := 11) (v := undef) rfl (by kernel_rfl) (by kernel_rfl) (by kernel_rfl) (fun _ _ _ h => h) (Or.inr ⟨by kernel_rfl, rfl⟩) ?_
        refine wpAny_take (i := 12) (v := undef) rfl (by kernel_rfl) (by kernel_rfl) (by kernel_rfl) (fun _ _ _ h => h) (Or.inr ⟨by kernel_rfl, rfl⟩) ?_
        refine wpAny_take (i := 13) (v := undef) rfl (by kernel_rfl) (by kernel_rfl) (by kernel_rfl) (fun _ _ _ h => h) (Or.inr ⟨by kernel_rfl, rfl⟩) ?_
        refine wpAny_take (i := 14) (v := undef) rfl (by kernel_rfl) (by kernel_rfl) (by kernel_rfl) (fun _ _ _ h => h) (Or.inr ⟨by kernel_rfl, rfl⟩) ?_
        refine wpAny_take (i := 15) (v := undef) rfl (by kernel_rfl) (by kernel_rfl) (by kernel_rfl) (fun _ _ _ h => h) (Or.inr ⟨by kernel_rfl, rfl⟩) ?_
        refine wpAny_take (i := 16) (v := undef) rfl (by kernel_rfl) (by kernel_rfl) (by kernel_rfl) (fun _ _ _ h => h) (Or.inr ⟨by kernel_rfl, rfl⟩) ?_
        refine wpAny_ready (rs := [17]) (by kernel_rfl) (by simp) ?_
        refine AllReady.cons rfl (fun K hK => ?_) AllReady.nil
        go_simp
        refine hK _ _ ?_
        clear hK K
        refine wpAny_done (by kernel_rfl) ?_ _
        go_wp2
        go_ret
        exact ⟨by rw [HE.out]; rfl, Below.drew HB1.out⟩
      have t0 : decide (x.t < 0) = false := by simpa using y0
      by_cases y1 : x.t > 63
      case pos =>
        have HE : Hid (resE L = 1) := rbad HKL.out (fun h => by have := h.1.2; rw [hx.out] at this; omega)
        have t1 : decide (x.t > 63) = true := by simpa using y1
        have t1' : decide (63 < x.t) = true := by simpa using y1
        clear y1
        have c0 : U.cell? ⟨g, 0, none⟩ = some (.int .i64 x.t) := BX.out.e0
        refine wp_region_any (by kernel_rfl) ?_
        change wpAny _ _ _ _ _ _ _ (World.drew _)
        refine wpAny_ready (rs := [0]) (by kernel_rfl) (by simp) ?_
        refine AllReady.cons rfl (fun K hK => ?_) AllReady.nil
        go_simp
        refine hK _ _ ?_
        clear hK K
        refine wpAny_ready (rs := [1]) (by kernel_rfl) (by simp) ?_
        refine AllReady.cons rfl (fun K hK => ?_) AllReady.nil
        go_simp
        refine hK _ _ ?_
        clear hK K
        refine wpAny_ready (rs := [2]) (by kernel_rfl) (by simp) ?_
        refine AllReady.cons rfl (fun K hK => ?_) AllReady.nil
        go_simp
        refine hK _ _ ?_
        clear hK K
        refine wpAny_ready (rs := [3]) (by kernel_rfl) (by simp) ?_
        refine AllReady.cons rfl (fun K hK => ?_) AllReady.nil
        go_simp
        refine hK _ _ ?_
        clear hK K
        refine wpAny_ready (rs := [4]) (by kernel_rfl) (by simp) ?_
        refine AllReady.cons rfl (fun K hK => ?_) AllReady.nil
        go_simp
        refine hK _ _ ?_
        clear hK K
        refine wpAny_ready (rs := [5]) (by kernel_rfl) (by simp) ?_
        refine AllReady.cons rfl (fun K hK => ?_) AllReady.nil
        go_simp
        refine hK _ _ ?_
        clear hK K
        refine wpAny_ready (rs := [6]) (by kernel_rfl) (by simp) ?_
        refine AllReady.cons rfl (fun K hK => ?_) AllReady.nil
        go_simp
        refine hK _ _ ?_
        clear hK K
        refine wpAny_ready (rs := [7]) (by kernel_rfl) (by simp) ?_
        refine AllReady.cons rfl (fun K hK => ?_) AllReady.nil
        go_simp
        refine hK _ _ ?_
        clear hK K
        refine wpAny_ready (rs := [8]) (by kernel_rfl) (by simp) ?_
        refine AllReady.cons rfl (fun K hK => ?_) AllReady.nil
        go_simp
        refine hK _ _ ?_
        clear hK K
        refine wpAny_take (i := 9) (v := undef) rfl (by kernel_rfl) (by kernel_rfl) (by kernel_rfl) (fun _ _ _ h => h) (Or.inr ⟨by kernel_rfl, rfl⟩) ?_
        refine wpAny_take (i := 10) (v := undef) rfl (by kernel_rfl) (by kernel_rfl) (by kernel_rfl) (fun _ _ _ h => h) (Or.inr ⟨by kernel_rfl, rfl⟩) ?_
        refine wpAny_take (i := 11) (v := undef) rfl (by kernel_rfl) (by kernel_rfl) (by kernel_rfl) (fun _ _ _ h => h) (Or.inr ⟨by kernel_rfl, rfl⟩) ?_
        refine wpAny_take (i := 12) (v := undef) rfl (by kernel_rfl) (by kernel_rfl) (by kernel_rfl) (fun _ _ _ h => h) (Or.inr ⟨by kernel_rfl, rfl⟩) ?_
        refine wpAny_take (i := 13) (v := undef) rfl (by kernel_rfl) (by kernel_rfl) (by kernel_rfl) (fun _ _ _ h => h) (Or.inr ⟨by kernel_rfl, rfl⟩) ?_
        refine wpAny_take (i := 14) (v := undef) rfl (by kernel_rfl) (by kernel_rfl) (by kernel_rfl) (fun _ _ _ h => h) (Or.inr ⟨by kernel_rfl, rfl⟩) ?_
        refine wpAny_take (i := 15) (v := undef) rfl (by kernel_rfl) (by kernel_rfl) (by kernel_rfl) (fun _ _ _ h => h) (Or.inr ⟨by kernel_rfl, rfl⟩) ?_
        refine wpAny_take (i := 16) (v := undef) rfl (by kernel_rfl) (by kernel_rfl) (by kernel_rfl) (fun _ _ _ h => h) (Or.inr ⟨by kernel_rfl, rfl⟩) ?_
        refine wpAny_ready (rs := [17]) (by kernel_rfl) (by simp) ?_
        refine AllReady.cons rfl (fun K hK => ?_) AllReady.nil
        go_simp
        refine hK _ _ ?_
        clear hK K
        refine wpAny_done (by kernel_rfl) ?_ _
        go_wp2
        go_ret
        exact ⟨by rw [HE.out]; rfl, Below.drew HB1.out⟩
      have t1 : decide (x.t > 63) = false := by simpa using y1
      have t1' : decide (63 < x.t) = false := by simpa using y1
      have D0 := hide ((Below.refl U.heap.size U).drew)
      obtain ⟨pp, hpp⟩ : ∃ pp, Hid (nthN L k % 2 = pp) := ⟨_, rfl⟩
      have hp2 : pp = 0 ∨ pp = 1 := by have := hpp.out; omega
      have HT : Hid (0 ≤ x.t ∧ x.t ≤ 63) := ⟨by omega, by omega⟩
      clear y0 y1
      rcases Bool.eq_false_or_eq_true x.d with yd | yd
      · rcases hp2 with rfl | rfl
        · have HE : Hid (resE L = 1) := rbad HKL.out (fun h => by have := h.2.1; rw [hx.out, yd, hpp.out] at this; simp at this)
          have hrem : ((nthN L k : Nat) : Int).tmod 2 = 0 := tmod_two hpp.out
          have DD : Hid (x.d = true) := yd
          have HSS : Hid (∀ u, Hid (Below U.heap.size U u) → u.cell? ⟨g, 0, none⟩ = some (.int .i64 x.t) ∧ u.cell? ⟨g, 1, none⟩ = some (.bool true) ∧ Hid (Below U.heap.size U u)) := fun u hu => ⟨(BX.out.step hu.out).e0, (BX.out.step hu.out).e1.trans (by rw [DD.out]), hu⟩
          clear yd
          go_region_held3 (fun u => u.cell? ⟨g, 0, none⟩ = some (.int .i64 x.t) ∧ u.cell? ⟨g, 1, none⟩ = some (.bool true) ∧ Hid (Below U.heap.size U u)) (first | exact HSS.out _ D0 | exact HSS.out _ (by assumption)) ((go_at_call 27; refine (nth_any ⟨some ⟨b, off, none⟩, N, cp⟩ L k _ ((HP.out.below (HB1.out.drew) (Nat.le_refl _)).more (HB1.out.drew).size) hn hcap HKL.out).mono ?_; rintro e u1 ⟨rfl, hb1⟩; have BU := hide (D0.out.trans hb1); clear hb1))
          go_wp2
          go_ret
          exact ⟨by rw [HE.out]; rfl, HB1.out.trans (BU.out.mono HB1.out.size)⟩
        · have HP1 : Hid (x.d = decide (nthN L k % 2 = 1)) := by show _ = _; rw [yd, hpp.out]; rfl
          have hrem : ((nthN L k : Nat) : Int).tmod 2 = 1 := tmod_two hpp.out
          have DD : Hid (x.d = true) := yd
          have HSS : Hid (∀ u, Hid (Below U.heap.size U u) → u.cell? ⟨g, 0, none⟩ = some (.int .i64 x.t) ∧ u.cell? ⟨g, 1, none⟩ = some (.bool true) ∧ Hid (Below U.heap.size U u)) := fun u hu => ⟨(BX.out.step hu.out).e0, (BX.out.step hu.out).e1.trans (by rw [DD.out]), hu⟩
          clear yd
          go_region_held3 (fun u => u.cell? ⟨g, 0, none⟩ = some (.int .i64 x.t) ∧ u.cell? ⟨g, 1, none⟩ = some (.bool true) ∧ Hid (Below U.heap.size U u)) (first | exact HSS.out _ D0 | exact HSS.out _ (by assumption)) ((go_at_call 27; refine (nth_any ⟨some ⟨b, off, none⟩, N, cp⟩ L k _ ((HP.out.below (HB1.out.drew) (Nat.le_refl _)).more (HB1.out.drew).size) hn hcap HKL.out).mono ?_; rintro e u1 ⟨rfl, hb1⟩; have BU := hide (D0.out.trans hb1); clear hb1))
          have HB2 := hide (HB1.out.trans (BU.out.mono HB1.out.size))
          have BX2 := hide (BX.out.step BU.out)
          clear HSS BU D0 HB1 BX RU t0 t1 t1' hrem
          have d1 : u1.cell? ⟨g, 1, none⟩ = some (.bool true) := BX2.out.e1.trans (by rw [DD.out])
          have HS2 : Hid (∀ j, j < k + 1 → RGood L j) := fun j hj => by
            by_cases ej : j = k
            · subst ej
              unfold RGood
              rw [hx.out]
              exact ⟨HT.out, HP1.out, (fun h => by rw [DD.out] at h; cases h), (fun h => by rw [DD.out] at h; cases h)⟩
            · exact HS.out j (by omega)
          obtain ⟨r, HNX⟩ : ∃ r, Hid (nxt L k = r) := ⟨_, rfl⟩
          go_wp2_with fail
          clear d1
          refine (next_any ⟨some ⟨b, off, none⟩, N, cp⟩ L k r _ ((HP.out.below HB2.out (Nat.le_refl _)).more HB2.out.size) hn HKL.out HNX).mono ?_
          rintro e u3 ⟨rfl, hb1⟩
          have HB3 := hide (HB2.out.trans (hb1.mono HB2.out.size))
          have BX3 := hide (BX2.out.step hb1)
          clear hb1 HB2 BX2
          have c1 : u3.cell? ⟨g, 1, none⟩ = some (.bool true) := BX3.out.e1.trans (by rw [DD.out])
          go_upto_region 9 with fail
          refine wp_region_any (by kernel_rfl) ?_
          change wpAny _ _ _ _ _ _ _ (World.drew _)
          refine wpAny_ready (rs := [0]) (by kernel_rfl) (by simp) ?_
          refine AllReady.cons rfl (fun K hK => ?_) AllReady.nil
          go_simp
          refine hK _ _ ?_
          clear hK K
          refine wpAny_ready (rs := [1]) (by kernel_rfl) (by simp) ?_
          refine AllReady.cons rfl (fun K hK => ?_) AllReady.nil
          go_simp
          refine hK _ _ ?_
          clear hK K
          refine wpAny_ready (rs := [2]) (by kernel_rfl) (by simp) ?_
          refine AllReady.cons rfl (fun K hK => ?_) AllReady.nil
          go_simp
          refine hK _ _ ?_
          clear hK K
          refine wpAny_ready (rs := [3]) (by kernel_rfl) (by simp) ?_
          refine AllReady.cons rfl (fun K hK => ?_) AllReady.nil
          go_simp
          refine hK _ _ ?_
          clear hK K
          refine wpAny_take (i := 4) (v := undef) rfl (by kernel_rfl) (by kernel_rfl) (by kernel_rfl) (fun _ _ _ h => h) (Or.inr ⟨by kernel_rfl, rfl⟩) ?_
          refine wpAny_take (i := 5) (v := undef) rfl (by kernel_rfl) (by kernel_rfl) (by kernel_rfl) (fun _ _ _ h => h) (Or.inr ⟨by kernel_rfl, rfl⟩) ?_
          refine wpAny_ready (rs := [6]) (by kernel_rfl) (by simp) ?_
          refine AllReady.cons rfl (fun K hK => ?_) AllReady.nil
          go_simp
          refine hK _ _ ?_
          clear hK K
          refine wpAny_ready (rs := [7]) (by kernel_rfl) (by simp) ?_
          refine AllReady.cons rfl (fun K hK => ?_) AllReady.nil
          go_simp
          refine hK _ _ ?_
          clear hK K
          refine wpAny_take (i := 8) (v := undef) rfl (by kernel_rfl) (by kernel_rfl) (by kernel_rfl) (fun _ _ _ h => h) (Or.inr ⟨by kernel_rfl, rfl⟩) ?_
          refine wpAny_take (i := 9) (v := undef) rfl (by kernel_rfl) (by kernel_rfl) (by kernel_rfl) (fun _ _ _ h => h) (Or.inr ⟨by kernel_rfl, rfl⟩) ?_
          refine wpAny_take (i := 10) (v := undef) rfl (by kernel_rfl) (by kernel_rfl) (by kernel_rfl) (fun _ _ _ h => h) (Or.inr ⟨by kernel_rfl, rfl⟩) ?_
          refine wpAny_take (i := 11) (v := undef) rfl (by kernel_rfl) (by kernel_rfl) (by kernel_rfl) (fun _ _ _ h => h) (Or.inr ⟨by kernel_rfl, rfl⟩) ?_
          refine wpAny_take (i := 12) (v := undef) rfl (by kernel_rfl) (by kernel_rfl) (by kernel_rfl) (fun _ _ _ h => h) (Or.inr ⟨by kernel_rfl, rfl⟩) ?_
          refine wpAny_take (i := 13) (v := undef) rfl (by kernel_rfl) (by kernel_rfl) (by kernel_rfl) (fun _ _ _ h => h) (Or.inr ⟨by kernel_rfl, rfl⟩) ?_
          refine wpAny_take (i := 14) (v := undef) rfl (by kernel_rfl) (by kernel_rfl) (by kernel_rfl) (fun _ _ _ h => h) (Or.inr ⟨by kernel_rfl, rfl⟩) ?_
          refine wpAny_take (i := 15) (v := undef) rfl (by kernel_rfl) (by kernel_rfl) (by kernel_rfl) (fun _ _ _ h => h) (Or.inr ⟨by kernel_rfl, rfl⟩) ?_
          refine wpAny_ready (rs := [16]) (by kernel_rfl) (by simp) ?_
          refine AllReady.cons rfl (fun K hK => ?_) AllReady.nil
          go_simp
          refine hK _ _ ?_
          clear hK K
          refine wpAny_done (by kernel_rfl) ?_ _
          go_wp2
          go_roundw
          case rel => exact ⟨k + 1, by omega, by go_num, HS2, Below.drew HB3.out⟩
          case measure => simp [intOf]; omega
      · rcases hp2 with rfl | rfl
        case inr =>
          have HE : Hid (resE L = 1) := rbad HKL.out (fun h => by have := h.2.1; rw [hx.out, yd, hpp.out] at this; simp at this)
          have hrem : ((nthN L k : Nat) : Int).tmod 2 = 1 := tmod_two hpp.out
          have DD : Hid (x.d = false) := yd
          have HSS : Hid (∀ u, Hid (Below U.heap.size U u) → u.cell? ⟨g, 0, none⟩ = some (.int .i64 x.t) ∧ u.cell? ⟨g, 1, none⟩ = some (.bool false) ∧ Hid (Below U.heap.size U u)) := fun u hu => ⟨(BX.out.step hu.out).e0, (BX.out.step hu.out).e1.trans (by rw [DD.out]), hu⟩
          clear yd
          go_region_held3 (fun u => u.cell? ⟨g, 0, none⟩ = some (.int .i64 x.t) ∧ u.cell? ⟨g, 1, none⟩ = some (.bool false) ∧ Hid (Below U.heap.size U u)) (first | exact HSS.out _ D0 | exact HSS.out _ (by assumption)) ((go_at_call 27; refine (nth_any ⟨some ⟨b, off, none⟩, N, cp⟩ L k _ ((HP.out.below (HB1.out.drew) (Nat.le_refl _)).more (HB1.out.drew).size) hn hcap HKL.out).mono ?_; rintro e u1 ⟨rfl, hb1⟩; have BU := hide (D0.out.trans hb1); clear hb1))
          go_wp2
          go_ret
          exact ⟨by rw [HE.out]; rfl, HB1.out.trans (BU.out.mono HB1.out.size)⟩
        case inl =>
          have HP1 : Hid (x.d = decide (nthN L k % 2 = 1)) := by show _ = _; rw [yd, hpp.out]; rfl
          have hrem : ((nthN L k : Nat) : Int).tmod 2 = 0 := tmod_two hpp.out
          have DD : Hid (x.d = false) := yd
          have HSS : Hid (∀ u, Hid (Below U.heap.size U u) → u.cell? ⟨g, 0, none⟩ = some (.int .i64 x.t) ∧ u.cell? ⟨g, 1, none⟩ = some (.bool false) ∧ Hid (Below U.heap.size U u)) := fun u hu => ⟨(BX.out.step hu.out).e0, (BX.out.step hu.out).e1.trans (by rw [DD.out]), hu⟩
          clear yd
          go_region_held3 (fun u => u.cell? ⟨g, 0, none⟩ = some (.int .i64 x.t) ∧ u.cell? ⟨g, 1, none⟩ = some (.bool false) ∧ Hid (Below U.heap.size U u)) (first | exact HSS.out _ D0 | exact HSS.out _ (by assumption)) ((go_at_call 27; refine (nth_any ⟨some ⟨b, off, none⟩, N, cp⟩ L k _ ((HP.out.below (HB1.out.drew) (Nat.le_refl _)).more (HB1.out.drew).size) hn hcap HKL.out).mono ?_; rintro e u1 ⟨rfl, hb1⟩; have BU := hide (D0.out.trans hb1); clear hb1))
          have HB2 := hide (HB1.out.trans (BU.out.mono HB1.out.size))
          have BX2 := hide (BX.out.step BU.out)
          have RU2 := hide (RU.out.step BU.out)
          clear HSS BU D0 HB1 BX RU t0 t1 t1' hrem
          have d1 : u1.cell? ⟨g, 1, none⟩ = some (.bool false) := BX2.out.e1.trans (by rw [DD.out])
          have er := hide BX2.out.er
          obtain ⟨q, hq⟩ := hbool (x.r = noR)
          go_wp2_with ((with_reducible refine ld37 (.tmp 35) g 7 ?_ ?_ x.r z ?_ ?_); (exact rfl); (exact rfl); (exact er.out))
          clear d1 er
          refine (same28 x.r noR z noS3 q u1 RU2.out (RSee.nil _ _) FX.out.most FewR.nil.most hq).mono ?_
          rintro e u2 ⟨rfl, hb1⟩
          have HB2 := hide (HB2.out.trans (hb1.mono HB2.out.size))
          have BX2 := hide (BX2.out.step hb1)
          clear hb1 RU2
          cases q with
          | false =>
            have HE : Hid (resE L = 1) := rbad HKL.out (fun h => by have h3 := h.2.2.1; rw [hx.out] at h3; exact absurd (hq.out.2 (h3 DD.out)) (by simp))
            clear hq
            go_wp2
            go_ret
            exact ⟨by rw [HE.out]; rfl, HB2.out⟩
          | true =>
            have HRZ : Hid (x.r = noR) := hq.out.1 rfl
            clear hq
            obtain ⟨r, HNX⟩ : ∃ r, Hid (nxt L k = r) := ⟨_, rfl⟩
            go_wp2_with fail
            refine (next_any ⟨some ⟨b, off, none⟩, N, cp⟩ L k r _ ((HP.out.below HB2.out (Nat.le_refl _)).more HB2.out.size) hn HKL.out HNX).mono ?_
            rintro e u3 ⟨rfl, hb1⟩
            have HB3 := hide (HB2.out.trans (hb1.mono HB2.out.size))
            have BX3 := hide (BX2.out.step hb1)
            clear hb1 HB2 BX2
            have c1 : u3.cell? ⟨g, 1, none⟩ = some (.bool false) := BX3.out.e1.trans (by rw [DD.out])
            rcases nxt_cases L k with ⟨kk, e1, h1, h2, h3, h4⟩ | ⟨e1, _⟩
            · obtain rfl : r = (kk : Int) := HNX.out.symm.trans e1
              clear e1 h3 h4
              have hkk : kk < N := by have := hl.out; omega
              obtain ⟨b', off', zy, e, _, LY0, _⟩ := (HP.out.below HB3.out (Nat.le_refl _)).at_ hkk
              dsimp only at e
              simp only [Option.some.injEq, Addr.mk.injEq, and_true] at e
              obtain ⟨x1, x2⟩ := e
              subst x1 x2
              obtain ⟨y, hy⟩ : ∃ y, Hid (L.getD kk noEv = y) := ⟨_, rfl⟩
              rw [hy.out] at LY0
              have LY := hide LY0
              clear LY0
              have j1 : (0 : Int) ≤ (kk : Int) := by omega
              have j2 : (kk : Int) < (N : Int) := by omega
              have r0 : u3.cell? ⟨b, off + kk * 12 + 2, none⟩ = some (.int .i64 y.o.k) := LY.out.eo.at_ 0 rfl
              have r1 : u3.cell? ⟨b, off + kk * 12 + 3, none⟩ = some (.int .i64 y.o.a) := LY.out.eo.at_ 1 rfl
              have r2 : u3.cell? ⟨b, off + kk * 12 + 4, none⟩ = some (.int .i64 y.o.b) := LY.out.eo.at_ 2 rfl
              have r3 : u3.cell? ⟨b, off + kk * 12 + 5, none⟩ = some (.int .i64 y.o.q) := LY.out.eo.at_ 3 rfl
              have r4 : u3.cell? ⟨b, off + kk * 12 + 6, none⟩ = some (.int .i64 y.o.v) := LY.out.eo.at_ 4 rfl
              have b0 : u3.cell? ⟨g, 2, none⟩ = some (.int .i64 x.o.k) := BX3.out.cells 2
              have b1 : u3.cell? ⟨g, 3, none⟩ = some (.int .i64 x.o.a) := BX3.out.cells 3
              have b2 : u3.cell? ⟨g, 4, none⟩ = some (.int .i64 x.o.b) := BX3.out.cells 4
              have b3 : u3.cell? ⟨g, 5, none⟩ = some (.int .i64 x.o.q) := BX3.out.cells 5
              have b4 : u3.cell? ⟨g, 6, none⟩ = some (.int .i64 x.o.v) := BX3.out.cells 6
              by_cases ho : y.o = x.o
              · have he := op_eq y.o x.o ho
                have HS2 : Hid (∀ j, j < k + 1 → RGood L j) := fun j hj => by
                  by_cases ej : j = k
                  · subst ej
                    unfold RGood
                    rw [hx.out]
                    exact ⟨HT.out, HP1.out, fun _ => HRZ.out, fun _ _ => by rw [HNX.out, Int.toNat_natCast, hy.out]; exact ho⟩
                  · exact HS.out j (by omega)
                clear ho h1 h2
                go_upto_region 9 with fail
                go_quiet (fail)
                go_wp2
                go_roundw
                case rel => exact ⟨k + 1, by omega, by go_num, HS2, Below.drewN HB3.out _⟩
                case measure => simp [intOf]; omega
              · have he := op_ne y.o x.o ho
                have HE : Hid (resE L = 1) := rbad HKL.out (fun h => by
                  have h5 := h.2.2.2
                  rw [hx.out, HNX.out, Int.toNat_natCast, hy.out] at h5
                  exact ho (h5 DD.out (by omega)))
                clear ho h1 h2
                go_upto_region 9 with fail
                go_quiet (fail)
                go_wp2
                go_ret
                exact ⟨by rw [HE.out]; rfl, Below.drewN HB3.out _⟩
            · obtain rfl : r = -1 := HNX.out.symm.trans e1
              clear e1
              have HS2 : Hid (∀ j, j < k + 1 → RGood L j) := fun j hj => by
                by_cases ej : j = k
                · subst ej
                  unfold RGood
                  rw [hx.out, HNX.out]
                  exact ⟨HT.out, HP1.out, fun _ => HRZ.out, fun _ h => by omega⟩
                · exact HS.out j (by omega)
              go_upto_region 9 with fail
              refine wp_region_any (by kernel_rfl) ?_
              change wpAny _ _ _ _ _ _ _ (World.drew _)
              refine wpAny_ready (rs := [0]) (by kernel_rfl) (by simp) ?_
              refine AllReady.cons rfl (fun K hK => ?_) AllReady.nil
              go_simp
              refine hK _ _ ?_
              clear hK K
              refine wpAny_ready (rs := [1]) (by kernel_rfl) (by simp) ?_
              refine AllReady.cons rfl (fun K hK => ?_) AllReady.nil
              go_simp
              refine hK _ _ ?_
              clear hK K
              refine wpAny_ready (rs := [2]) (by kernel_rfl) (by simp) ?_
              refine AllReady.cons rfl (fun K hK => ?_) AllReady.nil
              go_simp
              refine hK _ _ ?_
              clear hK K
              refine wpAny_ready (rs := [3]) (by kernel_rfl) (by simp) ?_
              refine AllReady.cons rfl (fun K hK => ?_) AllReady.nil
              go_simp
              refine hK _ _ ?_
              clear hK K
              refine wpAny_ready (rs := [4]) (by kernel_rfl) (by simp) ?_
              refine AllReady.cons rfl (fun K hK => ?_) AllReady.nil
              go_simp
              refine hK _ _ ?_
              clear hK K
              refine wpAny_ready (rs := [5]) (by kernel_rfl) (by simp) ?_
              refine AllReady.cons rfl (fun K hK => ?_) AllReady.nil
              go_simp
              refine hK _ _ ?_
              clear hK K
              refine wpAny_ready (rs := [6]) (by kernel_rfl) (by simp) ?_
              refine AllReady.cons rfl (fun K hK => ?_) AllReady.nil
              go_simp
              refine hK _ _ ?_
              clear hK K
              refine wpAny_ready (rs := [7]) (by kernel_rfl) (by simp) ?_
              refine AllReady.cons rfl (fun K hK => ?_) AllReady.nil
              go_simp
              refine hK _ _ ?_
              clear hK K
              refine wpAny_take (i := 8) (v := undef) rfl (by kernel_rfl) (by kernel_rfl) (by kernel_rfl) (fun _ _ _ h => h) (Or.inr ⟨by kernel_rfl, rfl⟩) ?_
              refine wpAny_take (i := 9) (v := undef) rfl (by kernel_rfl) (by kernel_rfl) (by kernel_rfl) (fun _ _ _ h => h) (Or.inr ⟨by kernel_rfl, rfl⟩) ?_
              refine wpAny_take (i := 10) (v := undef) rfl (by kernel_rfl) (by kernel_rfl) (by kernel_rfl) (fun _ _ _ h => h) (Or.inr ⟨by kernel_rfl, rfl⟩) ?_
              refine wpAny_take (i := 11) (v := undef) rfl (by kernel_rfl) (by kernel_rfl) (by kernel_rfl) (fun _ _ _ h => h) (Or.inr ⟨by kernel_rfl, rfl⟩) ?_
              refine wpAny_take (i := 12) (v := undef) rfl (by kernel_rfl) (by kernel_rfl) (by kernel_rfl) (fun _ _ _ h => h) (Or.inr ⟨by kernel_rfl, rfl⟩) ?_
              refine wpAny_take (i := 13) (v := undef) rfl (by kernel_rfl) (by kernel_rfl) (by kernel_rfl) (fun _ _ _ h => h) (Or.inr ⟨by kernel_rfl, rfl⟩) ?_
              refine wpAny_take (i := 14) (v := undef) rfl (by kernel_rfl) (by kernel_rfl) (by kernel_rfl) (fun _ _ _ h => h) (Or.inr ⟨by kernel_rfl, rfl⟩) ?_
              refine wpAny_take (i := 15) (v := undef) rfl (by kernel_rfl) (by kernel_rfl) (by kernel_rfl) (fun _ _ _ h => h) (Or.inr ⟨by kernel_rfl, rfl⟩) ?_
              refine wpAny_ready (rs := [16]) (by kernel_rfl) (by simp) ?_
              refine AllReady.cons rfl (fun K hK => ?_) AllReady.nil
              go_simp
              refine hK _ _ ?_
              clear hK K
              refine wpAny_done (by kernel_rfl) ?_ _
              go_wp2
              go_roundw
              case rel => exact ⟨k + 1, by omega, by go_num, HS2, Below.drew HB3.out⟩
              case measure => simp [intOf]; omega
    · obtain rfl : N = k := by omega
      have HE : Hid (resE L = 0) := resE_yes ((rmay_iff L).1 fun i hi => HS.out i (by have := hl.out; omega))
      go_wp2
      go_ret
      exact ⟨by rw [HE.out]; rfl, HB.out⟩

end Go.Proofs.Ytfefkdedgceomaa
