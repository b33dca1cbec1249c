/- A history's calls: the code. Conditions: not many events, lists that are not great. -/
import Derived.Test.YtfefkdedgceomaaWCalls
import Derived.Test.YtfefkdedgceomaaWFr
import Derived.WalkKit
import Derived.Below
import Derived.Deep.QuietTactic
import Derived.BigQuiet
import Derived.Deep.AppendLies
import Derived.Deep.RegionHeld3
import Derived.Deep.DeepCutAuto
import Derived.Shelf.Abstract
import Derived.Laws.Rows
namespace Go.Proofs.Ytfefkdedgceomaa
open Go.RowKit Go.Maps
set_option linter.unusedVariables false
set_option maxRecDepth 100000

set_option maxHeartbeats 8000000 in
theorem calls_any (sl : Sl) (L : List Ev) (w : World) (p : Evs w w.heap.size sl L) (hn : sl.n ≤ 1000) (F : ∀ i, i < L.length → FewR (L.getD i noEv).r) (hw : ∀ i, i < L.length → (Lit.int .i64 (L.getD i noEv).t).wf = true) :
    Calls Try.prog 11 #[.slice sl.A sl.n sl.c] w fun e w' => ∃ v Z, e = .returned (.tuple #[.slice v.A v.n v.c, .int .i64 (resE L)]) ∧ Hid (Own w' w.heap.size v Z) ∧ Hid (Z.map (·.1) = resC L) ∧ Hid (Below w.heap.size w w') := by
  obtain ⟨i0, hi0, hz0, hz1, hz2⟩ := info_parts info39
  have H1 := hide hi0
  have H2 := hide hz0
  have H3 := hide hz1
  have H4 := hide hz2
  clear hi0 hz0 hz1 hz2
  obtain ⟨A0, N, cp⟩ := sl
  have HP := hide p
  have hl : Hid (L.length = N) := p.1
  have HF := hide F
  have HW := hide hw
  dsimp only at hn ⊢
  clear p F hw
  have hmm := @run_makeMap Try.prog
  go_enter Try.func11, Try.ntmps11
  go_wp2
  go_loopw [4, 13] (fun v i wr => ∃ (k n c m : Nat) (A : Option Addr) (Z : List CZ) (D : DataW Unit), k ≤ N ∧ i = .int .i64 k ∧ v = .slice A n c ∧ Hid (St w wr L k ⟨A, n, c⟩ Z D m)) (fun _ i _ => N - (intOf i).toNat)
  case atStart => exact ⟨0, 0, 0, 0, none, [], .map [], by omega, rfl, rfl, St.start w L⟩
  case round =>
    obtain ⟨k, n, c, m, A, Z, D, hk, rfl, rfl, S⟩ := hrel
    clear hmm
    by_cases hlt : k < N
    · have HKL : Hid (k < L.length) := by have := hl.out; show _ < _; omega
      obtain ⟨b, off, z, e, hb, LI0, RS0⟩ := (HP.out.below S.out.bel (Nat.le_refl _)).at_ hlt
      dsimp only at e
      subst e
      obtain ⟨x, hx⟩ : ∃ x, Hid (L.getD k noEv = x) := ⟨_, rfl⟩
      have FX : Hid (FewR x.r) := by have := HF.out k HKL.out; rw [hx.out] at this; exact this
      have WX : Hid ((Lit.int .i64 x.t).wf = true) := by have := HW.out k HKL.out; rw [hx.out] at this; exact this
      have HK : Hid (keyOf Try.prog 3 (.int .i64 x.t) = some (key x.t)) := keyOf_int_mk Try.underlying3 WX.out
      rw [hx.out] at LI0 RS0
      have LI := hide LI0
      have MD := hide (made wr zero45 (ec x z) 45)
      have RU := hide ((RS0.below MD.out.2 S.out.bel.size).more (Nat.le_trans S.out.bel.size MD.out.2.size))
      have SU := hide (S.out.step MD.out.2)
      have BX := hide MD.out.1
      clear LI0 RS0
      have hnk : n ≤ k := by have h1 := S.out.many; have h2 := calls_le L k; dsimp only at h1; omega
      have e0 : ((wr.alloc (.cells zero45 45)).setRow wr.heap.size (ec x z)).cell? ⟨wr.heap.size, 0, none⟩ = some (.int .i64 x.t) := BX.out.e0
      by_cases ho : ∃ i, Open (calls (L.take k)) x.t i
      · obtain ⟨i1, ho⟩ := ho
        have HO := hide ho
        clear ho
        have hyes := SU.out.is.yes x.t i1 HO.out
        have HYES := hide hyes
        clear hyes
        have hZ : Hid (i1 < Z.length) := by have h1 := S.out.many; have h2 := S.out.own.many; have h3 := HO.out.1; dsimp only at h1 h2; show _ < _; omega
        have hin : i1 < n := by have h2 := S.out.own.many; have := hZ.out; dsimp only at h2; omega
        obtain ⟨g, eA, hg0, hg1, LR0⟩ := SU.out.own.at_ hZ.out
        dsimp only at eA
        subst eA
        obtain ⟨c0, z0, hcz⟩ : ∃ c0 z0, Hid (Z.getD i1 noCZ = (c0, z0)) := ⟨_, _, rfl⟩
        rw [hcz.out] at LR0
        have LR1 := hide LR0
        have HG0 := hide hg0
        have HGU1 := hide hg1
        clear LR0 hg0 hg1
        have HC0 : Hid ((calls (L.take k)).getD i1 noCl = c0) := by
          show _ = _
          rw [← SU.out.eq, getD_map Z i1 hZ.out, hcz.out]
        obtain ⟨q, hq⟩ := hbool (x.d = true ∧ x.o = c0.o)
        go_upto_region 11 with (first | ((with_reducible refine ld45 (.tmp 16) b (off + k * 12) ?_ ?_ x z ?_ ?_); (exact rfl); (exact rfl); (exact LI.out)) | ((with_reducible refine st45 (.tmp 7) (.tmp 17) wr.heap.size ?_ x z ?_ zero45 ?_ rfl ?_); (exact rfl); (exact rfl); (exact Bx.new wr zero45 45)) | (at_lookup; refine look_yes rfl _ _ rfl w.heap.size m i1 D rfl SU.out.map x.t rfl HK.out HYES.out ?_))
        obtain ⟨U, hU⟩ : ∃ U, Hid ((wr.alloc (.cells zero45 45)).setRow wr.heap.size (ec x z) = U) := ⟨_, rfl⟩
        have hU' := hU.out
        rw [hU'] at e0 ⊢
        rw [hU'] at SU BX RU LR1 HGU1
        clear hU hU' MD LI
        have HGU : Hid (g < U.heap.size) := HGU1
        have LR : Hid (Lies U g (i1 * 13) (cc c0 z0)) := LR1
        have j0 : (0 : Int) ≤ (i1 : Int) := by omega
        have j1 : (i1 : Int) < (n : Int) := by omega
        have HS : Hid (∀ u, Hid (Below U.heap.size U u) → (∀ i, u.cell? ⟨wr.heap.size, i, none⟩ = (#[.int .i64 x.t, .bool x.d, .int .i64 x.o.k, .int .i64 x.o.a, .int .i64 x.o.b, .int .i64 x.o.q, .int .i64 x.o.v, .int .i64 x.r.er, .int .i64 x.r.id, .slice z.P.A z.P.n z.P.c, .slice z.O.A z.O.n z.O.c, .slice z.I.A z.I.n z.I.c] : Array Value)[i]?) ∧ u.cell? ⟨g, i1 * 13, none⟩ = some (.int .i64 c0.t) ∧ u.cell? ⟨g, i1 * 13 + 1, none⟩ = some (.int .i64 c0.o.k) ∧ u.cell? ⟨g, i1 * 13 + 2, none⟩ = some (.int .i64 c0.o.a) ∧ u.cell? ⟨g, i1 * 13 + 3, none⟩ = some (.int .i64 c0.o.b) ∧ u.cell? ⟨g, i1 * 13 + 4, none⟩ = some (.int .i64 c0.o.q) ∧ u.cell? ⟨g, i1 * 13 + 5, none⟩ = some (.int .i64 c0.o.v) ∧ u.cell? ⟨g, i1 * 13 + 6, none⟩ = some (.int .i64 c0.f) ∧ u.cell? ⟨g, i1 * 13 + 7, none⟩ = some (.int .i64 c0.e) ∧ u.cell? ⟨g, i1 * 13 + 8, none⟩ = some (.int .i64 c0.r.er) ∧ u.cell? ⟨g, i1 * 13 + 9, none⟩ = some (.int .i64 c0.r.id) ∧ u.cell? ⟨g, i1 * 13 + 10, none⟩ = some (.slice z0.P.A z0.P.n z0.P.c) ∧ u.cell? ⟨g, i1 * 13 + 11, none⟩ = some (.slice z0.O.A z0.O.n z0.O.c) ∧ u.cell? ⟨g, i1 * 13 + 12, none⟩ = some (.slice z0.I.A z0.I.n z0.I.c) ∧ Hid (Below U.heap.size U u)) := fun u hu => ⟨fun i => (BX.out.step hu.out).cells i, (LR.out.below hu.out HGU.out).at_ 0 rfl, (LR.out.below hu.out HGU.out).at_ 1 rfl, (LR.out.below hu.out HGU.out).at_ 2 rfl, (LR.out.below hu.out HGU.out).at_ 3 rfl, (LR.out.below hu.out HGU.out).at_ 4 rfl, (LR.out.below hu.out HGU.out).at_ 5 rfl, (LR.out.below hu.out HGU.out).at_ 6 rfl, (LR.out.below hu.out HGU.out).at_ 7 rfl, (LR.out.below hu.out HGU.out).at_ 8 rfl, (LR.out.below hu.out HGU.out).at_ 9 rfl, (LR.out.below hu.out HGU.out).at_ 10 rfl, (LR.out.below hu.out HGU.out).at_ 11 rfl, (LR.out.below hu.out HGU.out).at_ 12 rfl, hu⟩
        have D0 := hide ((Below.refl U.heap.size U).drew)
        go_region_held3 (fun u => (∀ i, u.cell? ⟨wr.heap.size, i, none⟩ = (#[.int .i64 x.t, .bool x.d, .int .i64 x.o.k, .int .i64 x.o.a, .int .i64 x.o.b, .int .i64 x.o.q, .int .i64 x.o.v, .int .i64 x.r.er, .int .i64 x.r.id, .slice z.P.A z.P.n z.P.c, .slice z.O.A z.O.n z.O.c, .slice z.I.A z.I.n z.I.c] : Array Value)[i]?) ∧ u.cell? ⟨g, i1 * 13, none⟩ = some (.int .i64 c0.t) ∧ u.cell? ⟨g, i1 * 13 + 1, none⟩ = some (.int .i64 c0.o.k) ∧ u.cell? ⟨g, i1 * 13 + 2, none⟩ = some (.int .i64 c0.o.a) ∧ u.cell? ⟨g, i1 * 13 + 3, none⟩ = some (.int .i64 c0.o.b) ∧ u.cell? ⟨g, i1 * 13 + 4, none⟩ = some (.int .i64 c0.o.q) ∧ u.cell? ⟨g, i1 * 13 + 5, none⟩ = some (.int .i64 c0.o.v) ∧ u.cell? ⟨g, i1 * 13 + 6, none⟩ = some (.int .i64 c0.f) ∧ u.cell? ⟨g, i1 * 13 + 7, none⟩ = some (.int .i64 c0.e) ∧ u.cell? ⟨g, i1 * 13 + 8, none⟩ = some (.int .i64 c0.r.er) ∧ u.cell? ⟨g, i1 * 13 + 9, none⟩ = some (.int .i64 c0.r.id) ∧ u.cell? ⟨g, i1 * 13 + 10, none⟩ = some (.slice z0.P.A z0.P.n z0.P.c) ∧ u.cell? ⟨g, i1 * 13 + 11, none⟩ = some (.slice z0.O.A z0.O.n z0.O.c) ∧ u.cell? ⟨g, i1 * 13 + 12, none⟩ = some (.slice z0.I.A z0.I.n z0.I.c) ∧ Hid (Below U.heap.size U u)) (first | exact HS.out _ D0 | exact HS.out _ (by assumption)) ((go_at_call 24; refine (mayEnd_any x c0 z z0 q _ hq).mono ?_; rintro e u1 ⟨rfl, hb1⟩; have BU := hide (D0.out.trans hb1); clear hb1))
        have S1 := hide (SU.out.step BU.out)
        have B1 := hide (BX.out.step BU.out)
        have R1 := hide (RU.out.step BU.out)
        clear HS SU BX RU e0 LR D0 HGU LR1 HGU1
        cases q with
        | true =>
          have GD : Hid (Good x (calls (L.take k))) := .inr ⟨i1, HO.out, (hq.out.1 rfl).1, by rw [HC0.out]; exact (hq.out.1 rfl).2⟩
          have HD : Hid (x.d = true) := (hq.out.1 rfl).1
          clear hq
          have f0 : u1.cell? ⟨wr.heap.size, 0, none⟩ = some (.int .i64 x.t) := B1.out.e0
          have HWL : Hid (w.heap.size < wr.heap.size) := S.out.map.lt
          go_wp2_with (first | (at_delete; refine wpList_delete_own _ rfl _ _ 47 3 rfl 3 law3 Try.underlying47 _ w.heap.size m D rfl S1.out.map _ _ rfl HK.out ?_; intro w1 hown1 hturn1; have HM1 := hide hown1; have HG1 := hide hturn1.grown; have BM := hide (B1.out.grownB HG1.out (fun j hj => by cases hj; have := HWL.out; omega)); have RM := hide (R1.out.grown HG1.out (fun j hj => by cases hj; exact hasR_no R1.out (map_cells S1.out.map))); have er := hide (BM.out.er); clear hown1 hturn1 f0) | ((with_reducible refine ld37 (.tmp 64) wr.heap.size 7 ?_ ?_ x.r z ?_ ?_); (exact rfl); (exact rfl); (exact er.out)))
          refine (fresh_any x.r z w1 RM.out FX.out).mono ?_
          rintro e u2 ⟨z2, rfl, R2, N2, hb2⟩
          have O1 := hide (S1.out.own.map HG1.out (map_block S1.out.map))
          have O2 := hide (O1.out.step hb2.out)
          have y7 : u2.cell? ⟨g, i1 * 13 + 7, none⟩ = some (.int .i64 c0.e) := by
            obtain ⟨g', eA, _, _, LR⟩ := O2.out.at_ hZ.out
            simp only [Option.some.injEq, Addr.mk.injEq, and_true] at eA
            subst eA
            rw [hcz.out] at LR
            exact LR.c7
          have y8 : u2.frozen? ⟨g, i1 * 13 + 7, none⟩ = false := O2.out.rows.frozenAt _
          have OS := hide ((O2.out.rows.stored (i1 * 13 + 7) (.int .i64 k)).1)
          go_wp2_with ((with_reducible refine st37r (.tmp 70) (.tmp 66) (w.heap.size + 1) g (i1 * 13 + 8) n c _ ?_ x.r z2 ?_ OS.out ?_ ?_); (exact rfl); (exact rfl); (omega))
          have S2 := hide (St.done HKL.out hx.out S1.out HO.out GD.out HD.out HM1.out HG1.out hb2.out R2.out N2.out)
          go_roundw
          case rel => exact ⟨k + 1, n, _, _, _, _, _, by omega, by go_num, rfl, S2⟩
          case measure => simp [intOf]; omega
        | false =>
          have NM : Hid (¬ May L) := not_may HKL.out (by
            rw [hx.out]
            rintro (⟨h, _⟩ | ⟨i, h, h2, h3⟩)
            · exact h i1 HO.out
            · obtain rfl := one_open S.out.may h HO.out
              rw [HC0.out] at h3
              exact absurd (hq.out.2 ⟨h2, h3⟩) (by simp))
          clear hq
          go_wp2
          exact bodyPost_ret (results_tmp2 rfl _ _ _) rfl ⟨noSl, [], by rw [resE_no NM.out]; rfl, Own.nil _ _, by show _ = _; rw [resC_no NM.out]; rfl, S1.out.bel⟩
      · have HO : Hid (∀ i, ¬ Open (calls (L.take k)) x.t i) := fun i h => ho ⟨i, h⟩
        clear ho
        have hno := SU.out.is.no x.t HO.out
        have HNO := hide hno
        clear hno
        obtain ⟨q, hq⟩ := hbool (0 ≤ x.t ∧ x.t < 64 ∧ x.d = false ∧ x.r = noR)
        go_wp2_with (first | ((with_reducible refine ld45 (.tmp 16) b (off + k * 12) ?_ ?_ x z ?_ ?_); (exact rfl); (exact rfl); (exact LI.out)) | ((with_reducible refine st45 (.tmp 7) (.tmp 17) wr.heap.size ?_ x z ?_ zero45 ?_ rfl ?_); (exact rfl); (exact rfl); (exact Bx.new wr zero45 45)) | (at_lookup; refine look_no rfl _ _ rfl w.heap.size m D rfl SU.out.map x.t rfl HK.out HNO.out ?_; intro c1) | ((with_reducible refine ld45 (.tmp 7) wr.heap.size 0 ?_ ?_ x z ?_ ?_); (exact rfl); (exact rfl); (exact BX.out.lies)))
        obtain ⟨U, hU⟩ : ∃ U, Hid ((wr.alloc (.cells zero45 45)).setRow wr.heap.size (ec x z) = U) := ⟨_, rfl⟩
        have hU' := hU.out
        rw [hU'] at e0 ⊢
        rw [hU'] at SU BX RU
        clear hU hU' MD LI
        refine (mayBegin_any x z q U RU.out FX.out hq).mono ?_
        rintro e u1 ⟨rfl, hb1⟩
        have S1 := hide (SU.out.step hb1)
        have B1 := hide (BX.out.step hb1)
        clear hb1 SU BX RU e0
        cases q with
        | true =>
          have GD : Hid (Good x (calls (L.take k))) := .inl ⟨HO.out, hq.out.1 rfl⟩
          have HD : Hid (x.d = false) := (hq.out.1 rfl).2.2.1
          clear hq
          have f0 : u1.cell? ⟨wr.heap.size, 0, none⟩ = some (.int .i64 x.t) := B1.out.e0
          have HVAL : Hid (plainElem (H := Unit) Try.prog 3 (.int .i64 (n : Int)) = some (num (n : Int), [])) := plainElem_int Try.underlying3 (small_wf (by omega))
          have HWL : Hid (w.heap.size < wr.heap.size) := S.out.map.lt
          go_wp2_with (first | (at_mapUpdate; refine wpList_mapUpdate_own _ rfl _ _ _ 47 rfl 3 3 law3 Try.underlying47 _ w.heap.size m D rfl S1.out.map (by have := S1.out.cnt; unfold maxLen; omega) _ _ _ rfl rfl HK.out _ [] HVAL.out ?_; intro w1 hown1 hgrow1; have BM := hide (B1.out.grownB hgrow1 (fun j hj => by cases hj; have := HWL.out; omega)); have g0 : w1.cell? ⟨wr.heap.size, 0, none⟩ = some (.int .i64 x.t) := BM.out.e0; have go := hide (BM.out.eo); have OM := hide (S1.out.own.map hgrow1 (map_block S1.out.map)); have HM1 := hide hown1; have HG1 := hide hgrow1; clear hown1 hgrow1 BM f0) | ((with_reducible refine ld33l (.tmp 40) wr.heap.size 2 ?_ ?_ x.o ?_ ?_); (exact rfl); (exact rfl); (exact go.out)) | (at_builtin; refine wpList_append_lies _ rfl _ _ 25 rfl (w.heap.size + 1) 39 i0 (.agg zero39) 13 152 Try.underlying25 H1.out H2.out H3.out H4.out rfl (by decide) (.slice A n c) n _ rfl (OM.out.rows.alloc _) ⟨w1.heap.size, 0, none⟩ 1 1 (cc (new x k) noS3).toList rfl rfl (cells_new _ _ _ _ rfl) (list_one (cc_one _ _)) (by decide) (by simp only [maxLen]; omega) (by omega) (by have := S1.out.map.lt; have := HG1.out.size; simp; omega) _ rfl ?_; intro g1 q1 w2 hown hg2 hat hlt2; have S2 := hide (St.begin HKL.out hx.out S1.out HO.out GD.out HD.out HM1.out HG1.out hown hg2 hat (by simp) (by simp)); clear hown hg2 hat hlt2))
          go_roundw
          case rel => exact ⟨k + 1, n + 1, _, _, _, _, _, by omega, by go_num, rfl, S2⟩
          case measure => simp [intOf]; omega
        | false =>
          have NM : Hid (¬ May L) := not_may HKL.out (by
            rw [hx.out]
            rintro (⟨_, h⟩ | ⟨i, h, _⟩)
            · exact absurd (hq.out.2 h) (by simp)
            · exact HO.out i h)
          clear hq
          go_wp2_with fail
          first | (go_region_with (fail)) | fail
          all_goals go_wp2
          all_goals exact bodyPost_ret (results_tmp2 rfl _ _ _) rfl ⟨noSl, [], by rw [resE_no NM.out]; rfl, Own.nil _ _, by show _ = _; rw [resC_no NM.out]; rfl, S1.out.bel.drew⟩
    · obtain rfl : N = k := by omega
      have ML : Hid (May L) := by have := S.out.may; rwa [List.take_of_length_le (by rw [hl.out]; omega)] at this
      have EQ : Hid (Z.map (·.1) = resC L) := by
        show _ = _
        have := S.out.eq
        rw [List.take_of_length_le (by rw [hl.out]; omega)] at this
        rw [this, resC_yes ML.out]
      go_wp2
      exact bodyPost_ret (results_tmp2 rfl _ _ _) rfl ⟨⟨A, n, c⟩, Z, by rw [resE_yes ML.out]; rfl, S.out.own.less (by omega), EQ.out, S.out.bel⟩

end Go.Proofs.Ytfefkdedgceomaa
