/- What Retire tells, of any pool that is not great: the code's and the document's. -/
import Derived.Test.YtfdbbfjnianahaaWalksT
namespace Go.Proofs.Ytfdbbfjnianahaa
open Go.RowKit
set_option linter.unusedVariables false

theorem unpack_is (r : Int) (X : Nat) (g : Int) (w : World) (h1 : 1 ≤ r) (h2 : r ≤ 1125899906842624) (hX : Hid ((r - 1) % 1024 = (X : Int))) (hg : Hid ((r - 1) / 1024 = g)) :
    Calls Try.prog 25 #[.int .i64 r] w fun e w' => e = .returned (.tuple #[.int .i64 (X : Int), .int .i64 g, .int .i64 0]) ∧ w = w' := by
  have h := unpack_ok r w h1 h2
  rwa [hX.out, hg.out] at h
theorem runpack_is (r : Int) (X : Nat) (g : Int) (w : World) (h1 : 1 ≤ r) (h2 : r ≤ 1125899906842624) (hX : Hid ((r - 1) % 1024 = (X : Int))) (hg : Hid ((r - 1) / 1024 = g)) :
    Calls Try.prog 34 #[.int .i64 r] w fun e w' => e = .returned (.tuple #[.int .i64 (X : Int), .int .i64 g, .int .i64 0]) ∧ w = w' := by
  have h := runpack_ok r w h1 h2
  rwa [hX.out, hg.out] at h

set_option maxHeartbeats 4000000 in
theorem retire_any (p : Pl) (P : PL) (B : Nat) (b : Bool) (r z : Int) (w : World) (hr : Reads w B p P) (hB : B ≤ w.heap.size) (hm : Small p) (hb : Hid (b = true ↔ MayBe P)) :
    Calls Try.prog 21 #[p.val, .int .i64 r, .int .i64 z] w (Tell2 w (retQ b P r z) (retE b P r)) := by
  obtain ⟨A0, A1, A2, A3, n0, n1, n2, n3, c0, c1, c2, c3⟩ := p
  obtain ⟨G, S, W, F⟩ := P
  have HM := hide hm
  obtain ⟨m0, m1, m2, m3⟩ := hm
  dsimp only at m0 m1 m2 m3
  have T0 := hide (Two.first w (C4 A0 A1 A2 A3 n0 n1 n2 n3 c0 c1 c2 c3))
  have R0 := hide (hr.below T0.out.1 hB)
  have HR := hide hr
  have lg := hide (show G.length = n0 by have := hr.g.1; simpa using this)
  have ls := hide (show S.length = n1 by have := hr.s.1; simpa using this)
  have lt := hide (show W.length = n2 by have := hr.t.1; simpa using this)
  clear hr
  go_enter Try.func21, Try.ntmps21
  go_wp2_with fail
  refine (mayBe_any ⟨A0, A1, A2, A3, n0, n1, n2, n3, c0, c1, c2, c3⟩ ⟨G, S, W, F⟩ B b _ R0.out (Nat.le_trans hB T0.out.1.size) HM.out hb).mono ?_
  rintro e u1 ⟨rfl, hu1⟩
  have T1 := hide (T0.out.step hu1)
  clear hu1 T0 R0
  have hc := T1.out.2.1.cells
  have hl := T1.out.2.1.lt
  cases b with
  | false =>
    clear hc hl
    have HE : Hid (retE false ⟨G, S, W, F⟩ r = 1) := by simp [Hid, retE]
    have HQ : Hid (retQ false ⟨G, S, W, F⟩ r z = noP) := by simp only [Hid, retQ, HE.out]; simp
    obtain ⟨y0, f0, y1, f1, y2, f2, y3, f3⟩ := zero_cells T1.out.2.2
    go_wp2
    refine bodyPost_ret (results_row_tmp rfl _ _ (w.heap.size + 1) 24 _ (0, 0) _ rfl (set4_heap T1.out.2.2 _ _ _ _) Try.underlying24 rfl Try.size24) rfl ⟨noPl, by rw [HE.out]; rfl, by rw [HQ.out]; exact told_none _ _, set4_below T1.out.1 (by omega) _ _ _ _⟩
  | true =>
    have MB := may_of hb rfl
    obtain ⟨k1, k2, k3, k4, k5, k6⟩ := MB
    dsimp only at k1 k2 k3 k4
    have hn01 : n1 = n0 := by have := lg.out; have := ls.out; omega
    have hn02 : n2 = n0 := by have := lg.out; have := lt.out; omega
    have hn64 : n0 ≤ 64 := by have := lg.out; omega
    subst hn01
    subst hn02
    clear k1 k2 k3 k4 k5 k6
    obtain ⟨n0, rfl⟩ : ∃ n0, n0 = n2 := ⟨_, rfl⟩
    by_cases hr1 : r < 1 ∨ 1125899906842624 < r
    · have HE : Hid (retE true ⟨G, S, W, F⟩ r = 1) := by
        simp only [Hid, retE]
        rw [if_pos (by omega)]
      have HQ : Hid (retQ true ⟨G, S, W, F⟩ r z = noP) := by simp only [Hid, retQ, HE.out]; simp
      have HR1 := hide hr1
      clear hr1
      go_wp2_with fail
      refine (unpack_no _ _ HR1.out).mono ?_
      rintro e w' ⟨rfl, rfl⟩
      clear hc hl
      obtain ⟨y0, f0, y1, f1, y2, f2, y3, f3⟩ := zero_cells T1.out.2.2
      go_wp2
      refine bodyPost_ret (results_row_tmp rfl _ _ (w.heap.size + 1) 24 _ (0, 0) _ rfl (set4_heap T1.out.2.2 _ _ _ _) Try.underlying24 rfl Try.size24) rfl ⟨noPl, by rw [HE.out]; rfl, by rw [HQ.out]; exact told_none _ _, set4_below T1.out.1 (by omega) _ _ _ _⟩
    · obtain ⟨X, hX⟩ : ∃ X : Nat, (r - 1) % 1024 = (X : Int) := ⟨((r - 1) % 1024).toNat, by omega⟩
      obtain ⟨gn, hgn⟩ : ∃ gn : Int, (r - 1) / 1024 = gn := ⟨_, rfl⟩
      have HX := hide hX
      have HGN := hide hgn
      have hr2 : 1 ≤ r := by omega
      have hr3 : r ≤ 1125899906842624 := by omega
      clear hr1 hX hgn
      go_wp2_with fail
      refine (unpack_is _ X gn _ hr2 hr3 HX HGN).mono ?_
      rintro e w' ⟨rfl, rfl⟩
      by_cases hge : n0 ≤ X
      · have HE : Hid (retE true ⟨G, S, W, F⟩ r = 1) := by
          simp only [Hid, retE]
          rw [if_pos (by rw [HX.out, lg.out]; omega)]
        have HQ : Hid (retQ true ⟨G, S, W, F⟩ r z = noP) := by simp only [Hid, retQ, HE.out]; simp
        go_wp2_with fail
        refine (isSlot_no _ _ _ _ _ _ _ _ _ _ _ _ _ _ (by omega) (by omega)).mono ?_
        rintro e u2 ⟨rfl, hu2⟩
        replace T1 := hide (T1.out.step hu2)
        clear hc hl hu2
        obtain ⟨y0, f0, y1, f1, y2, f2, y3, f3⟩ := zero_cells T1.out.2.2
        go_wp2
        refine bodyPost_ret (results_row_tmp rfl _ _ (w.heap.size + 1) 24 _ (0, 0) _ rfl (set4_heap T1.out.2.2 _ _ _ _) Try.underlying24 rfl Try.size24) rfl ⟨noPl, by rw [HE.out]; rfl, by rw [HQ.out]; exact told_none _ _, set4_below T1.out.1 (by omega) _ _ _ _⟩
      have hXn : X < n0 := by omega
      clear hge
      go_wp2_with fail
      refine (isSlot_yes _ _ _ _ _ _ _ _ _ _ _ _ _ _ (by omega) (by omega) (by omega)).mono ?_
      rintro e u2 ⟨rfl, hu2⟩
      replace T1 := hide (T1.out.step hu2)
      clear hc hl hu2
      have hc := T1.out.2.1.cells
      have hl := T1.out.2.1.lt
      have R1 := HR.out.below T1.out.1 hB
      obtain ⟨bG, oG, eG, hbB, cG⟩ := R1.g.at_ hXn
      obtain ⟨bS, oS, eS, hbS, cS⟩ := R1.s.at_ hXn
      dsimp only at eG eS cG cS
      subst eG
      subst eS
      have HSV : Hid (S.getD X 0 = S.getD X 0) := rfl
      obtain ⟨sv, hsv⟩ : ∃ sv, Hid (S.getD X 0 = sv) := ⟨_, rfl⟩
      obtain ⟨gv, hgv⟩ : ∃ gv, Hid (G.getD X 0 = gv) := ⟨_, rfl⟩
      rw [hsv.out] at cS
      rw [hgv.out] at cG
      clear R1 HSV
      by_cases hnk : ¬ (sv = 1 ∧ gv = gn)
      · have HE : Hid (retE true ⟨G, S, W, F⟩ r = 2) := by
          simp only [Hid, retE]
          rw [if_neg (by rw [HX.out, lg.out]; simp; omega), if_pos (by rw [HX.out, HGN.out, Int.toNat_natCast, hsv.out, hgv.out]; omega)]
        have HQ : Hid (retQ true ⟨G, S, W, F⟩ r z = noP) := by simp only [Hid, retQ, HE.out]; simp
        obtain ⟨y0, f0, y1, f1, y2, f2, y3, f3⟩ := zero_cells T1.out.2.2
        by_cases hs1 : sv = 1
        · have e1 : (sv != 1) = false := by simpa using hs1
          have e2 : (gv != gn) = true := by simp; omega
          clear hnk hs1
          go_wp2
          refine bodyPost_ret (results_row_tmp rfl _ _ (w.heap.size + 1) 24 _ (0, 0) _ rfl (set4_heap T1.out.2.2 _ _ _ _) Try.underlying24 rfl Try.size24) rfl ⟨noPl, by rw [HE.out]; rfl, by rw [HQ.out]; exact told_none _ _, set4_below T1.out.1 (by omega) _ _ _ _⟩
        · have e1 : (sv != 1) = true := by simpa using hs1
          clear hnk hs1
          go_wp2
          refine bodyPost_ret (results_row_tmp rfl _ _ (w.heap.size + 1) 24 _ (0, 0) _ rfl (set4_heap T1.out.2.2 _ _ _ _) Try.underlying24 rfl Try.size24) rfl ⟨noPl, by rw [HE.out]; rfl, by rw [HQ.out]; exact told_none _ _, set4_below T1.out.1 (by omega) _ _ _ _⟩
      have hok : sv = 1 ∧ gv = gn := by omega
      clear hnk
      have HE : Hid (retE true ⟨G, S, W, F⟩ r = 0) := by
        simp only [Hid, retE]
        rw [if_neg (by rw [HX.out, lg.out]; simp; omega), if_neg (by rw [HX.out, HGN.out, Int.toNat_natCast, hsv.out, hgv.out]; omega)]
      have HQ : Hid (retQ true ⟨G, S, W, F⟩ r z = ⟨G, S.set X 2, W.set X z, F⟩) := by
        simp only [Hid, retQ, HE.out]
        rw [HX.out, Int.toNat_natCast]
        simp
      have e1 : (sv != 1) = false := by simpa using hok.1
      have e2 : (gv != gn) = false := by simpa using hok.2
      clear hok
      have R1' := hide (HR.out.below T1.out.1 hB)
      have HS1 := hide T1.out.1.size
      go_wp2_with fail
      refine (fresh_any ⟨some ⟨bG, oG, none⟩, some ⟨bS, oS, none⟩, A2, A3, n0, n0, n0, n3, c0, c1, c2, c3⟩ ⟨G, S, W, F⟩ B _ R1'.out (Nat.le_trans hB HS1.out) HM.out).mono ?_
      rintro e u3 ⟨q, rfl, hq, hu3⟩
      have T2 := hide (T1.out.step hu3)
      clear hc hl cG cS e1 e2
      obtain ⟨a0, a1, a2, a3, p0, p1, p2, p3, d0, d1, d2, d3⟩ := q
      have l1 : S.length = p1 := by simpa using hq.s.1
      have l2 : W.length = p2 := by simpa using hq.t.1
      have hp1 : X < p1 := by have := ls.out; omega
      have hp2 : X < p2 := by have := lt.out; omega
      have hp3 : p1 ≤ 64 := by have := ls.out; omega
      have hp4 : p2 ≤ 64 := by have := lt.out; omega
      obtain ⟨gS, hS⟩ := own_some hq.s (by dsimp only; omega)
      obtain ⟨gT, hT⟩ := own_some hq.t (by dsimp only; omega)
      dsimp only at hS hT
      subst hS
      subst hT
      have v1 := own_at hq.s hp1
      have v2 := hq.s.frozenAt X
      have v3 := (own_ge hq.s).2
      have v4 := (own_ge hq.s).1
      have v5 := own_at hq.t hp2
      have v6 := hq.t.frozenAt X
      have v7 := (own_ge hq.t).2
      have v8 := (own_ge hq.t).1
      have v9 := hq.st _ _ rfl rfl
      dsimp only at v1 v2 v3 v4 v5 v6 v7 v8 v9
      have v9' : gT ≠ gS := fun h => v9 h.symm
      generalize S.getD X 0 = sw at v1
      generalize W.getD X 0 = tw at v5
      have HO := hide hq
      have s1 := T1.out.size
      have s2 := T2.out.size
      have hne1 : gS ≠ u3.heap.size := by omega
      have hne2 : gS ≠ w.heap.size + 1 := by omega
      have hne3 : w.heap.size + 1 ≠ gS := by omega
      have hne4 : gT ≠ u3.heap.size := by omega
      have hne5 : gT ≠ w.heap.size + 1 := by omega
      have hne6 : w.heap.size + 1 ≠ gT := by omega
      have hl2 := T2.out.2.2.lt
      obtain ⟨y0, f0, y1, f1, y2, f2, y3, f3⟩ := zero_cells T2.out.2.2
      have HT := hide (((((HO.out.setS X 2).setT X z).set4 (k := w.heap.size + 1) (by omega) (.slice a0 p0 d0) (.slice (some ⟨gS, 0, none⟩) p1 d1) (.slice (some ⟨gT, 0, none⟩) p2 d2) (.slice a3 p3 d3)).alloc (.cells (C4 a0 (some ⟨gS, 0, none⟩) (some ⟨gT, 0, none⟩) a3 p0 p1 p2 p3 d0 d1 d2 d3) 24)).told)
      clear hq hu3 l1 l2
      go_wp2
      refine bodyPost_ret (results_row_tmp rfl _ _ (w.heap.size + 1) 24 _ (0, 0) _ rfl (PBox.alloc (set4_heap ((T2.out.far (by omega) _ _).far (by omega) _ _).2.2 _ _ _ _) _) Try.underlying24 rfl Try.size24) rfl ⟨⟨a0, some ⟨gS, 0, none⟩, some ⟨gT, 0, none⟩, a3, p0, p1, p2, p3, d0, d1, d2, d3⟩, by rw [HE.out]; rfl, by rw [HQ.out]; exact HT.out.less (by omega), (set4_below ((T2.out.far (by omega) _ _).far (by omega) _ _).1 (by omega) _ _ _ _).alloc (by have := T2.out.1.size; simp; omega) _⟩

set_option maxHeartbeats 4000000 in
theorem rretire_any (p : Pl) (P : PL) (B : Nat) (b : Bool) (r z : Int) (w : World) (hr : Reads w B p P) (hB : B ≤ w.heap.size) (hm : Small p) (hb : Hid (b = true ↔ MayBe P)) :
    Calls Try.prog 22 #[p.val, .int .i64 r, .int .i64 z] w (Tell2 w (retQ b P r z) (retE b P r)) := by
  obtain ⟨A0, A1, A2, A3, n0, n1, n2, n3, c0, c1, c2, c3⟩ := p
  obtain ⟨G, S, W, F⟩ := P
  have HM := hide hm
  obtain ⟨m0, m1, m2, m3⟩ := hm
  dsimp only at m0 m1 m2 m3
  have T0 := hide (Two.first w (C4 A0 A1 A2 A3 n0 n1 n2 n3 c0 c1 c2 c3))
  have R0 := hide (hr.below T0.out.1 hB)
  have HR := hide hr
  have lg := hide (show G.length = n0 by have := hr.g.1; simpa using this)
  have ls := hide (show S.length = n1 by have := hr.s.1; simpa using this)
  have lt := hide (show W.length = n2 by have := hr.t.1; simpa using this)
  clear hr
  go_enter Try.func22, Try.ntmps22
  go_wp2_with fail
  refine (rcheck_any ⟨A0, A1, A2, A3, n0, n1, n2, n3, c0, c1, c2, c3⟩ ⟨G, S, W, F⟩ B b _ R0.out (Nat.le_trans hB T0.out.1.size) HM.out hb).mono ?_
  rintro e u1 ⟨rfl, hu1⟩
  have T1 := hide (T0.out.step hu1)
  clear hu1 T0 R0
  have hc := T1.out.2.1.cells
  have hl := T1.out.2.1.lt
  cases b with
  | false =>
    clear hc hl
    have HE : Hid (retE false ⟨G, S, W, F⟩ r = 1) := by simp [Hid, retE]
    have HQ : Hid (retQ false ⟨G, S, W, F⟩ r z = noP) := by simp only [Hid, retQ, HE.out]; simp
    obtain ⟨y0, f0, y1, f1, y2, f2, y3, f3⟩ := zero_cells T1.out.2.2
    go_wp2
    refine bodyPost_ret (results_row_tmp rfl _ _ (w.heap.size + 1) 24 _ (0, 0) _ rfl (set4_heap T1.out.2.2 _ _ _ _) Try.underlying24 rfl Try.size24) rfl ⟨noPl, by rw [HE.out]; rfl, by rw [HQ.out]; exact told_none _ _, set4_below T1.out.1 (by omega) _ _ _ _⟩
  | true =>
    have MB := may_of hb rfl
    obtain ⟨k1, k2, k3, k4, k5, k6⟩ := MB
    dsimp only at k1 k2 k3 k4
    have hn01 : n1 = n0 := by have := lg.out; have := ls.out; omega
    have hn02 : n2 = n0 := by have := lg.out; have := lt.out; omega
    have hn64 : n0 ≤ 64 := by have := lg.out; omega
    subst hn01
    subst hn02
    clear k1 k2 k3 k4 k5 k6
    obtain ⟨n0, rfl⟩ : ∃ n0, n0 = n2 := ⟨_, rfl⟩
    by_cases hr1 : r < 1 ∨ 1125899906842624 < r
    · have HE : Hid (retE true ⟨G, S, W, F⟩ r = 1) := by
        simp only [Hid, retE]
        rw [if_pos (by omega)]
      have HQ : Hid (retQ true ⟨G, S, W, F⟩ r z = noP) := by simp only [Hid, retQ, HE.out]; simp
      have HR1 := hide hr1
      clear hr1
      go_wp2_with fail
      refine (runpack_no _ _ HR1.out).mono ?_
      rintro e w' ⟨rfl, rfl⟩
      clear hc hl
      obtain ⟨y0, f0, y1, f1, y2, f2, y3, f3⟩ := zero_cells T1.out.2.2
      go_wp2
      refine bodyPost_ret (results_row_tmp rfl _ _ (w.heap.size + 1) 24 _ (0, 0) _ rfl (set4_heap T1.out.2.2 _ _ _ _) Try.underlying24 rfl Try.size24) rfl ⟨noPl, by rw [HE.out]; rfl, by rw [HQ.out]; exact told_none _ _, set4_below T1.out.1 (by omega) _ _ _ _⟩
    · obtain ⟨X, hX⟩ : ∃ X : Nat, (r - 1) % 1024 = (X : Int) := ⟨((r - 1) % 1024).toNat, by omega⟩
      obtain ⟨gn, hgn⟩ : ∃ gn : Int, (r - 1) / 1024 = gn := ⟨_, rfl⟩
      have HX := hide hX
      have HGN := hide hgn
      have hr2 : 1 ≤ r := by omega
      have hr3 : r ≤ 1125899906842624 := by omega
      clear hr1 hX hgn
      go_wp2_with fail
      refine (runpack_is _ X gn _ hr2 hr3 HX HGN).mono ?_
      rintro e w' ⟨rfl, rfl⟩
      by_cases hge : n0 ≤ X
      · have HE : Hid (retE true ⟨G, S, W, F⟩ r = 1) := by
          simp only [Hid, retE]
          rw [if_pos (by rw [HX.out, lg.out]; omega)]
        have HQ : Hid (retQ true ⟨G, S, W, F⟩ r z = noP) := by simp only [Hid, retQ, HE.out]; simp
        have hd : decide ((n0 : Int) ≤ (X : Int)) = true := by simp; omega
        obtain ⟨y0, f0, y1, f1, y2, f2, y3, f3⟩ := zero_cells T1.out.2.2
        go_wp2
        refine bodyPost_ret (results_row_tmp rfl _ _ (w.heap.size + 1) 24 _ (0, 0) _ rfl (set4_heap T1.out.2.2 _ _ _ _) Try.underlying24 rfl Try.size24) rfl ⟨noPl, by rw [HE.out]; rfl, by rw [HQ.out]; exact told_none _ _, set4_below T1.out.1 (by omega) _ _ _ _⟩
      have hXn : X < n0 := by omega
      clear hge
      have hd : decide ((n0 : Int) ≤ (X : Int)) = false := by simp; omega
      have R1 := HR.out.below T1.out.1 hB
      obtain ⟨bG, oG, eG, hbB, cG⟩ := R1.g.at_ hXn
      obtain ⟨bS, oS, eS, hbS, cS⟩ := R1.s.at_ hXn
      dsimp only at eG eS cG cS
      subst eG
      subst eS
      have HSV : Hid (S.getD X 0 = S.getD X 0) := rfl
      obtain ⟨sv, hsv⟩ : ∃ sv, Hid (S.getD X 0 = sv) := ⟨_, rfl⟩
      obtain ⟨gv, hgv⟩ : ∃ gv, Hid (G.getD X 0 = gv) := ⟨_, rfl⟩
      rw [hsv.out] at cS
      rw [hgv.out] at cG
      clear R1 HSV
      by_cases hnk : ¬ (sv = 1 ∧ gv = gn)
      · have HE : Hid (retE true ⟨G, S, W, F⟩ r = 2) := by
          simp only [Hid, retE]
          rw [if_neg (by rw [HX.out, lg.out]; simp; omega), if_pos (by rw [HX.out, HGN.out, Int.toNat_natCast, hsv.out, hgv.out]; omega)]
        have HQ : Hid (retQ true ⟨G, S, W, F⟩ r z = noP) := by simp only [Hid, retQ, HE.out]; simp
        obtain ⟨y0, f0, y1, f1, y2, f2, y3, f3⟩ := zero_cells T1.out.2.2
        by_cases hs1 : sv = 1
        · have e1 : (sv != 1) = false := by simpa using hs1
          have e2 : (gv != gn) = true := by simp; omega
          clear hnk hs1
          go_wp2
          refine bodyPost_ret (results_row_tmp rfl _ _ (w.heap.size + 1) 24 _ (0, 0) _ rfl (set4_heap T1.out.2.2 _ _ _ _) Try.underlying24 rfl Try.size24) rfl ⟨noPl, by rw [HE.out]; rfl, by rw [HQ.out]; exact told_none _ _, set4_below T1.out.1 (by omega) _ _ _ _⟩
        · have e1 : (sv != 1) = true := by simpa using hs1
          clear hnk hs1
          go_wp2
          refine bodyPost_ret (results_row_tmp rfl _ _ (w.heap.size + 1) 24 _ (0, 0) _ rfl (set4_heap T1.out.2.2 _ _ _ _) Try.underlying24 rfl Try.size24) rfl ⟨noPl, by rw [HE.out]; rfl, by rw [HQ.out]; exact told_none _ _, set4_below T1.out.1 (by omega) _ _ _ _⟩
      have hok : sv = 1 ∧ gv = gn := by omega
      clear hnk
      have HE : Hid (retE true ⟨G, S, W, F⟩ r = 0) := by
        simp only [Hid, retE]
        rw [if_neg (by rw [HX.out, lg.out]; simp; omega), if_neg (by rw [HX.out, HGN.out, Int.toNat_natCast, hsv.out, hgv.out]; omega)]
      have HQ : Hid (retQ true ⟨G, S, W, F⟩ r z = ⟨G, S.set X 2, W.set X z, F⟩) := by
        simp only [Hid, retQ, HE.out]
        rw [HX.out, Int.toNat_natCast]
        simp
      have e1 : (sv != 1) = false := by simpa using hok.1
      have e2 : (gv != gn) = false := by simpa using hok.2
      clear hok
      have R1' := hide (HR.out.below T1.out.1 hB)
      have HS1 := hide T1.out.1.size
      go_wp2_with fail
      refine (rcopyp_any ⟨some ⟨bG, oG, none⟩, some ⟨bS, oS, none⟩, A2, A3, n0, n0, n0, n3, c0, c1, c2, c3⟩ ⟨G, S, W, F⟩ B _ R1'.out (Nat.le_trans hB HS1.out) HM.out).mono ?_
      rintro e u3 ⟨q, rfl, hq, hu3⟩
      have T2 := hide (T1.out.step hu3)
      clear hc hl cG cS e1 e2
      obtain ⟨a0, a1, a2, a3, p0, p1, p2, p3, d0, d1, d2, d3⟩ := q
      have l1 : S.length = p1 := by simpa using hq.s.1
      have l2 : W.length = p2 := by simpa using hq.t.1
      have hp1 : X < p1 := by have := ls.out; omega
      have hp2 : X < p2 := by have := lt.out; omega
      have hp3 : p1 ≤ 64 := by have := ls.out; omega
      have hp4 : p2 ≤ 64 := by have := lt.out; omega
      obtain ⟨gS, hS⟩ := own_some hq.s (by dsimp only; omega)
      obtain ⟨gT, hT⟩ := own_some hq.t (by dsimp only; omega)
      dsimp only at hS hT
      subst hS
      subst hT
      have v1 := own_at hq.s hp1
      have v2 := hq.s.frozenAt X
      have v3 := (own_ge hq.s).2
      have v4 := (own_ge hq.s).1
      have v5 := own_at hq.t hp2
      have v6 := hq.t.frozenAt X
      have v7 := (own_ge hq.t).2
      have v8 := (own_ge hq.t).1
      have v9 := hq.st _ _ rfl rfl
      dsimp only at v1 v2 v3 v4 v5 v6 v7 v8 v9
      have v9' : gT ≠ gS := fun h => v9 h.symm
      generalize S.getD X 0 = sw at v1
      generalize W.getD X 0 = tw at v5
      have HO := hide hq
      have s1 := T1.out.size
      have s2 := T2.out.size
      have hne1 : gS ≠ u3.heap.size := by omega
      have hne2 : gS ≠ w.heap.size + 1 := by omega
      have hne3 : w.heap.size + 1 ≠ gS := by omega
      have hne4 : gT ≠ u3.heap.size := by omega
      have hne5 : gT ≠ w.heap.size + 1 := by omega
      have hne6 : w.heap.size + 1 ≠ gT := by omega
      have hl2 := T2.out.2.2.lt
      obtain ⟨y0, f0, y1, f1, y2, f2, y3, f3⟩ := zero_cells T2.out.2.2
      have HT := hide (((((HO.out.setS X 2).setT X z).set4 (k := w.heap.size + 1) (by omega) (.slice a0 p0 d0) (.slice (some ⟨gS, 0, none⟩) p1 d1) (.slice (some ⟨gT, 0, none⟩) p2 d2) (.slice a3 p3 d3)).alloc (.cells (C4 a0 (some ⟨gS, 0, none⟩) (some ⟨gT, 0, none⟩) a3 p0 p1 p2 p3 d0 d1 d2 d3) 24)).told)
      clear hq hu3 l1 l2
      go_wp2
      refine bodyPost_ret (results_row_tmp rfl _ _ (w.heap.size + 1) 24 _ (0, 0) _ rfl (PBox.alloc (set4_heap ((T2.out.far (by omega) _ _).far (by omega) _ _).2.2 _ _ _ _) _) Try.underlying24 rfl Try.size24) rfl ⟨⟨a0, some ⟨gS, 0, none⟩, some ⟨gT, 0, none⟩, a3, p0, p1, p2, p3, d0, d1, d2, d3⟩, by rw [HE.out]; rfl, by rw [HQ.out]; exact HT.out.less (by omega), (set4_below ((T2.out.far (by omega) _ _).far (by omega) _ _).1 (by omega) _ _ _ _).alloc (by have := T2.out.1.size; simp; omega) _⟩

end Go.Proofs.Ytfdbbfjnianahaa
