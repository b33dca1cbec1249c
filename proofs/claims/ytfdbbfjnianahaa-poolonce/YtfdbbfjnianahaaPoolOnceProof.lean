/- For every number and all steps: no reference is told twice, whatever is retired and reclaimed. (The statement tendrillaw05.PoolOnce.) -/
import Derived.Test.YtfdbbfjnianahaaRows
import Derived.Test.YtfdbbfjnianahaaOnce
import Derived.Test.YtfdbbfjnianahaaFrame
import Derived.WalkKit
namespace Go.Proofs.Ytfdbbfjnianahaa.poolOnce
open Go.Joins Go.ChangeShapes Go.WideShapes Go.ChangeAt Go.RowKit Go.Deep
set_option linter.unusedVariables false

theorem getD_mem {zs : List Int} {k : Nat} (h : k < zs.length) : zs.getD k 0 ∈ zs := by
  simp [List.getD_eq_getElem?_getD, h]

theorem tmod_of (s : Int) (m : Nat) (h0 : 0 ≤ s) (hm : 0 < m) : ∃ p : Nat, p < m ∧ s.tmod (m : Int) = (p : Int) := by
  rw [Int.tmod_eq_emod_of_nonneg h0]
  have h3 : 0 ≤ s % (m : Int) := Int.emod_nonneg _ (by omega)
  have h4 : s % (m : Int) < (m : Int) := Int.emod_lt_of_pos _ (by omega)
  exact ⟨(s % (m : Int)).toNat, by omega, by omega⟩
theorem rem_run (s : Int) (m p : Nat) (hm : m ≠ 0) (hp : s.tmod (m : Int) = (p : Int)) (hw : IntKind.i64.wrap (p : Int) = (p : Int)) (u : World) : (binOp .rem 3 (.int .i64 s) (.int .i64 (m : Int))).run Try.prog u = .ok (.int .i64 (p : Int)) u := by
  have h0 : ((m : Int) == 0) = false := by simp; omega
  go_simp
theorem ret_used {Q : PL} {n : Nat} {rs : List Int} (M : MayBe Q ∧ Q.G.length = n) (U : Used Q rs) (r z : Int) : (retE true Q r = 0 ∧ MayBe (retQ true Q r z) ∧ (retQ true Q r z).G.length = n ∧ Used (retQ true Q r z) rs) ∨ retE true Q r ≠ 0 := by
  by_cases h : retE true Q r = 0
  · refine .inl ⟨h, may_retQ M.1 h, ?_, used_ret M.1 U z h⟩
    unfold retQ
    rw [if_pos h]
    exact M.2
  · exact .inr h
theorem at_of (z : Int) (m : Nat) (h1 : 0 < m) (h2 : m ≤ 60) : ∃ p : Nat, p < m ∧ wrap64 ((IntKind.u64.wrap z).tmod (m : Int)) = (p : Int) := by
  have h0 : 0 ≤ IntKind.u64.wrap z := by
    simp only [IntKind.wrap, IntKind.signed, Bool.false_and, Bool.false_eq_true, if_false]
    exact Int.emod_nonneg _ (by decide)
  have e1 : (IntKind.u64.wrap z).tmod (m : Int) = IntKind.u64.wrap z % (m : Int) := Int.tmod_eq_emod_of_nonneg h0
  have h3 : 0 ≤ IntKind.u64.wrap z % (m : Int) := Int.emod_nonneg _ (by omega)
  have h4 : IntKind.u64.wrap z % (m : Int) < (m : Int) := Int.emod_lt_of_pos _ (by omega)
  rw [e1]
  generalize IntKind.u64.wrap z % (m : Int) = y at h3 h4
  exact ⟨y.toNat, by omega, by unfold wrap64; omega⟩
theorem good_more {n : Nat} {rs : List Int} {r : Int} (h : ∀ x ∈ rs, Good n x) (hr : Good n r) : ∀ x ∈ rs ++ [r], Good n x := by
  intro x hx
  rcases List.mem_append.1 hx with h1 | h1
  · exact h x h1
  · obtain rfl : x = r := by simpa using h1
    exact hr
theorem counts_of {y1 y2 y0 a b c : Int} {n f n4 : Nat} (h : y1 + y2 + y0 = (n : Int) ∧ y0 = (f : Int) ∧ 0 ≤ y1 ∧ 0 ≤ y2 ∧ y1 ≤ 64 ∧ y2 ≤ 64 ∧ y0 ≤ 64 ∧ 0 ≤ y0) (hf : f = n4) (h1 : y1 = a) (h2 : y2 = b) (h0 : y0 = c) :
    (a + b + c != (n : Int)) = false ∧ (c != (n4 : Int)) = false ∧ decide (a < 0) = false ∧ decide (b < 0) = false ∧ 0 ≤ a ∧ 0 ≤ b ∧ 0 ≤ c ∧ a ≤ 64 ∧ b ≤ 64 ∧ c ≤ 64 := by
  subst h1 h2 h0 hf
  obtain ⟨e1, e2, e3, e4, e5, e6, e7, e8⟩ := h
  refine ⟨by simp [e1], by simp [e2], by simp; omega, by simp; omega, e3, e4, e8, e5, e6, e7⟩
theorem cells_num (w : World) (r : Int) (g : Nat) (hg : g = w.heap.size) : ∀ j u, ([.int .i64 r] : List Value)[j]? = some u → (w.alloc (.cells #[.int .i64 r] 3)).cell? ((⟨g, 0, none⟩ : Addr).add j) = some u := by
  intro j u hu
  subst hg
  rw [Addr.add_lit, Nat.zero_add, cell_of_row _ w.heap.size j _ 3 (0, 0) (heap_alloc_new w _)]
  simpa using hu

set_option maxRecDepth 100000 in
set_option maxHeartbeats 3000000 in
theorem walk (a0 : Int) (A1 : Option Addr) (n1 c1 : Nat) (z1 : List Int) (w : World) (w0 : (Lit.int .i64 a0).wf = true) (w1 : Came w 1 A1 n1 c1 z1) :
    Calls Try.prog 6 #[.int .i64 a0, .slice A1 n1 c1] w (Drew (.bool true) w) := by
  obtain ⟨i0, hi0, hz0, hz1, hz2⟩ := info_parts Try.info3
  have H1 := hide hi0
  have H2 := hide hz0
  have H3 := hide hz1
  have H4 := hide hz2
  clear hi0 hz0 hz1 hz2
  have HC := hide w1
  have HW0 := hide (wf_bounds w0)
  clear w0 w1
  go_enter Try.func6, Try.ntmps6
  go_wp2_with fail
  refine (live_yes _).mono ?_
  rintro e u1 ⟨rfl, b1⟩
  have B1 := hide b1
  clear b1
  by_cases hn : 1 ≤ a0 ∧ a0 ≤ 64
  case neg =>
    have HN : Hid (a0 < 1 ∨ 64 < a0) := by show _ ∨ _; omega
    clear hn
    go_wp2_with fail
    refine (new_no a0 _ HN).mono ?_
    rintro e u2 ⟨q2, rfl, o2, b2⟩
    have hz : q2.n0 = 0 := by have := o2.told.g.1; simpa [noP] using this.symm
    have B2 := hide (next_call B1.out (Nat.le_refl _) b2)
    obtain ⟨D0, D1, D2, D3, e0, e1, e2, e3, d0, d1, d2, d3⟩ := q2
    dsimp only at hz
    subst hz
    clear o2 b2
    go_wp2
    go_ret
    exact ⟨rfl, B2.out.alloc B2.out.size _⟩
  obtain ⟨n, rfl⟩ : ∃ n : Nat, a0 = (n : Int) := ⟨a0.toNat, by omega⟩
  have hn1 : 1 ≤ n := by omega
  have hn2 : n ≤ 64 := by omega
  clear hn HW0
  have HNG := hide (new_good hn1 hn2)
  go_wp2_with fail
  refine (new_ok n _ hn1 hn2).mono ?_
  rintro e u2 ⟨q2, rfl, o2, b2⟩
  have B2 := hide (next_call B1.out (Nat.le_refl _) b2)
  have St := hide (Stand.first B2.out o2.told (few_may HNG.out.1))
  obtain ⟨h, hh⟩ : ∃ h, Hid (u2.heap.size = h) := ⟨_, rfl⟩
  obtain ⟨D0, D1, D2, D3, e0, e1, e2, e3, d0, d1, d2, d3⟩ := q2
  clear o2 b2 B1
  by_cases hlen : n1 ≤ 60
  case neg =>
    have hd : decide ((60 : Int) < (n1 : Int)) = true := by simp; omega
    clear hlen
    go_wp2
    go_ret
    exact ⟨rfl, B2.out.alloc B2.out.size _⟩
  have hd : decide ((60 : Int) < (n1 : Int)) = false := by simp; omega
  have W0 : Hid (Wh w _ _ _ _ none 0 0 []) := ⟨St.out, World.ownsRow_nil _ _ _ _, fun a h => by cases h⟩
  go_wp2
  rw [hh.out] at W0 ⊢
  clear St B2 hd
  go_loopw [7, 33] (fun l i wr => ∃ (k m : Nat) (A : Option Addr) (c : Nat) (q : Pl) (Q : PL) (rs : List Int), k ≤ n1 ∧ i = .int .i64 k ∧ l = .slice A m c ∧ m ≤ k ∧ Hid (Wh w wr h q Q A m c rs) ∧ Hid (MayBe Q ∧ Q.G.length = n) ∧ Hid (Used Q rs))
    (fun _ i _ => n1 - (intOf i).toNat)
  case atStart => exact ⟨0, 0, none, 0, _, _, [], by omega, rfl, rfl, by omega, W0, HNG, used_new n⟩
  case round =>
    obtain ⟨k, m, A, c, q, Q, rs, hk, rfl, rfl, hmk, X, MQ, US⟩ := hrel
    clear W0
    by_cases hlt : k < n1
    · obtain ⟨bs, os, es, hbs, cs⟩ := (HC.out.1.below X.out.st.bel (Nat.le_refl _)).at_ hlt
      subst es
      obtain ⟨s, hs⟩ : ∃ s, Hid (z1.getD k 0 = s) := ⟨_, rfl⟩
      rw [hs.out] at cs
      have HWF := hide (wf_bounds (HC.out.2.2.2 s (by rw [← hs.out]; exact getD_mem (by have := HC.out.1.1; omega))))
      have s1 := HWF.out.1
      have s2 := HWF.out.2
      obtain ⟨A0, A2, A3, A4, n0, n2, n3, n4, c0, c2, c3, c4⟩ := q
      have hc := X.out.st.box.cells
      have hl := X.out.st.box.lt
      go_wp2_with fail
      refine (take_any ⟨A0, A2, A3, A4, n0, n2, n3, n4, c0, c2, c3, c4⟩ Q _ true _ X.out.st.reads (Nat.le_refl _) X.out.st.small (yes_may MQ.out.1)).mono ?_
      cases hF : Q.F with
      | nil =>
        have HT0 := hide (take_full hF)
        clear hF
        rw [HT0.out.1, HT0.out.2]
        rintro e u5 ⟨q5, rfl, t5, b5⟩
        have Y := hide ((X.out.step b5).alloc (.cells q5.cs 24))
        obtain ⟨E0, E1, E2, E3, f0, f1, f2, f3, x0, x1, x2, x3⟩ := q5
        obtain ⟨U1, hU1⟩ : ∃ U1, Hid (u5.alloc (.cells #[.slice E0 f0 x0, .slice E1 f1 x1, .slice E2 f2 x2, .slice E3 f3 x3] 24) = U1) := ⟨_, rfl⟩
        have Y1 : Hid (Wh w U1 h ⟨A0, A2, A3, A4, n0, n2, n3, n4, c0, c2, c3, c4⟩ Q A m c rs) := by show Wh _ _ _ _ _ _ _ _ _; rw [← hU1.out]; exact Y.out
        go_upto_if 45 with (fail)
        rw [hU1.out]
        clear t5 b5 hc hl cs Y X
        have hc := Y1.out.st.box.cells
        have hl := Y1.out.st.box.lt
        by_cases hm0 : m = 0
        · subst hm0
          by_cases hpar : bits BinOp.and IntKind.i64 s 1 = 0
          · have gp : (bits BinOp.and IntKind.i64 s 1 == 0) = true := by simpa using hpar
            clear hpar
            have MR := hide (rec_good MQ.out.1 MQ.out.2 (k : Int))
            have UR := hide (used_rec MQ.out.1 US.out (k : Int))
            go_wp2_with fail
            refine (reclaim_any ⟨A0, A2, A3, A4, n0, n2, n3, n4, c0, c2, c3, c4⟩ Q _ true (k : Int) _ Y1.out.st.reads (Nat.le_refl _) Y1.out.st.small (yes_may MQ.out.1)).mono ?_
            generalize recQ true Q (k : Int) = QR at MR UR
            generalize recN true Q (k : Int) = cR
            rintro e u9 ⟨q9, rfl, t9, b9⟩
            have Z9 := hide (Y1.out.put t9 b9 (few_may MR.out.1))
            have YB9 := hide (Y1.out.st.box.step b9)
            obtain ⟨G0, G1, G2, G3, i1, i2, i3, i4, k1, k2, k3, k4⟩ := q9
            clear t9 b9 hc hl
            have hc := YB9.out.cells
            have hl := YB9.out.lt
            have hf := YB9.out.frozen
            go_wp2
            go_roundw
            case rel => exact ⟨k + 1, 0, A, c, ⟨G0, G1, G2, G3, i1, i2, i3, i4, k1, k2, k3, k4⟩, QR, rs, by omega, by go_num, rfl, by omega, Z9, MR, UR⟩
            case measure => simp [intOf]; omega
          · have gp : (bits BinOp.and IntKind.i64 s 1 == 0) = false := by simpa using hpar
            clear hpar
            go_wp2
            go_roundw
            case rel => exact ⟨k + 1, 0, A, c, ⟨A0, A2, A3, A4, n0, n2, n3, n4, c0, c2, c3, c4⟩, Q, rs, by omega, by go_num, rfl, by omega, Y1, MQ, US⟩
            case measure => simp [intOf]; omega
        have hm2 : 0 < m := by omega
        clear hm0
        have hm1 : decide ((0 : Int) < (m : Int)) = true := by simp; omega
        by_cases hsg : 0 ≤ s
        case neg =>
          have hsn : decide ((0 : Int) ≤ s) = false := by simpa using hsg
          clear hsg
          by_cases hpar : bits BinOp.and IntKind.i64 s 1 = 0
          · have gp : (bits BinOp.and IntKind.i64 s 1 == 0) = true := by simpa using hpar
            clear hpar
            have MR := hide (rec_good MQ.out.1 MQ.out.2 (k : Int))
            have UR := hide (used_rec MQ.out.1 US.out (k : Int))
            go_wp2_with fail
            refine (reclaim_any ⟨A0, A2, A3, A4, n0, n2, n3, n4, c0, c2, c3, c4⟩ Q _ true (k : Int) _ Y1.out.st.reads (Nat.le_refl _) Y1.out.st.small (yes_may MQ.out.1)).mono ?_
            generalize recQ true Q (k : Int) = QR at MR UR
            generalize recN true Q (k : Int) = cR
            rintro e u9 ⟨q9, rfl, t9, b9⟩
            have Z9 := hide (Y1.out.put t9 b9 (few_may MR.out.1))
            have YB9 := hide (Y1.out.st.box.step b9)
            obtain ⟨G0, G1, G2, G3, i1, i2, i3, i4, k1, k2, k3, k4⟩ := q9
            clear t9 b9 hc hl
            have hc := YB9.out.cells
            have hl := YB9.out.lt
            have hf := YB9.out.frozen
            go_wp2
            go_roundw
            case rel => exact ⟨k + 1, m, A, c, ⟨G0, G1, G2, G3, i1, i2, i3, i4, k1, k2, k3, k4⟩, QR, rs, by omega, by go_num, rfl, by omega, Z9, MR, UR⟩
            case measure => simp [intOf]; omega
          · have gp : (bits BinOp.and IntKind.i64 s 1 == 0) = false := by simpa using hpar
            clear hpar
            go_wp2
            go_roundw
            case rel => exact ⟨k + 1, m, A, c, ⟨A0, A2, A3, A4, n0, n2, n3, n4, c0, c2, c3, c4⟩, Q, rs, by omega, by go_num, rfl, by omega, Y1, MQ, US⟩
            case measure => simp [intOf]; omega
        have hsn : decide ((0 : Int) ≤ s) = true := by simpa using hsg
        obtain ⟨p, hp, ep⟩ := tmod_of s m hsg hm2
        have hm3 : (m : Int) ≠ 0 := by omega
        have hm4 : ((m : Int) == 0) = false := by simp; omega
        have hm5 : m ≠ 0 := by omega
        have zp : IntKind.i64.wrap (p : Int) = (p : Int) := IntWalk.i64_in _ (by omega)
        have hrem : ∀ u : World, (binOp .rem 3 (.int .i64 s) (.int .i64 (m : Int))).run Try.prog u = .ok (.int .i64 (p : Int)) u := fun u => rem_run s m p hm5 ep zp u
        go_upto_region 21 with (fail)
        obtain ⟨gr, hgr⟩ := own_some Y1.out.own hm2
        subst hgr
        have cr := own_at Y1.out.own hp
        obtain ⟨r, hr⟩ : ∃ r, Hid (rs.getD p 0 = r) := ⟨_, rfl⟩
        rw [hr.out] at cr
        have HT := hide (ret_used MQ.out US.out r (k : Int))
        have hpI : (p : Int) < (m : Int) := by omega
        have hpJ : (0 : Int) ≤ (p : Int) := by omega
        have HRet : Hid (∀ u, Hid (Below U1.heap.size U1 u) → Calls Try.prog 21 #[V4 A0 A2 A3 A4 n0 n2 n3 n4 c0 c2 c3 c4, .int .i64 r, .int .i64 (k : Int)] u (Tell2 u (retQ true Q r (k : Int)) (retE true Q r))) := fun u hu => retire_any ⟨A0, A2, A3, A4, n0, n2, n3, n4, c0, c2, c3, c4⟩ Q _ true r (k : Int) u (Y1.out.step hu.out).st.reads (Nat.le_refl _) Y1.out.st.small (yes_may MQ.out.1)
        generalize retQ true Q r (k : Int) = QT2 at HT HRet
        generalize retE true Q r = eT2 at HT HRet
        have hN : Hid (∀ u, Hid (Below U1.heap.size U1 u) → (u.cell? ⟨h, 0, none⟩ = some (.slice A0 n0 c0) ∧ u.cell? ⟨h, 1, none⟩ = some (.slice A2 n2 c2) ∧ u.cell? ⟨h, 2, none⟩ = some (.slice A3 n3 c3) ∧ u.cell? ⟨h, 3, none⟩ = some (.slice A4 n4 c4) ∧ u.cell? ⟨gr, p, none⟩ = some (.int .i64 r) ∧ Hid (Below U1.heap.size U1 u))) :=
          fun u hu => ⟨(Y1.out.step hu.out).st.box.cells 0, (Y1.out.step hu.out).st.box.cells 1, (Y1.out.step hu.out).st.box.cells 2, (Y1.out.step hu.out).st.box.cells 3, (own_at (Y1.out.step hu.out).own hp).trans (by rw [hr.out]), hu⟩
        have D0 := hide ((Below.refl U1.heap.size U1).drew)
        have D1 := hide (below_al (o := .cells zeros4 24) D0.out)
        clear hc hl cr
        go_region_held3 (fun u => u.cell? ⟨h, 0, none⟩ = some (.slice A0 n0 c0) ∧ u.cell? ⟨h, 1, none⟩ = some (.slice A2 n2 c2) ∧ u.cell? ⟨h, 2, none⟩ = some (.slice A3 n3 c3) ∧ u.cell? ⟨h, 3, none⟩ = some (.slice A4 n4 c4) ∧ u.cell? ⟨gr, p, none⟩ = some (.int .i64 r) ∧ Hid (Below U1.heap.size U1 u))
          (first | exact hN.out _ D0 | exact hN.out _ (by assumption) | exact hN.out _ (hide (below_al (Hid.out (by assumption)))) | exact hN.out _ (hide (set4_below (Hid.out (by assumption)) (Nat.le_refl _) _ _ _ _)) | exact hN.out _ (hide (set4_below (Hid.out (by assumption)) (Below.size (Hid.out (by assumption))) _ _ _ _)))
          (first | (go_at_call 21; refine (HRet.out U1.drew D0).mono ?_; rintro e u5 ⟨q5, rfl, t5, b5⟩; have BU := hide (next_call D0.out (Nat.le_refl _) b5)) | (go_at_call 21; refine (HRet.out (U1.drew.alloc (.cells zeros4 24)) D1).mono ?_; rintro e u5 ⟨q5, rfl, t5, b5⟩; have BU := hide (next_call D1.out (Nat.le_refl _) b5); have HZ4 := hide (box_before b5); obtain ⟨y0, fz0, y1, fz1, y2, fz2, y3, fz3⟩ := zero_cells HZ4.out; have hlz := HZ4.out.lt))
        · have AF0 := hide (af_behind Y1.out b5 t5)
          obtain ⟨H0, H1', H2', H3', h0, h1, h2, h3, z5, z6, z7, z8⟩ := q5
          obtain ⟨U, hU⟩ : ∃ U, Hid (u5.alloc (.cells #[.slice H0 h0 z5, .slice H1' h1 z6, .slice H2' h2 z7, .slice H3' h3 z8] 24) = U) := ⟨_, rfl⟩
          obtain ⟨hb, hhb⟩ : ∃ hb, Hid (u5.heap.size = hb) := ⟨_, rfl⟩
          have AF : Hid (Af w U h ⟨A0, A2, A3, A4, n0, n2, n3, n4, c0, c2, c3, c4⟩ Q (some ⟨gr, 0, none⟩) m c rs hb ⟨H0, H1', H2', H3', h0, h1, h2, h3, z5, z6, z7, z8⟩ QT2) := by show Af _ _ _ _ _ _ _ _ _ _ _ _; rw [← hU.out, ← hhb.out]; exact AF0.out
          rw [hU.out, hhb.out]
          clear AF0 t5 b5 BU hN HRet D0 D1
          have hc := AF.out.wh.st.box.cells
          have hl := AF.out.wh.st.box.lt
          have hf := AF.out.wh.st.box.frozen
          have hcb := AF.out.box.cells
          have hlb := AF.out.box.lt
          rcases HT.out with ⟨he, hM⟩ | he
          · subst he
            have MT2 : Hid (MayBe QT2 ∧ QT2.G.length = n) := ⟨hM.1, hM.2.1⟩
            have UT2 : Hid (Used QT2 rs) := hM.2.2
            obtain ⟨B', tB, hB'⟩ := AF.out.told
            have Z2 := hide (AF.out.wh.lay tB hB' (few_may MT2.out.1))
            clear tB hM
            by_cases hpar : bits BinOp.and IntKind.i64 s 1 = 0
            · have gp : (bits BinOp.and IntKind.i64 s 1 == 0) = true := by simpa using hpar
              clear hpar
              have MR := hide (rec_good MT2.out.1 MT2.out.2 (k : Int))
              have UR := hide (used_rec MT2.out.1 UT2.out (k : Int))
              go_wp2_with fail
              refine (reclaim_any ⟨H0, H1', H2', H3', h0, h1, h2, h3, z5, z6, z7, z8⟩ QT2 _ true (k : Int) _ Z2.out.st.reads (Nat.le_refl _) Z2.out.st.small (yes_may MT2.out.1)).mono ?_
              generalize recQ true QT2 (k : Int) = QR at MR UR
              generalize recN true QT2 (k : Int) = cR
              rintro e u9 ⟨q9, rfl, t9, b9⟩
              have Z9 := hide (Z2.out.put t9 b9 (few_may MR.out.1))
              have YB9 := hide (Z2.out.st.box.step b9)
              obtain ⟨G0, G1, G2, G3, i1, i2, i3, i4, k1, k2, k3, k4⟩ := q9
              clear t9 b9 hc hl hf hcb hlb
              have hc := YB9.out.cells
              have hl := YB9.out.lt
              have hf := YB9.out.frozen
              go_wp2
              go_roundw
              case rel => exact ⟨k + 1, m, (some ⟨gr, 0, none⟩), c, ⟨G0, G1, G2, G3, i1, i2, i3, i4, k1, k2, k3, k4⟩, QR, rs, by omega, by go_num, rfl, by omega, Z9, MR, UR⟩
              case measure => simp [intOf]; omega
            · have gp : (bits BinOp.and IntKind.i64 s 1 == 0) = false := by simpa using hpar
              clear hpar
              go_wp2
              go_roundw
              case rel => exact ⟨k + 1, m, (some ⟨gr, 0, none⟩), c, ⟨H0, H1', H2', H3', h0, h1, h2, h3, z5, z6, z7, z8⟩, QT2, rs, by omega, by go_num, rfl, by omega, Z2, MT2, UT2⟩
              case measure => simp [intOf]; omega
          · have he2 : (eT2 == 0) = false := by simpa using he
            clear he
            have Z2 := hide AF.out.wh
            by_cases hpar : bits BinOp.and IntKind.i64 s 1 = 0
            · have gp : (bits BinOp.and IntKind.i64 s 1 == 0) = true := by simpa using hpar
              clear hpar
              have MR := hide (rec_good MQ.out.1 MQ.out.2 (k : Int))
              have UR := hide (used_rec MQ.out.1 US.out (k : Int))
              go_wp2_with fail
              refine (reclaim_any ⟨A0, A2, A3, A4, n0, n2, n3, n4, c0, c2, c3, c4⟩ Q _ true (k : Int) _ Z2.out.st.reads (Nat.le_refl _) Z2.out.st.small (yes_may MQ.out.1)).mono ?_
              generalize recQ true Q (k : Int) = QR at MR UR
              generalize recN true Q (k : Int) = cR
              rintro e u9 ⟨q9, rfl, t9, b9⟩
              have Z9 := hide (Z2.out.put t9 b9 (few_may MR.out.1))
              have YB9 := hide (Z2.out.st.box.step b9)
              obtain ⟨G0, G1, G2, G3, i1, i2, i3, i4, k1, k2, k3, k4⟩ := q9
              clear t9 b9 hc hl hf hcb hlb
              have hc := YB9.out.cells
              have hl := YB9.out.lt
              have hf := YB9.out.frozen
              go_wp2
              go_roundw
              case rel => exact ⟨k + 1, m, (some ⟨gr, 0, none⟩), c, ⟨G0, G1, G2, G3, i1, i2, i3, i4, k1, k2, k3, k4⟩, QR, rs, by omega, by go_num, rfl, by omega, Z9, MR, UR⟩
              case measure => simp [intOf]; omega
            · have gp : (bits BinOp.and IntKind.i64 s 1 == 0) = false := by simpa using hpar
              clear hpar
              go_wp2
              go_roundw
              case rel => exact ⟨k + 1, m, (some ⟨gr, 0, none⟩), c, ⟨A0, A2, A3, A4, n0, n2, n3, n4, c0, c2, c3, c4⟩, Q, rs, by omega, by go_num, rfl, by omega, Z2, MQ, US⟩
              case measure => simp [intOf]; omega
        · have AF0 := hide (af_before Y1.out b5 t5)
          obtain ⟨H0, H1', H2', H3', h0, h1, h2, h3, z5, z6, z7, z8⟩ := q5
          obtain ⟨U, hU⟩ : ∃ U, Hid ((((u5.setCell ⟨U1.heap.size, 0, none⟩ (.slice H0 h0 z5)).setCell ⟨U1.heap.size, 1, none⟩ (.slice H1' h1 z6)).setCell ⟨U1.heap.size, 2, none⟩ (.slice H2' h2 z7)).setCell ⟨U1.heap.size, 3, none⟩ (.slice H3' h3 z8) = U) := ⟨_, rfl⟩
          obtain ⟨hb, hhb⟩ : ∃ hb, Hid (U1.heap.size = hb) := ⟨_, rfl⟩
          have AF : Hid (Af w U h ⟨A0, A2, A3, A4, n0, n2, n3, n4, c0, c2, c3, c4⟩ Q (some ⟨gr, 0, none⟩) m c rs hb ⟨H0, H1', H2', H3', h0, h1, h2, h3, z5, z6, z7, z8⟩ QT2) := by show Af _ _ _ _ _ _ _ _ _ _ _ _; rw [← hU.out, ← hhb.out]; exact AF0.out
          rw [hU.out, hhb.out]
          clear AF0 t5 b5 BU hN HRet D0 D1 HZ4 y0 fz0 y1 fz1 y2 fz2 y3 fz3 hlz
          have hc := AF.out.wh.st.box.cells
          have hl := AF.out.wh.st.box.lt
          have hf := AF.out.wh.st.box.frozen
          have hcb := AF.out.box.cells
          have hlb := AF.out.box.lt
          rcases HT.out with ⟨he, hM⟩ | he
          · subst he
            have MT2 : Hid (MayBe QT2 ∧ QT2.G.length = n) := ⟨hM.1, hM.2.1⟩
            have UT2 : Hid (Used QT2 rs) := hM.2.2
            obtain ⟨B', tB, hB'⟩ := AF.out.told
            have Z2 := hide (AF.out.wh.lay tB hB' (few_may MT2.out.1))
            clear tB hM
            by_cases hpar : bits BinOp.and IntKind.i64 s 1 = 0
            · have gp : (bits BinOp.and IntKind.i64 s 1 == 0) = true := by simpa using hpar
              clear hpar
              have MR := hide (rec_good MT2.out.1 MT2.out.2 (k : Int))
              have UR := hide (used_rec MT2.out.1 UT2.out (k : Int))
              go_wp2_with fail
              refine (reclaim_any ⟨H0, H1', H2', H3', h0, h1, h2, h3, z5, z6, z7, z8⟩ QT2 _ true (k : Int) _ Z2.out.st.reads (Nat.le_refl _) Z2.out.st.small (yes_may MT2.out.1)).mono ?_
              generalize recQ true QT2 (k : Int) = QR at MR UR
              generalize recN true QT2 (k : Int) = cR
              rintro e u9 ⟨q9, rfl, t9, b9⟩
              have Z9 := hide (Z2.out.put t9 b9 (few_may MR.out.1))
              have YB9 := hide (Z2.out.st.box.step b9)
              obtain ⟨G0, G1, G2, G3, i1, i2, i3, i4, k1, k2, k3, k4⟩ := q9
              clear t9 b9 hc hl hf hcb hlb
              have hc := YB9.out.cells
              have hl := YB9.out.lt
              have hf := YB9.out.frozen
              go_wp2
              go_roundw
              case rel => exact ⟨k + 1, m, (some ⟨gr, 0, none⟩), c, ⟨G0, G1, G2, G3, i1, i2, i3, i4, k1, k2, k3, k4⟩, QR, rs, by omega, by go_num, rfl, by omega, Z9, MR, UR⟩
              case measure => simp [intOf]; omega
            · have gp : (bits BinOp.and IntKind.i64 s 1 == 0) = false := by simpa using hpar
              clear hpar
              go_wp2
              go_roundw
              case rel => exact ⟨k + 1, m, (some ⟨gr, 0, none⟩), c, ⟨H0, H1', H2', H3', h0, h1, h2, h3, z5, z6, z7, z8⟩, QT2, rs, by omega, by go_num, rfl, by omega, Z2, MT2, UT2⟩
              case measure => simp [intOf]; omega
          · have he2 : (eT2 == 0) = false := by simpa using he
            clear he
            have Z2 := hide AF.out.wh
            by_cases hpar : bits BinOp.and IntKind.i64 s 1 = 0
            · have gp : (bits BinOp.and IntKind.i64 s 1 == 0) = true := by simpa using hpar
              clear hpar
              have MR := hide (rec_good MQ.out.1 MQ.out.2 (k : Int))
              have UR := hide (used_rec MQ.out.1 US.out (k : Int))
              go_wp2_with fail
              refine (reclaim_any ⟨A0, A2, A3, A4, n0, n2, n3, n4, c0, c2, c3, c4⟩ Q _ true (k : Int) _ Z2.out.st.reads (Nat.le_refl _) Z2.out.st.small (yes_may MQ.out.1)).mono ?_
              generalize recQ true Q (k : Int) = QR at MR UR
              generalize recN true Q (k : Int) = cR
              rintro e u9 ⟨q9, rfl, t9, b9⟩
              have Z9 := hide (Z2.out.put t9 b9 (few_may MR.out.1))
              have YB9 := hide (Z2.out.st.box.step b9)
              obtain ⟨G0, G1, G2, G3, i1, i2, i3, i4, k1, k2, k3, k4⟩ := q9
              clear t9 b9 hc hl hf hcb hlb
              have hc := YB9.out.cells
              have hl := YB9.out.lt
              have hf := YB9.out.frozen
              go_wp2
              go_roundw
              case rel => exact ⟨k + 1, m, (some ⟨gr, 0, none⟩), c, ⟨G0, G1, G2, G3, i1, i2, i3, i4, k1, k2, k3, k4⟩, QR, rs, by omega, by go_num, rfl, by omega, Z9, MR, UR⟩
              case measure => simp [intOf]; omega
            · have gp : (bits BinOp.and IntKind.i64 s 1 == 0) = false := by simpa using hpar
              clear hpar
              go_wp2
              go_roundw
              case rel => exact ⟨k + 1, m, (some ⟨gr, 0, none⟩), c, ⟨A0, A2, A3, A4, n0, n2, n3, n4, c0, c2, c3, c4⟩, Q, rs, by omega, by go_num, rfl, by omega, Z2, MQ, US⟩
              case measure => simp [intOf]; omega
      | cons z zs =>
        have HT0 := hide (take_good MQ.out.1 MQ.out.2 hF)
        have HU0 := hide (used_take MQ.out.1 hF US.out)
        clear hF
        rw [HT0.out.1]
        generalize takeQ true Q = QT at HT0 HU0
        generalize takeR true Q = rT at HT0 HU0
        rintro e u5 ⟨q5, rfl, t5, b5⟩
        have MT : Hid (MayBe QT ∧ QT.G.length = n) := ⟨HT0.out.2.1, HT0.out.2.2.1⟩
        have UT := hide HU0.out.2
        have Y := hide ((X.out.put t5 b5 (few_may MT.out.1)).alloc (.cells q5.cs 24))
        have YB := hide (X.out.st.box.step b5)
        have T1 := hide ((t5.set4 X.out.st.box.lt (.slice q5.A0 q5.n0 q5.c0) (.slice q5.A1 q5.n1 q5.c1) (.slice q5.A2 q5.n2 q5.c2) (.slice q5.A3 q5.n3 q5.c3)).below ((Below.refl _ _).alloc (Nat.le_refl _) (.cells q5.cs 24)))
        have HA := hide (fun a (ha : A = some a) => (own_addr X.out.own a ha).2)
        obtain ⟨E0, E1, E2, E3, f0, f1, f2, f3, x0, x1, x2, x3⟩ := q5
        obtain ⟨B5, hB5⟩ : ∃ B5, Hid (wr.heap.size = B5) := ⟨_, rfl⟩
        obtain ⟨U1, hU1⟩ : ∃ U1, Hid (((((u5.setCell ⟨h, 0, none⟩ (.slice E0 f0 x0)).setCell ⟨h, 1, none⟩ (.slice E1 f1 x1)).setCell ⟨h, 2, none⟩ (.slice E2 f2 x2)).setCell ⟨h, 3, none⟩ (.slice E3 f3 x3)).alloc (.cells #[.slice E0 f0 x0, .slice E1 f1 x1, .slice E2 f2 x2, .slice E3 f3 x3] 24) = U1) := ⟨_, rfl⟩
        have Y1 : Hid (Wh w U1 h ⟨E0, E1, E2, E3, f0, f1, f2, f3, x0, x1, x2, x3⟩ QT A m c rs) := by show Wh _ _ _ _ _ _ _ _ _; rw [← hU1.out]; exact Y.out
        have T1' : Hid (Told4 U1 B5 ⟨E0, E1, E2, E3, f0, f1, f2, f3, x0, x1, x2, x3⟩ QT) := by show Told4 _ _ _ _; rw [← hU1.out, ← hB5.out]; exact T1.out
        rw [hB5.out] at HA
        have hmm : m ≤ 60 := by omega
        clear t5 b5 hc hl cs T1
        have hc := YB.out.cells
        have hl := YB.out.lt
        have hf := YB.out.frozen
        go_wp2
        rw [hU1.out]
        clear hc hl hf YB Y X
        have Y2 := hide (Y1.out.alloc (.cells #[.int .i64 rT] 3))
        have T2 := hide (T1'.out.below ((Below.refl _ _).alloc (Nat.le_refl _) (.cells #[.int .i64 rT] 3)))
        have HSz := hide (show w.heap.size ≤ _ from Y2.out.st.bel.size)
        go_loopw [49] (fun x wr1 => ∃ j : Nat, j ≤ m ∧ x = .int .i64 j ∧ wr1 = U1) (fun x _ => m - (intOf x).toNat)
        case atStart => exact ⟨0, by omega, rfl, rfl⟩
        case round =>
          obtain ⟨j, hj, rfl, hwx⟩ := hrel
          have hwy := hwx.symm
          clear hwx
          subst hwy
          by_cases hjm : j < m
          · obtain ⟨gq, hgq⟩ := own_some Y1.out.own (by omega)
            subst hgq
            have cj := own_at Y1.out.own hjm
            have hne : (rs.getD j 0 == rT) = false := by
              have hj' : j < rs.length := by have := Y1.out.own.1; simp at this; omega
              have : rs.getD j 0 ≠ rT := fun e => HU0.out.1 (e ▸ getD_mem hj')
              simpa using this
            generalize rs.getD j 0 = rj at cj hne
            go_wp2
            go_roundw
            case rel => exact ⟨j + 1, by omega, by go_num, trivial⟩
            case measure => simp [intOf]; omega
          · go_upto_region 20 with (at_builtin; refine wpList_append_lies _ rfl _ _ 22 rfl w.heap.size 3 i0 (.int .i64 0) 1 8 Try.underlying22 H1.out H2.out H3.out H4.out rfl (by decide) _ m _ rfl Y2.out.own ⟨U1.heap.size, 0, none⟩ 1 1 [.int .i64 rT] rfl rfl (cells_num _ _ _ rfl) (ints_oneCell .i64 [rT]) (by decide) (by simp only [maxLen]; omega) (by omega) HSz.out _ rfl ?_; intro g' cap w2 hown hg hlx hlt2; have Z := hide (Y2.out.grow T2.out HA.out hown hg hlx); clear hown hg hlx; obtain ⟨m1, hm1'⟩ : ∃ m1, Hid (m + 1 = m1) := ⟨_, rfl⟩; rw [hm1'.out] at Z; rw [hm1'.out]; have hc := Z.out.st.box.cells; have hl := Z.out.st.box.lt)
            have q1 : m1 ≤ k + 1 := by have := hm1'.out; omega
            have hm2 : 0 < m1 := by have := hm1'.out; omega
            have cgr : Hid (m1 ≤ 61) := by show _ ≤ _; omega
            have hm1 : decide ((0 : Int) < (m1 : Int)) = true := by simp; omega
            by_cases hsg : 0 ≤ s
            case neg =>
              have hsn : decide ((0 : Int) ≤ s) = false := by simpa using hsg
              clear hsg
              by_cases hpar : bits BinOp.and IntKind.i64 s 1 = 0
              · have gp : (bits BinOp.and IntKind.i64 s 1 == 0) = true := by simpa using hpar
                clear hpar
                have MR := hide (rec_good MT.out.1 MT.out.2 (k : Int))
                have UR := hide (used_rec MT.out.1 UT.out (k : Int))
                go_wp2_with fail
                refine (reclaim_any ⟨E0, E1, E2, E3, f0, f1, f2, f3, x0, x1, x2, x3⟩ QT _ true (k : Int) _ Z.out.st.reads (Nat.le_refl _) Z.out.st.small (yes_may MT.out.1)).mono ?_
                generalize recQ true QT (k : Int) = QR at MR UR
                generalize recN true QT (k : Int) = cR
                rintro e u9 ⟨q9, rfl, t9, b9⟩
                have Z9 := hide (Z.out.put t9 b9 (few_may MR.out.1))
                have YB9 := hide (Z.out.st.box.step b9)
                obtain ⟨G0, G1, G2, G3, i1, i2, i3, i4, k1, k2, k3, k4⟩ := q9
                clear t9 b9 hc hl
                have hc := YB9.out.cells
                have hl := YB9.out.lt
                have hf := YB9.out.frozen
                go_wp2
                go_roundw
                case rel => exact ⟨k + 1, m1, (some ⟨g', 0, none⟩), cap, ⟨G0, G1, G2, G3, i1, i2, i3, i4, k1, k2, k3, k4⟩, QR, (rs ++ [rT]), by omega, by go_num, rfl, by omega, Z9, MR, UR⟩
                case measure => simp [intOf]; omega
              · have gp : (bits BinOp.and IntKind.i64 s 1 == 0) = false := by simpa using hpar
                clear hpar
                go_wp2
                go_roundw
                case rel => exact ⟨k + 1, m1, (some ⟨g', 0, none⟩), cap, ⟨E0, E1, E2, E3, f0, f1, f2, f3, x0, x1, x2, x3⟩, QT, (rs ++ [rT]), by omega, by go_num, rfl, by omega, Z, MT, UT⟩
                case measure => simp [intOf]; omega
            have hsn : decide ((0 : Int) ≤ s) = true := by simpa using hsg
            obtain ⟨p, hp, ep⟩ := tmod_of s m1 hsg hm2
            have hm3 : (m1 : Int) ≠ 0 := by omega
            have hm4 : ((m1 : Int) == 0) = false := by simp; omega
            have hm5 : m1 ≠ 0 := by omega
            have zp : IntKind.i64.wrap (p : Int) = (p : Int) := IntWalk.i64_in _ (by omega)
            have hrem : ∀ u : World, (binOp .rem 3 (.int .i64 s) (.int .i64 (m1 : Int))).run Try.prog u = .ok (.int .i64 (p : Int)) u := fun u => rem_run s m1 p hm5 ep zp u
            go_upto_region 21 with (fail)
            have cr := own_at Z.out.own hp
            obtain ⟨r, hr⟩ : ∃ r, Hid ((rs ++ [rT]).getD p 0 = r) := ⟨_, rfl⟩
            rw [hr.out] at cr
            have HT := hide (ret_used MT.out UT.out r (k : Int))
            have hpI : (p : Int) < (m1 : Int) := by omega
            have hpJ : (0 : Int) ≤ (p : Int) := by omega
            have HRet : Hid (∀ u, Hid (Below w2.heap.size w2 u) → Calls Try.prog 21 #[V4 E0 E1 E2 E3 f0 f1 f2 f3 x0 x1 x2 x3, .int .i64 r, .int .i64 (k : Int)] u (Tell2 u (retQ true QT r (k : Int)) (retE true QT r))) := fun u hu => retire_any ⟨E0, E1, E2, E3, f0, f1, f2, f3, x0, x1, x2, x3⟩ QT _ true r (k : Int) u (Z.out.step hu.out).st.reads (Nat.le_refl _) Z.out.st.small (yes_may MT.out.1)
            generalize retQ true QT r (k : Int) = QT2 at HT HRet
            generalize retE true QT r = eT2 at HT HRet
            have hN : Hid (∀ u, Hid (Below w2.heap.size w2 u) → (u.cell? ⟨h, 0, none⟩ = some (.slice E0 f0 x0) ∧ u.cell? ⟨h, 1, none⟩ = some (.slice E1 f1 x1) ∧ u.cell? ⟨h, 2, none⟩ = some (.slice E2 f2 x2) ∧ u.cell? ⟨h, 3, none⟩ = some (.slice E3 f3 x3) ∧ u.cell? ⟨g', p, none⟩ = some (.int .i64 r) ∧ Hid (Below w2.heap.size w2 u))) :=
              fun u hu => ⟨(Z.out.step hu.out).st.box.cells 0, (Z.out.step hu.out).st.box.cells 1, (Z.out.step hu.out).st.box.cells 2, (Z.out.step hu.out).st.box.cells 3, (own_at (Z.out.step hu.out).own hp).trans (by rw [hr.out]), hu⟩
            have D0 := hide ((Below.refl w2.heap.size w2).drew)
            have D1 := hide (below_al (o := .cells zeros4 24) D0.out)
            clear hc hl cr
            go_region_held3 (fun u => u.cell? ⟨h, 0, none⟩ = some (.slice E0 f0 x0) ∧ u.cell? ⟨h, 1, none⟩ = some (.slice E1 f1 x1) ∧ u.cell? ⟨h, 2, none⟩ = some (.slice E2 f2 x2) ∧ u.cell? ⟨h, 3, none⟩ = some (.slice E3 f3 x3) ∧ u.cell? ⟨g', p, none⟩ = some (.int .i64 r) ∧ Hid (Below w2.heap.size w2 u))
              (first | exact hN.out _ D0 | exact hN.out _ (by assumption) | exact hN.out _ (hide (below_al (Hid.out (by assumption)))) | exact hN.out _ (hide (set4_below (Hid.out (by assumption)) (Nat.le_refl _) _ _ _ _)) | exact hN.out _ (hide (set4_below (Hid.out (by assumption)) (Below.size (Hid.out (by assumption))) _ _ _ _)))
              (first | (go_at_call 21; refine (HRet.out w2.drew D0).mono ?_; rintro e u5 ⟨q5, rfl, t5, b5⟩; have BU := hide (next_call D0.out (Nat.le_refl _) b5)) | (go_at_call 21; refine (HRet.out (w2.drew.alloc (.cells zeros4 24)) D1).mono ?_; rintro e u5 ⟨q5, rfl, t5, b5⟩; have BU := hide (next_call D1.out (Nat.le_refl _) b5); have HZ4 := hide (box_before b5); obtain ⟨y0, fz0, y1, fz1, y2, fz2, y3, fz3⟩ := zero_cells HZ4.out; have hlz := HZ4.out.lt))
            · have AF0 := hide (af_behind Z.out b5 t5)
              obtain ⟨H0, H1', H2', H3', h0, h1, h2, h3, z5, z6, z7, z8⟩ := q5
              obtain ⟨U, hU⟩ : ∃ U, Hid (u5.alloc (.cells #[.slice H0 h0 z5, .slice H1' h1 z6, .slice H2' h2 z7, .slice H3' h3 z8] 24) = U) := ⟨_, rfl⟩
              obtain ⟨hb, hhb⟩ : ∃ hb, Hid (u5.heap.size = hb) := ⟨_, rfl⟩
              have AF : Hid (Af w U h ⟨E0, E1, E2, E3, f0, f1, f2, f3, x0, x1, x2, x3⟩ QT (some ⟨g', 0, none⟩) m1 cap (rs ++ [rT]) hb ⟨H0, H1', H2', H3', h0, h1, h2, h3, z5, z6, z7, z8⟩ QT2) := by show Af _ _ _ _ _ _ _ _ _ _ _ _; rw [← hU.out, ← hhb.out]; exact AF0.out
              rw [hU.out, hhb.out]
              clear AF0 t5 b5 BU hN HRet D0 D1
              have hc := AF.out.wh.st.box.cells
              have hl := AF.out.wh.st.box.lt
              have hf := AF.out.wh.st.box.frozen
              have hcb := AF.out.box.cells
              have hlb := AF.out.box.lt
              rcases HT.out with ⟨he, hM⟩ | he
              · subst he
                have MT2 : Hid (MayBe QT2 ∧ QT2.G.length = n) := ⟨hM.1, hM.2.1⟩
                have UT2 : Hid (Used QT2 (rs ++ [rT])) := hM.2.2
                obtain ⟨B', tB, hB'⟩ := AF.out.told
                have Z2 := hide (AF.out.wh.lay tB hB' (few_may MT2.out.1))
                clear tB hM
                by_cases hpar : bits BinOp.and IntKind.i64 s 1 = 0
                · have gp : (bits BinOp.and IntKind.i64 s 1 == 0) = true := by simpa using hpar
                  clear hpar
                  have MR := hide (rec_good MT2.out.1 MT2.out.2 (k : Int))
                  have UR := hide (used_rec MT2.out.1 UT2.out (k : Int))
                  go_wp2_with fail
                  refine (reclaim_any ⟨H0, H1', H2', H3', h0, h1, h2, h3, z5, z6, z7, z8⟩ QT2 _ true (k : Int) _ Z2.out.st.reads (Nat.le_refl _) Z2.out.st.small (yes_may MT2.out.1)).mono ?_
                  generalize recQ true QT2 (k : Int) = QR at MR UR
                  generalize recN true QT2 (k : Int) = cR
                  rintro e u9 ⟨q9, rfl, t9, b9⟩
                  have Z9 := hide (Z2.out.put t9 b9 (few_may MR.out.1))
                  have YB9 := hide (Z2.out.st.box.step b9)
                  obtain ⟨G0, G1, G2, G3, i1, i2, i3, i4, k1, k2, k3, k4⟩ := q9
                  clear t9 b9 hc hl hf hcb hlb
                  have hc := YB9.out.cells
                  have hl := YB9.out.lt
                  have hf := YB9.out.frozen
                  go_wp2
                  go_roundw
                  case rel => exact ⟨k + 1, m1, (some ⟨g', 0, none⟩), cap, ⟨G0, G1, G2, G3, i1, i2, i3, i4, k1, k2, k3, k4⟩, QR, (rs ++ [rT]), by omega, by go_num, rfl, by omega, Z9, MR, UR⟩
                  case measure => simp [intOf]; omega
                · have gp : (bits BinOp.and IntKind.i64 s 1 == 0) = false := by simpa using hpar
                  clear hpar
                  go_wp2
                  go_roundw
                  case rel => exact ⟨k + 1, m1, (some ⟨g', 0, none⟩), cap, ⟨H0, H1', H2', H3', h0, h1, h2, h3, z5, z6, z7, z8⟩, QT2, (rs ++ [rT]), by omega, by go_num, rfl, by omega, Z2, MT2, UT2⟩
                  case measure => simp [intOf]; omega
              · have he2 : (eT2 == 0) = false := by simpa using he
                clear he
                have Z2 := hide AF.out.wh
                by_cases hpar : bits BinOp.and IntKind.i64 s 1 = 0
                · have gp : (bits BinOp.and IntKind.i64 s 1 == 0) = true := by simpa using hpar
                  clear hpar
                  have MR := hide (rec_good MT.out.1 MT.out.2 (k : Int))
                  have UR := hide (used_rec MT.out.1 UT.out (k : Int))
                  go_wp2_with fail
                  refine (reclaim_any ⟨E0, E1, E2, E3, f0, f1, f2, f3, x0, x1, x2, x3⟩ QT _ true (k : Int) _ Z2.out.st.reads (Nat.le_refl _) Z2.out.st.small (yes_may MT.out.1)).mono ?_
                  generalize recQ true QT (k : Int) = QR at MR UR
                  generalize recN true QT (k : Int) = cR
                  rintro e u9 ⟨q9, rfl, t9, b9⟩
                  have Z9 := hide (Z2.out.put t9 b9 (few_may MR.out.1))
                  have YB9 := hide (Z2.out.st.box.step b9)
                  obtain ⟨G0, G1, G2, G3, i1, i2, i3, i4, k1, k2, k3, k4⟩ := q9
                  clear t9 b9 hc hl hf hcb hlb
                  have hc := YB9.out.cells
                  have hl := YB9.out.lt
                  have hf := YB9.out.frozen
                  go_wp2
                  go_roundw
                  case rel => exact ⟨k + 1, m1, (some ⟨g', 0, none⟩), cap, ⟨G0, G1, G2, G3, i1, i2, i3, i4, k1, k2, k3, k4⟩, QR, (rs ++ [rT]), by omega, by go_num, rfl, by omega, Z9, MR, UR⟩
                  case measure => simp [intOf]; omega
                · have gp : (bits BinOp.and IntKind.i64 s 1 == 0) = false := by simpa using hpar
                  clear hpar
                  go_wp2
                  go_roundw
                  case rel => exact ⟨k + 1, m1, (some ⟨g', 0, none⟩), cap, ⟨E0, E1, E2, E3, f0, f1, f2, f3, x0, x1, x2, x3⟩, QT, (rs ++ [rT]), by omega, by go_num, rfl, by omega, Z2, MT, UT⟩
                  case measure => simp [intOf]; omega
            · have AF0 := hide (af_before Z.out b5 t5)
              obtain ⟨H0, H1', H2', H3', h0, h1, h2, h3, z5, z6, z7, z8⟩ := q5
              obtain ⟨U, hU⟩ : ∃ U, Hid ((((u5.setCell ⟨w2.heap.size, 0, none⟩ (.slice H0 h0 z5)).setCell ⟨w2.heap.size, 1, none⟩ (.slice H1' h1 z6)).setCell ⟨w2.heap.size, 2, none⟩ (.slice H2' h2 z7)).setCell ⟨w2.heap.size, 3, none⟩ (.slice H3' h3 z8) = U) := ⟨_, rfl⟩
              obtain ⟨hb, hhb⟩ : ∃ hb, Hid (w2.heap.size = hb) := ⟨_, rfl⟩
              have AF : Hid (Af w U h ⟨E0, E1, E2, E3, f0, f1, f2, f3, x0, x1, x2, x3⟩ QT (some ⟨g', 0, none⟩) m1 cap (rs ++ [rT]) hb ⟨H0, H1', H2', H3', h0, h1, h2, h3, z5, z6, z7, z8⟩ QT2) := by show Af _ _ _ _ _ _ _ _ _ _ _ _; rw [← hU.out, ← hhb.out]; exact AF0.out
              rw [hU.out, hhb.out]
              clear AF0 t5 b5 BU hN HRet D0 D1 HZ4 y0 fz0 y1 fz1 y2 fz2 y3 fz3 hlz
              have hc := AF.out.wh.st.box.cells
              have hl := AF.out.wh.st.box.lt
              have hf := AF.out.wh.st.box.frozen
              have hcb := AF.out.box.cells
              have hlb := AF.out.box.lt
              rcases HT.out with ⟨he, hM⟩ | he
              · subst he
                have MT2 : Hid (MayBe QT2 ∧ QT2.G.length = n) := ⟨hM.1, hM.2.1⟩
                have UT2 : Hid (Used QT2 (rs ++ [rT])) := hM.2.2
                obtain ⟨B', tB, hB'⟩ := AF.out.told
                have Z2 := hide (AF.out.wh.lay tB hB' (few_may MT2.out.1))
                clear tB hM
                by_cases hpar : bits BinOp.and IntKind.i64 s 1 = 0
                · have gp : (bits BinOp.and IntKind.i64 s 1 == 0) = true := by simpa using hpar
                  clear hpar
                  have MR := hide (rec_good MT2.out.1 MT2.out.2 (k : Int))
                  have UR := hide (used_rec MT2.out.1 UT2.out (k : Int))
                  go_wp2_with fail
                  refine (reclaim_any ⟨H0, H1', H2', H3', h0, h1, h2, h3, z5, z6, z7, z8⟩ QT2 _ true (k : Int) _ Z2.out.st.reads (Nat.le_refl _) Z2.out.st.small (yes_may MT2.out.1)).mono ?_
                  generalize recQ true QT2 (k : Int) = QR at MR UR
                  generalize recN true QT2 (k : Int) = cR
                  rintro e u9 ⟨q9, rfl, t9, b9⟩
                  have Z9 := hide (Z2.out.put t9 b9 (few_may MR.out.1))
                  have YB9 := hide (Z2.out.st.box.step b9)
                  obtain ⟨G0, G1, G2, G3, i1, i2, i3, i4, k1, k2, k3, k4⟩ := q9
                  clear t9 b9 hc hl hf hcb hlb
                  have hc := YB9.out.cells
                  have hl := YB9.out.lt
                  have hf := YB9.out.frozen
                  go_wp2
                  go_roundw
                  case rel => exact ⟨k + 1, m1, (some ⟨g', 0, none⟩), cap, ⟨G0, G1, G2, G3, i1, i2, i3, i4, k1, k2, k3, k4⟩, QR, (rs ++ [rT]), by omega, by go_num, rfl, by omega, Z9, MR, UR⟩
                  case measure => simp [intOf]; omega
                · have gp : (bits BinOp.and IntKind.i64 s 1 == 0) = false := by simpa using hpar
                  clear hpar
                  go_wp2
                  go_roundw
                  case rel => exact ⟨k + 1, m1, (some ⟨g', 0, none⟩), cap, ⟨H0, H1', H2', H3', h0, h1, h2, h3, z5, z6, z7, z8⟩, QT2, (rs ++ [rT]), by omega, by go_num, rfl, by omega, Z2, MT2, UT2⟩
                  case measure => simp [intOf]; omega
              · have he2 : (eT2 == 0) = false := by simpa using he
                clear he
                have Z2 := hide AF.out.wh
                by_cases hpar : bits BinOp.and IntKind.i64 s 1 = 0
                · have gp : (bits BinOp.and IntKind.i64 s 1 == 0) = true := by simpa using hpar
                  clear hpar
                  have MR := hide (rec_good MT.out.1 MT.out.2 (k : Int))
                  have UR := hide (used_rec MT.out.1 UT.out (k : Int))
                  go_wp2_with fail
                  refine (reclaim_any ⟨E0, E1, E2, E3, f0, f1, f2, f3, x0, x1, x2, x3⟩ QT _ true (k : Int) _ Z2.out.st.reads (Nat.le_refl _) Z2.out.st.small (yes_may MT.out.1)).mono ?_
                  generalize recQ true QT (k : Int) = QR at MR UR
                  generalize recN true QT (k : Int) = cR
                  rintro e u9 ⟨q9, rfl, t9, b9⟩
                  have Z9 := hide (Z2.out.put t9 b9 (few_may MR.out.1))
                  have YB9 := hide (Z2.out.st.box.step b9)
                  obtain ⟨G0, G1, G2, G3, i1, i2, i3, i4, k1, k2, k3, k4⟩ := q9
                  clear t9 b9 hc hl hf hcb hlb
                  have hc := YB9.out.cells
                  have hl := YB9.out.lt
                  have hf := YB9.out.frozen
                  go_wp2
                  go_roundw
                  case rel => exact ⟨k + 1, m1, (some ⟨g', 0, none⟩), cap, ⟨G0, G1, G2, G3, i1, i2, i3, i4, k1, k2, k3, k4⟩, QR, (rs ++ [rT]), by omega, by go_num, rfl, by omega, Z9, MR, UR⟩
                  case measure => simp [intOf]; omega
                · have gp : (bits BinOp.and IntKind.i64 s 1 == 0) = false := by simpa using hpar
                  clear hpar
                  go_wp2
                  go_roundw
                  case rel => exact ⟨k + 1, m1, (some ⟨g', 0, none⟩), cap, ⟨E0, E1, E2, E3, f0, f1, f2, f3, x0, x1, x2, x3⟩, QT, (rs ++ [rT]), by omega, by go_num, rfl, by omega, Z2, MT, UT⟩
                  case measure => simp [intOf]; omega
    · go_wp2
      go_ret
      exact ⟨rfl, X.out.st.bel⟩

theorem lifted (os : Os) (started : os.Started) (H : Type) (enc : TypeId × Value → H) :
    ReturnsInHanded {} Try.checked os 6 .any (Rows.poolOnceSpec.pre6 enc Try.prog Try.f6 Rows.poolOnceRow.domain false) (Rows.poolOnceSpec.post enc Try.prog Try.f6 false true false false) := by
  refine returnsInHanded_of_change (C := Try.checked) own started (by kernel_rfl) Try.func6
    (ChangeSpec.witness6 (enc := enc) (C := Try.checked) false ⟨#[], #[.int .i64 0, .slice none 0 0], []⟩ 8 (by kernel_rfl) (by kernel_rfl) (by kernel_rfl) (by kernel_rfl)) ?_
  intro W base args ds gs before hval0 hW hcnd _
  have hval : ∀ (j : Nat) t v, Try.f6.params[j]? = some t → args[j]? = some v → Value.okWide Try.prog W .any base t v := hval0
  have hW' := hW
  obtain ⟨p, q, hA0, hV, rfl, hfz, hnd⟩ := hW
  have hA : DataW.TrodAll enc Try.prog W 0 (fun _ => true) true Try.f6.params.toList args.toList ds p := hA0
  rw [Try.params6] at hA hval
  obtain ⟨x0, vs0, d0, ds0, p0, q0, hargs, rfl, rfl, h0, r0⟩ := trodAll_cons hA
  obtain ⟨x1, vs1, d1, ds1, p1, q1, rfl, rfl, rfl, h1, r1⟩ := trodAll_cons r0
  obtain ⟨rfl, rfl, rfl⟩ := trodAll_nil r1
  obtain rfl : args = #[x0, x1] := by cases args; simp_all
  obtain ⟨rfl, rfl⟩ := trodVars_none hV
  have lt1 : ∀ x ∈ p1, x.block < W.heap.size := by obtain ⟨m, hm⟩ := h1; exact DataW.trod_lt m _ _ _ hm
  obtain ⟨a0, rfl, rfl, rfl, w0⟩ := open_int Try.underlying3 (hval 0 3 x0 rfl rfl) h0
  obtain ⟨A1, n1, c1, rfl⟩ := okWide_slice Try.underlying22 (hval 1 22 x1 rfl rfl)
  obtain ⟨z1, w1⟩ := open_flat h1
  clear hA0 hval0
  refine (walk a0 A1 n1 c1 z1 W w0 w1).mono fun e W' ⟨he, bel⟩ => ?_
  subst he
  exact ⟨_, rfl, _, _, _, [], _, [], hW', trodAll_mk1 (shut_bool Try.underlying4 _), (trodAll_cons_mk (shut_int Try.underlying3 w0) (trodAll_cons_mk (Below.trod laidOut (by kernel_rfl) (of_decide_eq_true (by kernel_rfl)) h1 bel lt1) trodAll_mk0)), rfl, bel.frame _, fun h => by cases h⟩

theorem over : Rows.poolOnceRow.holds Try.pinned (OpenSpec.ofChange Rows.poolOnceSpec) :=
  OpenClaim.holds_of_wide 6 Try.f6 rfl rfl rfl rfl rfl rfl rfl ⟨rfl, rfl, rfl, rfl, rfl⟩ rfl rfl rfl rfl rfl (by kernel_rfl) Try.func6 (by kernel_rfl)
    (of_decide_eq_true (by kernel_rfl)) (by unfold Func.isWrapper; first | (rw [if_pos (by decide +kernel)]; kernel_rfl) | (rw [if_neg (by decide +kernel)]; exact ⟨rfl, rfl⟩))
    (fun os started H enc _ => lifted os started H enc)

end Go.Proofs.Ytfdbbfjnianahaa.poolOnce

namespace Go.Proofs.Ytfdbbfjnianahaa
/-- The statement. -/
theorem poolOnce_holds : Rows.PoolOnceSaid := poolOnce.over
#print axioms poolOnce_holds
end Go.Proofs.Ytfdbbfjnianahaa
