/- For every pool and all numbers: what Take, Retire and Reclaim tell is what the document asks; the pool stays as it was, and what is told shares no memory with it. (The statement tendrillaw05.PoolDoes.) -/
import Derived.Test.YtfdbbfjnianahaaRows
import Derived.Test.YtfdbbfjnianahaaDoes
import Derived.Test.YtfdbbfjnianahaaFrame
import Derived.WalkKit
namespace Go.Proofs.Ytfdbbfjnianahaa.poolDoes
open Go.Joins Go.ChangeShapes Go.WideShapes Go.ChangeAt Go.RowKit Go.Deep
set_option linter.unusedVariables false

theorem few_reads {u : World} {B : Nat} {q : Pl} {Q : PL} (h : Reads u B q Q) (hm : Small q) : Few Q := by
  have h1 := h.g.1
  have h2 := h.s.1
  have h3 := h.t.1
  have h4 := h.f.1
  obtain ⟨m1, m2, m3, m4⟩ := hm
  exact ⟨by omega, by omega, by omega, by omega⟩

theorem lp_first {v u : World} {a c i : Pl} {QA QC QI : PL} (hb : Below v.heap.size v u) (ha : Told4 u v.heap.size a QA) (hc : Told4 u v.heap.size c QC) (hi : Told4 u v.heap.size i QI) (sa : Small a) (sc : Small c) (si : Small i) :
    Lp v (u.alloc (.cells (cs12 a c i) 24)) u.heap.size (cs12 a c i) (fun q => q = a ∨ q = c ∨ q = i) := by
  have d := (Below.refl u.heap.size u).alloc (Nat.le_refl _) (.cells (cs12 a c i) 24)
  refine ⟨hb.alloc hb.size _, PBox.new u _, fun q hq => ?_⟩
  rcases hq with rfl | rfl | rfl
  · exact ⟨ha.s.irow.below d, ha.f.irow.below d, sa⟩
  · exact ⟨hc.s.irow.below d, hc.f.irow.below d, sc⟩
  · exact ⟨hi.s.irow.below d, hi.f.irow.below d, si⟩

set_option maxRecDepth 100000 in
set_option maxHeartbeats 3000000 in
theorem walk (p0 : Pl) (P0 : PL) (a1 : Int) (a2 : Int) (a3 : Int) (w : World) (w0 : Reads w w.heap.size p0 P0) (w1 : (Lit.int .i64 a1).wf = true) (w2 : (Lit.int .i64 a2).wf = true) (w3 : (Lit.int .i64 a3).wf = true) :
    Calls Try.prog 4 #[p0.val, .int .i64 a1, .int .i64 a2, .int .i64 a3] w (Drew (.bool true) w) := by
  clear w1 w2 w3
  have R0 := hide w0
  clear w0
  obtain ⟨A0, A1, A2, A3, n0, n1, n2, n3, c0, c1, c2, c3⟩ := p0
  obtain ⟨G, S, W, F⟩ := P0
  have S0 := hide (stand_in w _ _ R0.out)
  go_enter Try.func4, Try.ntmps4
  go_wp2_with fail
  refine (live_yes _).mono ?_
  rintro e u1 ⟨rfl, b1⟩
  have X1 := hide (S0.out.step b1)
  clear b1 S0
  have hc := X1.out.box.cells
  have hl := X1.out.box.lt
  by_cases few : n0 ≤ 200 ∧ n1 ≤ 200 ∧ n2 ≤ 200 ∧ n3 ≤ 200
  case neg =>
    have HFE := hide few
    clear few
    go_wp2_with fail
    refine (few_no _ _ _ _ _ _ _ _ _ _ _ _ _ HFE).mono ?_
    rintro e u2 ⟨rfl, b2⟩
    have X2 := hide (X1.out.step b2)
    clear b2 X1 hc hl
    go_wp2
    go_ret
    exact ⟨rfl, X2.out.bel⟩
  obtain ⟨m0, m1, m2, m3⟩ := few
  have HM : Hid (Small ⟨A0, A1, A2, A3, n0, n1, n2, n3, c0, c1, c2, c3⟩) := ⟨m0, m1, m2, m3⟩
  have HFP := hide (few_reads R0.out HM.out)
  obtain ⟨b, hb⟩ := bool_of (MayBe ⟨G, S, W, F⟩)
  have HB := hide hb
  clear hb
  have Ha : Hid (∀ u, Reads u u.heap.size ⟨A0, A1, A2, A3, n0, n1, n2, n3, c0, c1, c2, c3⟩ ⟨G, S, W, F⟩ → Calls Try.prog 19 #[V4 A0 A1 A2 A3 n0 n1 n2 n3 c0 c1 c2 c3] u (Tell3 u (takeQ b ⟨G, S, W, F⟩) (takeR b ⟨G, S, W, F⟩) (takeE b ⟨G, S, W, F⟩))) := fun u hu => take_any ⟨A0, A1, A2, A3, n0, n1, n2, n3, c0, c1, c2, c3⟩ _ _ b u hu (Nat.le_refl _) HM.out HB
  have Hb : Hid (∀ u, Reads u u.heap.size ⟨A0, A1, A2, A3, n0, n1, n2, n3, c0, c1, c2, c3⟩ ⟨G, S, W, F⟩ → Calls Try.prog 20 #[V4 A0 A1 A2 A3 n0 n1 n2 n3 c0 c1 c2 c3] u (Tell3 u (takeQ b ⟨G, S, W, F⟩) (takeR b ⟨G, S, W, F⟩) (takeE b ⟨G, S, W, F⟩))) := fun u hu => rtake_any ⟨A0, A1, A2, A3, n0, n1, n2, n3, c0, c1, c2, c3⟩ _ _ b u hu (Nat.le_refl _) HM.out HB
  have Hc : Hid (∀ u, Reads u u.heap.size ⟨A0, A1, A2, A3, n0, n1, n2, n3, c0, c1, c2, c3⟩ ⟨G, S, W, F⟩ → Calls Try.prog 21 #[V4 A0 A1 A2 A3 n0 n1 n2 n3 c0 c1 c2 c3, .int .i64 a1, .int .i64 a2] u (Tell2 u (retQ b ⟨G, S, W, F⟩ a1 a2) (retE b ⟨G, S, W, F⟩ a1))) := fun u hu => retire_any ⟨A0, A1, A2, A3, n0, n1, n2, n3, c0, c1, c2, c3⟩ _ _ b a1 a2 u hu (Nat.le_refl _) HM.out HB
  have Hd : Hid (∀ u, Reads u u.heap.size ⟨A0, A1, A2, A3, n0, n1, n2, n3, c0, c1, c2, c3⟩ ⟨G, S, W, F⟩ → Calls Try.prog 22 #[V4 A0 A1 A2 A3 n0 n1 n2 n3 c0 c1 c2 c3, .int .i64 a1, .int .i64 a2] u (Tell2 u (retQ b ⟨G, S, W, F⟩ a1 a2) (retE b ⟨G, S, W, F⟩ a1))) := fun u hu => rretire_any ⟨A0, A1, A2, A3, n0, n1, n2, n3, c0, c1, c2, c3⟩ _ _ b a1 a2 u hu (Nat.le_refl _) HM.out HB
  have Hi : Hid (∀ u, Reads u u.heap.size ⟨A0, A1, A2, A3, n0, n1, n2, n3, c0, c1, c2, c3⟩ ⟨G, S, W, F⟩ → Calls Try.prog 23 #[V4 A0 A1 A2 A3 n0 n1 n2 n3 c0 c1 c2 c3, .int .i64 a3] u (Tell2 u (recQ b ⟨G, S, W, F⟩ a3) (recN b ⟨G, S, W, F⟩ a3))) := fun u hu => reclaim_any ⟨A0, A1, A2, A3, n0, n1, n2, n3, c0, c1, c2, c3⟩ _ _ b a3 u hu (Nat.le_refl _) HM.out HB
  have Hj : Hid (∀ u, Reads u u.heap.size ⟨A0, A1, A2, A3, n0, n1, n2, n3, c0, c1, c2, c3⟩ ⟨G, S, W, F⟩ → Calls Try.prog 24 #[V4 A0 A1 A2 A3 n0 n1 n2 n3 c0 c1 c2 c3, .int .i64 a3] u (Tell2 u (recQ b ⟨G, S, W, F⟩ a3) (recN b ⟨G, S, W, F⟩ a3))) := fun u hu => rreclaim_any ⟨A0, A1, A2, A3, n0, n1, n2, n3, c0, c1, c2, c3⟩ _ _ b a3 u hu (Nat.le_refl _) HM.out HB
  have FQA := hide (few_take (b := b) HFP.out)
  have FQC := hide (few_ret (b := b) HFP.out a1 a2)
  have FQI := hide (few_rec HB.out a3)
  generalize takeQ b ⟨G, S, W, F⟩ = QA at Ha Hb FQA
  generalize takeR b ⟨G, S, W, F⟩ = r1 at Ha Hb
  generalize takeE b ⟨G, S, W, F⟩ = e1 at Ha Hb
  generalize retQ b ⟨G, S, W, F⟩ a1 a2 = QC at Hc Hd FQC
  generalize retE b ⟨G, S, W, F⟩ a1 = e2 at Hc Hd
  generalize recQ b ⟨G, S, W, F⟩ a3 = QI at Hi Hj FQI
  generalize recN b ⟨G, S, W, F⟩ a3 = z1 at Hi Hj
  have g1 : (r1 == r1) = true := by simp
  have g2 : (e1 == e1) = true := by simp
  have g3 : (e2 == e2) = true := by simp
  have g4 : (z1 == z1) = true := by simp
  go_wp2_with fail
  refine (few_yes _ _ _ _ _ _ _ _ _ _ _ _ _ m0 m1 m2 m3).mono ?_
  rintro e u2 ⟨rfl, b2⟩
  have X2 := hide (X1.out.step b2)
  clear b2 X1 hc hl
  have hc := X2.out.box.cells
  have hl := X2.out.box.lt
  go_wp2_with fail
  refine (rcopyp_any ⟨A0, A1, A2, A3, n0, n1, n2, n3, c0, c1, c2, c3⟩ ⟨G, S, W, F⟩ _ _ X2.out.reads (Nat.le_refl _) HM.out).mono ?_
  rintro e u3 ⟨q3, rfl, o3, b3⟩
  have X3 := hide (X2.out.step b3)
  have KW := hide (Stand.first X3.out.bel o3.told HFP.out)
  have X0 := hide (X3.out.alloc (.cells q3.cs 24))
  clear hc hl o3 b3 X2
  obtain ⟨hw, hhw⟩ : ∃ h, Hid (u3.heap.size = h) := ⟨_, rfl⟩
  rw [hhw.out] at KW
  obtain ⟨V, hV⟩ : ∃ V, Hid (u3.alloc (.cells q3.cs 24) = V) := ⟨_, rfl⟩
  obtain ⟨wA0, wA1, wA2, wA3, wn0, wn1, wn2, wn3, wc0, wc1, wc2, wc3⟩ := q3
  have hV' : u3.alloc (.cells #[.slice wA0 wn0 wc0, .slice wA1 wn1 wc1, .slice wA2 wn2 wc2, .slice wA3 wn3 wc3] 24) = V := hV.out
  rw [hV.out] at KW X0
  have HV := hide hV'
  clear hV'
  have XV := X0
  have BC0 := hide (Below.refl V.heap.size V)
  have hc := X3.out.box.cells
  have hl := X3.out.box.lt
  go_wp2_with fail
  rw [HV.out, hhw.out]
  clear X3
  refine (Ha.out _ X0.out.reads).mono ?_
  rintro e ua ⟨qa, rfl, ta, ba⟩
  clear hc hl
  have BV0 := hide (next_call BC0.out (Nat.le_refl _) ba)
  have Ya := hide (Bx.first BC0.out ta FQA.out)
  have XX0 := hide (X0.out.step ba)
  have X1 := hide (XX0.out.alloc (.cells qa.cs 24))
  have BC1 := hide (BV0.out.alloc BV0.out.size (.cells qa.cs 24))
  obtain ⟨ha, hha⟩ : ∃ h, Hid (ua.heap.size = h) := ⟨_, rfl⟩
  rw [hha.out] at Ya
  obtain ⟨aA0, aA1, aA2, aA3, an0, an1, an2, an3, ac0, ac1, ac2, ac3⟩ := qa
  have hc := XX0.out.box.cells
  have hl := XX0.out.box.lt
  clear ta ba X0 BC0 BV0
  go_wp2_with fail
  refine (Hb.out _ X1.out.reads).mono ?_
  rintro e ub ⟨qb, rfl, tb, bb⟩
  clear hc hl
  rw [hha.out]
  have BV1 := hide (next_call BC1.out (Nat.le_refl _) bb)
  have Yb := hide (Bx.first BC1.out tb FQA.out)
  have XX1 := hide (X1.out.step bb)
  have X2 := hide (XX1.out.alloc (.cells qb.cs 24))
  have BC2 := hide (BV1.out.alloc BV1.out.size (.cells qb.cs 24))
  replace Ya := hide ((Ya.out.step bb).step ((Below.refl _ _).alloc (Nat.le_refl _) (.cells qb.cs 24)))
  obtain ⟨hb, hhb⟩ : ∃ h, Hid (ub.heap.size = h) := ⟨_, rfl⟩
  rw [hhb.out] at Yb
  obtain ⟨bA0, bA1, bA2, bA3, bn0, bn1, bn2, bn3, bc0, bc1, bc2, bc3⟩ := qb
  have hc := XX1.out.box.cells
  have hl := XX1.out.box.lt
  clear tb bb X1 BC1 BV1
  go_wp2_with fail
  refine (Hc.out _ X2.out.reads).mono ?_
  rintro e uc ⟨qc, rfl, tc, bc⟩
  clear hc hl
  rw [hhb.out]
  have BV2 := hide (next_call BC2.out (Nat.le_refl _) bc)
  have Yc := hide (Bx.first BC2.out tc FQC.out)
  have XX2 := hide (X2.out.step bc)
  have X3 := hide (XX2.out.alloc (.cells qc.cs 24))
  have BC3 := hide (BV2.out.alloc BV2.out.size (.cells qc.cs 24))
  replace Ya := hide ((Ya.out.step bc).step ((Below.refl _ _).alloc (Nat.le_refl _) (.cells qc.cs 24)))
  replace Yb := hide ((Yb.out.step bc).step ((Below.refl _ _).alloc (Nat.le_refl _) (.cells qc.cs 24)))
  obtain ⟨hc, hhc⟩ : ∃ h, Hid (uc.heap.size = h) := ⟨_, rfl⟩
  rw [hhc.out] at Yc
  obtain ⟨cA0, cA1, cA2, cA3, cn0, cn1, cn2, cn3, cc0, cc1, cc2, cc3⟩ := qc
  have hc := XX2.out.box.cells
  have hl := XX2.out.box.lt
  clear tc bc X2 BC2 BV2
  go_wp2_with fail
  refine (Hd.out _ X3.out.reads).mono ?_
  rintro e ud ⟨qd, rfl, td, bd⟩
  clear hc hl
  rw [hhc.out]
  have BV3 := hide (next_call BC3.out (Nat.le_refl _) bd)
  have Yd := hide (Bx.first BC3.out td FQC.out)
  have XX3 := hide (X3.out.step bd)
  have X4 := hide (XX3.out.alloc (.cells qd.cs 24))
  have BC4 := hide (BV3.out.alloc BV3.out.size (.cells qd.cs 24))
  replace Ya := hide ((Ya.out.step bd).step ((Below.refl _ _).alloc (Nat.le_refl _) (.cells qd.cs 24)))
  replace Yb := hide ((Yb.out.step bd).step ((Below.refl _ _).alloc (Nat.le_refl _) (.cells qd.cs 24)))
  replace Yc := hide ((Yc.out.step bd).step ((Below.refl _ _).alloc (Nat.le_refl _) (.cells qd.cs 24)))
  obtain ⟨hd, hhd⟩ : ∃ h, Hid (ud.heap.size = h) := ⟨_, rfl⟩
  rw [hhd.out] at Yd
  obtain ⟨dA0, dA1, dA2, dA3, dn0, dn1, dn2, dn3, dc0, dc1, dc2, dc3⟩ := qd
  have hc := XX3.out.box.cells
  have hl := XX3.out.box.lt
  clear td bd X3 BC3 BV3
  go_wp2_with fail
  refine (Hi.out _ X4.out.reads).mono ?_
  rintro e ui ⟨qi, rfl, ti, bi⟩
  clear hc hl
  rw [hhd.out]
  have BV4 := hide (next_call BC4.out (Nat.le_refl _) bi)
  have Yi := hide (Bx.first BC4.out ti FQI.out)
  have XX4 := hide (X4.out.step bi)
  have X5 := hide (XX4.out.alloc (.cells qi.cs 24))
  have BC5 := hide (BV4.out.alloc BV4.out.size (.cells qi.cs 24))
  replace Ya := hide ((Ya.out.step bi).step ((Below.refl _ _).alloc (Nat.le_refl _) (.cells qi.cs 24)))
  replace Yb := hide ((Yb.out.step bi).step ((Below.refl _ _).alloc (Nat.le_refl _) (.cells qi.cs 24)))
  replace Yc := hide ((Yc.out.step bi).step ((Below.refl _ _).alloc (Nat.le_refl _) (.cells qi.cs 24)))
  replace Yd := hide ((Yd.out.step bi).step ((Below.refl _ _).alloc (Nat.le_refl _) (.cells qi.cs 24)))
  obtain ⟨hi, hhi⟩ : ∃ h, Hid (ui.heap.size = h) := ⟨_, rfl⟩
  rw [hhi.out] at Yi
  obtain ⟨iA0, iA1, iA2, iA3, in0, in1, in2, in3, ic0, ic1, ic2, ic3⟩ := qi
  have hc := XX4.out.box.cells
  have hl := XX4.out.box.lt
  clear ti bi X4 BC4 BV4
  go_wp2_with fail
  refine (Hj.out _ X5.out.reads).mono ?_
  rintro e uj ⟨qj, rfl, tj, bj⟩
  clear hc hl
  rw [hhi.out]
  have BV5 := hide (next_call BC5.out (Nat.le_refl _) bj)
  have Yj := hide (Bx.first BC5.out tj FQI.out)
  have XX5 := hide (X5.out.step bj)
  have X6 := hide (XX5.out.alloc (.cells qj.cs 24))
  have BC6 := hide (BV5.out.alloc BV5.out.size (.cells qj.cs 24))
  replace Ya := hide ((Ya.out.step bj).step ((Below.refl _ _).alloc (Nat.le_refl _) (.cells qj.cs 24)))
  replace Yb := hide ((Yb.out.step bj).step ((Below.refl _ _).alloc (Nat.le_refl _) (.cells qj.cs 24)))
  replace Yc := hide ((Yc.out.step bj).step ((Below.refl _ _).alloc (Nat.le_refl _) (.cells qj.cs 24)))
  replace Yd := hide ((Yd.out.step bj).step ((Below.refl _ _).alloc (Nat.le_refl _) (.cells qj.cs 24)))
  replace Yi := hide ((Yi.out.step bj).step ((Below.refl _ _).alloc (Nat.le_refl _) (.cells qj.cs 24)))
  obtain ⟨hj, hhj⟩ : ∃ h, Hid (uj.heap.size = h) := ⟨_, rfl⟩
  rw [hhj.out] at Yj
  obtain ⟨jA0, jA1, jA2, jA3, jn0, jn1, jn2, jn3, jc0, jc1, jc2, jc3⟩ := qj
  have hc := XX5.out.box.cells
  have hl := XX5.out.box.lt
  clear tj bj X5 BC5 BV5
  clear hc hl
  have hc1 := Ya.out.box.cells
  have hl1 := Ya.out.box.lt
  have hc2 := Yb.out.box.cells
  have hl2 := Yb.out.box.lt
  go_wp2_with fail
  refine (samep_yes ⟨aA0, aA1, aA2, aA3, an0, an1, an2, an3, ac0, ac1, ac2, ac3⟩ ⟨bA0, bA1, bA2, bA3, bn0, bn1, bn2, bn3, bc0, bc1, bc2, bc3⟩ QA _ _ _ Ya.out.told.reads Yb.out.told.reads (Nat.le_refl _) (Nat.le_refl _) Ya.out.small).mono ?_
  rintro e s0 ⟨rfl, ds0⟩
  clear hc1 hl1 hc2 hl2
  replace Ya := hide (Ya.out.step ds0)
  replace Yb := hide (Yb.out.step ds0)
  replace Yc := hide (Yc.out.step ds0)
  replace Yd := hide (Yd.out.step ds0)
  replace Yi := hide (Yi.out.step ds0)
  replace Yj := hide (Yj.out.step ds0)
  replace BC6 := hide (next_call BC6.out (Nat.le_refl _) ds0)
  clear ds0
  rw [hhj.out]
  have hc1 := Yc.out.box.cells
  have hl1 := Yc.out.box.lt
  have hc2 := Yd.out.box.cells
  have hl2 := Yd.out.box.lt
  go_wp2_with fail
  refine (samep_yes ⟨cA0, cA1, cA2, cA3, cn0, cn1, cn2, cn3, cc0, cc1, cc2, cc3⟩ ⟨dA0, dA1, dA2, dA3, dn0, dn1, dn2, dn3, dc0, dc1, dc2, dc3⟩ QC _ _ _ Yc.out.told.reads Yd.out.told.reads (Nat.le_refl _) (Nat.le_refl _) Yc.out.small).mono ?_
  rintro e s1 ⟨rfl, ds1⟩
  clear hc1 hl1 hc2 hl2
  replace Ya := hide (Ya.out.step ds1)
  replace Yb := hide (Yb.out.step ds1)
  replace Yc := hide (Yc.out.step ds1)
  replace Yd := hide (Yd.out.step ds1)
  replace Yi := hide (Yi.out.step ds1)
  replace Yj := hide (Yj.out.step ds1)
  replace BC6 := hide (next_call BC6.out (Nat.le_refl _) ds1)
  clear ds1
  have hc1 := Yi.out.box.cells
  have hl1 := Yi.out.box.lt
  have hc2 := Yj.out.box.cells
  have hl2 := Yj.out.box.lt
  go_wp2_with fail
  refine (samep_yes ⟨iA0, iA1, iA2, iA3, in0, in1, in2, in3, ic0, ic1, ic2, ic3⟩ ⟨jA0, jA1, jA2, jA3, jn0, jn1, jn2, jn3, jc0, jc1, jc2, jc3⟩ QI _ _ _ Yi.out.told.reads Yj.out.told.reads (Nat.le_refl _) (Nat.le_refl _) Yi.out.small).mono ?_
  rintro e s2 ⟨rfl, ds2⟩
  clear hc1 hl1 hc2 hl2
  replace Ya := hide (Ya.out.step ds2)
  replace Yb := hide (Yb.out.step ds2)
  replace Yc := hide (Yc.out.step ds2)
  replace Yd := hide (Yd.out.step ds2)
  replace Yi := hide (Yi.out.step ds2)
  replace Yj := hide (Yj.out.step ds2)
  replace BC6 := hide (next_call BC6.out (Nat.le_refl _) ds2)
  clear ds2
  have hca := Ya.out.box.cells
  have hla := Ya.out.box.lt
  have hcc := Yc.out.box.cells
  have hlc := Yc.out.box.lt
  have hci := Yi.out.box.cells
  have hli := Yi.out.box.lt
  have L0 := hide (lp_first BC6.out Ya.out.told Yc.out.told Yi.out.told Ya.out.small Yc.out.small Yi.out.small)
  obtain ⟨m, hm⟩ : ∃ m, Hid (s2.heap.size = m) := ⟨_, rfl⟩
  clear Ya Yb Yc Yd Yi Yj BC6
  go_wp2
  clear hca hla hcc hlc hci hli
  rw [hm.out] at L0 ⊢
  go_loopw [112] (fun x wr => ∃ k : Nat, k ≤ 3 ∧ x = .int .i64 k ∧ Hid (Lp V wr m (cs12 ⟨aA0, aA1, aA2, aA3, an0, an1, an2, an3, ac0, ac1, ac2, ac3⟩ ⟨cA0, cA1, cA2, cA3, cn0, cn1, cn2, cn3, cc0, cc1, cc2, cc3⟩ ⟨iA0, iA1, iA2, iA3, in0, in1, in2, in3, ic0, ic1, ic2, ic3⟩) (fun q => q = ⟨aA0, aA1, aA2, aA3, an0, an1, an2, an3, ac0, ac1, ac2, ac3⟩ ∨ q = ⟨cA0, cA1, cA2, cA3, cn0, cn1, cn2, cn3, cc0, cc1, cc2, cc3⟩ ∨ q = ⟨iA0, iA1, iA2, iA3, in0, in1, in2, in3, ic0, ic1, ic2, ic3⟩)))
    (fun x _ => 3 - (intOf x).toNat)
  case atStart => exact ⟨0, by omega, rfl, L0⟩
  case round =>
    obtain ⟨k, hk, rfl, L1⟩ := hrel
    clear L0
    by_cases hlt : k < 3
    · have hdk : decide ((k : Int) < 3) = true := by simp; omega
      have harr := L1.out.arr.lt
      obtain ⟨q, hq, y0, y1, y2, y3⟩ := arr_at L1.out.arr hlt
      have HW := hide (L1.out.wrt q hq)
      have HX := hide hq
      clear hq
      obtain ⟨B0, B1, B2, B3, k0, k1, k2, k3, l0, l1, l2, l3⟩ := q
      have s1 : k1 ≤ 200 := HW.out.2.2.n1
      have s3 : k3 ≤ 200 := HW.out.2.2.n3
      dsimp only at y0 y1 y2 y3
      have L2 := hide (L1.out.alloc (.cells (C4 B0 B1 B2 B3 k0 k1 k2 k3 l0 l1 l2 l3) 24))
      have P2 := hide (PBox.new wr (C4 B0 B1 B2 B3 k0 k1 k2 k3 l0 l1 l2 l3))
      obtain ⟨g, hg⟩ : ∃ g, Hid (wr.heap.size = g) := ⟨_, rfl⟩
      go_wp2
      clear y0 y1 y2 y3 harr
      rw [hg.out] at P2 ⊢
      go_loopw [119] (fun i1 wr1 => ∃ y : Nat, y ≤ k1 ∧ i1 = .int .i64 y ∧ Hid (Lp V wr1 m (cs12 ⟨aA0, aA1, aA2, aA3, an0, an1, an2, an3, ac0, ac1, ac2, ac3⟩ ⟨cA0, cA1, cA2, cA3, cn0, cn1, cn2, cn3, cc0, cc1, cc2, cc3⟩ ⟨iA0, iA1, iA2, iA3, in0, in1, in2, in3, ic0, ic1, ic2, ic3⟩) (fun q => q = ⟨aA0, aA1, aA2, aA3, an0, an1, an2, an3, ac0, ac1, ac2, ac3⟩ ∨ q = ⟨cA0, cA1, cA2, cA3, cn0, cn1, cn2, cn3, cc0, cc1, cc2, cc3⟩ ∨ q = ⟨iA0, iA1, iA2, iA3, in0, in1, in2, in3, ic0, ic1, ic2, ic3⟩)) ∧ Hid (PBox wr1 g (C4 B0 B1 B2 B3 k0 k1 k2 k3 l0 l1 l2 l3)))
        (fun i1 _ => k1 - (intOf i1).toNat)
      case atStart => exact ⟨0, by omega, rfl, L2, P2⟩
      case round =>
        obtain ⟨y, hy, rfl, L3, P3⟩ := hrel
        clear L2 P2
        have hc := P3.out.cells
        have hl := P3.out.lt
        by_cases hyl : y < k1
        · obtain ⟨g1, off, z, cs, e1, hB, hgl, hz, hfz, hgg⟩ := (L3.out.wrt _ HX.out).1.at_ hyl
          dsimp only at e1
          subst e1
          have ne1 : g1 ≠ g := box_not P3.out hgg
          have ne2 : g ≠ g1 := ne1.symm
          have LS := fun z' : Int => hide (L3.out.set (k := off + y) hB hgg z')
          have HLS := hide LS
          have HNE := hide ne1
          clear hgg LS
          go_wp2
          go_roundw
          case rel => exact ⟨y + 1, by omega, by go_num, HLS.out _, P3.out.other HNE.out _⟩
          case measure => simp [intOf]; omega
        · go_wp2
          go_loopw [133] (fun i2 wr2 => ∃ y : Nat, y ≤ k3 ∧ i2 = .int .i64 y ∧ Hid (Lp V wr2 m (cs12 ⟨aA0, aA1, aA2, aA3, an0, an1, an2, an3, ac0, ac1, ac2, ac3⟩ ⟨cA0, cA1, cA2, cA3, cn0, cn1, cn2, cn3, cc0, cc1, cc2, cc3⟩ ⟨iA0, iA1, iA2, iA3, in0, in1, in2, in3, ic0, ic1, ic2, ic3⟩) (fun q => q = ⟨aA0, aA1, aA2, aA3, an0, an1, an2, an3, ac0, ac1, ac2, ac3⟩ ∨ q = ⟨cA0, cA1, cA2, cA3, cn0, cn1, cn2, cn3, cc0, cc1, cc2, cc3⟩ ∨ q = ⟨iA0, iA1, iA2, iA3, in0, in1, in2, in3, ic0, ic1, ic2, ic3⟩)) ∧ Hid (PBox wr2 g (C4 B0 B1 B2 B3 k0 k1 k2 k3 l0 l1 l2 l3)))
            (fun i2 _ => k3 - (intOf i2).toNat)
          case atStart => exact ⟨0, by omega, rfl, L3, P3⟩
          case round =>
            obtain ⟨y2, hy2, rfl, L4, P4⟩ := hrel
            clear L3 P3 hc hl
            have hc := P4.out.cells
            have hl := P4.out.lt
            by_cases hyl2 : y2 < k3
            · obtain ⟨g1, off, z, cs, e1, hB, hgl, hz, hfz, hgg⟩ := (L4.out.wrt _ HX.out).2.1.at_ hyl2
              dsimp only at e1
              subst e1
              have ne1 : g1 ≠ g := box_not P4.out hgg
              have ne2 : g ≠ g1 := ne1.symm
              have LS := fun z' : Int => hide (L4.out.set (k := off + y2) hB hgg z')
              have HLS := hide LS
              have HNE := hide ne1
              clear hgg LS
              go_wp2
              go_roundw
              case rel => exact ⟨y2 + 1, by omega, by go_num, HLS.out _, P4.out.other HNE.out _⟩
              case measure => simp [intOf]; omega
            · clear hc hl
              go_wp2
              go_roundw
              case rel => exact ⟨k + 1, by omega, by go_num, L4⟩
              case measure => simp [intOf]; omega
    · have hdk : decide ((k : Int) < 3) = false := by simp; omega
      have XP := hide (XV.out.step L1.out.bel)
      have XW := hide (KW.out.step L1.out.bel)
      have hc1 := XP.out.box.cells
      have hl1 := XP.out.box.lt
      have hc2 := XW.out.box.cells
      have hl2 := XW.out.box.lt
      go_wp2_with fail
      refine (samep_yes ⟨A0, A1, A2, A3, n0, n1, n2, n3, c0, c1, c2, c3⟩ ⟨wA0, wA1, wA2, wA3, wn0, wn1, wn2, wn3, wc0, wc1, wc2, wc3⟩ ⟨G, S, W, F⟩ _ _ _ XP.out.reads XW.out.reads (Nat.le_refl _) (Nat.le_refl _) HM.out).mono ?_
      rintro e sf ⟨rfl, dsf⟩
      have BF := hide (next_call XP.out.bel (Nat.le_refl _) dsf)
      clear hc1 hl1 hc2 hl2 dsf
      go_wp2
      go_ret
      exact ⟨rfl, BF.out⟩

theorem lifted (os : Os) (started : os.Started) (H : Type) (enc : TypeId × Value → H) :
    ReturnsInHanded {} Try.checked os 4 .any (Rows.poolDoesSpec.pre6 enc Try.prog Try.f4 Rows.poolDoesRow.domain false) (Rows.poolDoesSpec.post enc Try.prog Try.f4 false true false false) := by
  refine returnsInHanded_of_change (C := Try.checked) own started (by kernel_rfl) Try.func4
    (ChangeSpec.witness6 (enc := enc) (C := Try.checked) false ⟨#[], #[.agg #[.slice none 0 0, .slice none 0 0, .slice none 0 0, .slice none 0 0], .int .i64 0, .int .i64 0, .int .i64 0], []⟩ 8 (by kernel_rfl) (by kernel_rfl) (by kernel_rfl) (by kernel_rfl)) ?_
  intro W base args ds gs before hval0 hW hcnd _
  have hval : ∀ (j : Nat) t v, Try.f4.params[j]? = some t → args[j]? = some v → Value.okWide Try.prog W .any base t v := hval0
  have hW' := hW
  obtain ⟨p, q, hA0, hV, rfl, hfz, hnd⟩ := hW
  have hA : DataW.TrodAll enc Try.prog W 0 (fun _ => true) true Try.f4.params.toList args.toList ds p := hA0
  rw [Try.params4] at hA hval
  obtain ⟨x0, vs0, d0, ds0, p0, q0, hargs, rfl, rfl, h0, r0⟩ := trodAll_cons hA
  obtain ⟨x1, vs1, d1, ds1, p1, q1, rfl, rfl, rfl, h1, r1⟩ := trodAll_cons r0
  obtain ⟨x2, vs2, d2, ds2, p2, q2, rfl, rfl, rfl, h2, r2⟩ := trodAll_cons r1
  obtain ⟨x3, vs3, d3, ds3, p3, q3, rfl, rfl, rfl, h3, r3⟩ := trodAll_cons r2
  obtain ⟨rfl, rfl, rfl⟩ := trodAll_nil r3
  obtain rfl : args = #[x0, x1, x2, x3] := by cases args; simp_all
  obtain ⟨rfl, rfl⟩ := trodVars_none hV
  have lt0 : ∀ x ∈ p0, x.block < W.heap.size := by obtain ⟨m, hm⟩ := h0; exact DataW.trod_lt m _ _ _ hm
  obtain ⟨p0, P0, rfl, w0⟩ := open_pool (hval 0 24 x0 rfl rfl) h0
  obtain ⟨a1, rfl, rfl, rfl, w1⟩ := open_int Try.underlying3 (hval 1 3 x1 rfl rfl) h1
  obtain ⟨a2, rfl, rfl, rfl, w2⟩ := open_int Try.underlying3 (hval 2 3 x2 rfl rfl) h2
  obtain ⟨a3, rfl, rfl, rfl, w3⟩ := open_int Try.underlying3 (hval 3 3 x3 rfl rfl) h3
  clear hA0 hval0
  refine (walk p0 P0 a1 a2 a3 W w0 w1 w2 w3).mono fun e W' ⟨he, bel⟩ => ?_
  subst he
  exact ⟨_, rfl, _, _, _, [], _, [], hW', trodAll_mk1 (shut_bool Try.underlying4 _), (trodAll_cons_mk (Below.trod laidOut (by kernel_rfl) (of_decide_eq_true (by kernel_rfl)) h0 bel lt0) (trodAll_cons_mk (shut_int Try.underlying3 w1) (trodAll_cons_mk (shut_int Try.underlying3 w2) (trodAll_cons_mk (shut_int Try.underlying3 w3) trodAll_mk0)))), rfl, bel.frame _, fun h => by cases h⟩

theorem over : Rows.poolDoesRow.holds Try.pinned (OpenSpec.ofChange Rows.poolDoesSpec) :=
  OpenClaim.holds_of_wide 4 Try.f4 rfl rfl rfl rfl rfl rfl rfl ⟨rfl, rfl, rfl, rfl, rfl⟩ rfl rfl rfl rfl rfl (by kernel_rfl) Try.func4 (by kernel_rfl)
    (of_decide_eq_true (by kernel_rfl)) (by unfold Func.isWrapper; first | (rw [if_pos (by decide +kernel)]; kernel_rfl) | (rw [if_neg (by decide +kernel)]; exact ⟨rfl, rfl⟩))
    (fun os started H enc _ => lifted os started H enc)

end Go.Proofs.Ytfdbbfjnianahaa.poolDoes

namespace Go.Proofs.Ytfdbbfjnianahaa
/-- The statement. -/
theorem poolDoes_holds : Rows.PoolDoesSaid := poolDoes.over
#print axioms poolDoes_holds
end Go.Proofs.Ytfdbbfjnianahaa
