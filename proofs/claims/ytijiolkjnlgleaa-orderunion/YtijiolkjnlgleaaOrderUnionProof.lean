/- A union has what is in one or the other, and who is within both ways is the same set: for every two lists and every number the answer is true. (The statement tendrillaw09.OrderUnion.) -/
import Derived.Test.YtijiolkjnlgleaaRows
import Derived.Test.YtijiolkjnlgleaaLaws
import Derived.Test.YtijiolkjnlgleaaFrame
import Derived.WalkKit
namespace Go.Proofs.Ytijiolkjnlgleaa.orderUnion
open Go.Joins Go.ChangeShapes Go.WideShapes Go.ChangeAt Go.RowKit Go.Deep
set_option linter.unusedVariables false

set_option maxRecDepth 100000 in
set_option maxHeartbeats 2000000 in
theorem walk (A0 : Option Addr) (n0 c0 : Nat) (z0 : List Int) (A1 : Option Addr) (n1 c1 : Nat) (z1 : List Int) (a2 : Int) (w : World) (w0 : Came w 1 A0 n0 c0 z0) (s0 : n0 ≤ 17592186044416) (w1 : Came w 1 A1 n1 c1 z1) (s1 : n1 ≤ 17592186044416) (w2 : (Lit.int .i64 a2).wf = true) :
    Calls Try.prog 7 #[.slice A0 n0 c0, .slice A1 n1 c1, .int .i64 a2] w (Drew (.bool true) w) := by
  obtain ⟨hN, hnc, hA, hwf⟩ := w0
  obtain ⟨hN1, hnc1, hA1, hwf1⟩ := w1
  have HN := hide hN
  have HA := hide hA
  have HW := hide hwf
  have HL : Hid (z0.length = n0) := by have := hN.1; show _ = _; omega
  have HM := hide hN1
  have HA1 := hide hA1
  have HW1 := hide hwf1
  have HL1 : Hid (z1.length = n1) := by have := hN1.1; show _ = _; omega
  clear hN hA hwf hnc hN1 hA1 hwf1 hnc1
  have H0 := hide (live_yes w)
  by_cases h1 : 150 < n0
  · have t1 : decide ((150 : Int) < (n0 : Int)) = true := by simp; omega
    go_enter Try.func7, Try.ntmps7
    go_wp2_with fail
    refine H0.out.mono ?_
    rintro e u1 ⟨rfl, hb1⟩
    go_wp2
    go_ret
    exact ⟨rfl, hb1⟩
  have t1 : decide ((150 : Int) < (n0 : Int)) = false := by simp; omega
  by_cases h2 : 150 < n1
  · have t2 : decide ((150 : Int) < (n1 : Int)) = true := by simp; omega
    go_enter Try.func7, Try.ntmps7
    go_wp2_with fail
    refine H0.out.mono ?_
    rintro e u1 ⟨rfl, hb1⟩
    go_wp2
    go_ret
    exact ⟨rfl, hb1⟩
  have t2 : decide ((150 : Int) < (n1 : Int)) = false := by simp; omega
  have hn0 : n0 ≤ 150 := by omega
  have hn1 : n1 ≤ 150 := by omega
  clear h1 h2
  have hlu : (z0 ++ z1).length ≤ 300 := by have := HL.out; have := HL1.out; simp; omega
  have HLU := hide (Nat.le_trans (len_sset (z0 ++ z1)) hlu)
  clear hlu
  have HWU : Hid (∀ z ∈ sset (z0 ++ z1), (Lit.int .i64 z).wf = true) := fun z hz => by
    rcases List.mem_append.1 (mem_sset.1 hz) with h | h
    · exact HW.out z h
    · exact HW1.out z h
  have I1 : Hid (within z0 (sset (z0 ++ z1)) = true) := within_iff.2 fun z hz => mem_sset.2 (by simp [hz])
  have I2 : Hid (within z1 (sset (z0 ++ z1)) = true) := within_iff.2 fun z hz => mem_sset.2 (by simp [hz])
  have IU : Hid (Ups (sset (z0 ++ z1))) := (ups_iff _).2 (up_sset _)
  have HC : Hid ((sset (z0 ++ z1)).contains a2 = (z0.contains a2 || z1.contains a2)) := by
    show _ = _
    rw [Bool.eq_iff_iff]
    simp [mem_sset]
  have HSW := hide (sset_swap z0 z1)
  obtain ⟨q1, Q1⟩ : ∃ q, Hid (z0.contains a2 = q) := ⟨_, rfl⟩
  obtain ⟨q2, Q2⟩ : ∃ q, Hid (z1.contains a2 = q) := ⟨_, rfl⟩
  obtain ⟨p1, P1⟩ : ∃ q, Hid (within z0 z1 = q) := ⟨_, rfl⟩
  obtain ⟨p2, P2⟩ : ∃ q, Hid (within z1 z0 = q) := ⟨_, rfl⟩
  have HQ : Hid ((sset (z0 ++ z1)).contains a2 = (q1 || q2)) := by show _ = _; rw [HC.out, Q1.out, Q2.out]
  have HB : Hid ((p1 && p2) = true ↔ sset z0 = sset z1) := by
    show _ ↔ _
    rw [← P1.out, ← P2.out, sset_iff, Bool.and_eq_true, within_iff, within_iff]
    exact ⟨fun h z => ⟨h.1 z, h.2 z⟩, fun h => ⟨fun z => (h z).1, fun z => (h z).2⟩⟩
  have HI : Hid (p1 = true → sset (z0 ++ z1) = sset z1) := fun e => by
    have h := within_iff.1 (P1.out.trans e)
    exact sset_same fun z => by
      rw [List.mem_append]
      exact ⟨fun h' => h'.elim (h z) id, Or.inr⟩
  cases q1 <;> cases p1
  · have HQ' : Hid ((sset (z0 ++ z1)).contains a2 = q2) := HQ.out
    have HB' : Hid (false = true ↔ sset z0 = sset z1) := HB.out
    have HB2 : Hid (sset z0 ≠ sset z1) := fun e => by have := HB'.out.2 e; cases this
    clear HB'
    clear HQ HB HI
    go_enter Try.func7, Try.ntmps7
    go_wp2_with fail
    refine (H0.out).mono ?_
    rintro e u1 ⟨rfl, hb⟩
    have HN := hide (HN.out.step hb)
    have HM := hide (HM.out.step hb)
    have B := hide hb
    clear hb
    go_wp2_with fail
    refine (union_any A0 A1 n0 c0 n1 c1 z0 z1 u1 HN.out HM.out HW HW1 s0 s1).mono ?_
    rintro e u2 ⟨As, ms, ds, rfl, hAs, hr, hb⟩
    have HN := hide (HN.out.step hb)
    have HM := hide (HM.out.step hb)
    have B := hide (B.out.trans (hb.mono B.out.size))
    have Ns := hide (own_nums hr)
    have Ls := hide (own_len hr)
    clear hr hb
    have hms : ms ≤ 300 := by have := Ls.out; have := HLU.out; omega
    go_wp2_with fail
    refine (has_any As ms ds _ (sset (z0 ++ z1)) a2 q2 u2 Ns.out HQ' (by omega)).mono ?_
    rintro e v0 ⟨rfl, rfl⟩
    go_wp2_with fail
    refine (has_any A0 n0 c0 _ z0 a2 false u2 HN.out Q1 s0).mono ?_
    rintro e v0 ⟨rfl, rfl⟩
    go_wp2_with fail
    refine (has_any A1 n1 c1 _ z1 a2 q2 u2 HM.out Q2 s1).mono ?_
    rintro e v0 ⟨rfl, rfl⟩
    go_wp2_with fail
    refine (within_any A0 As n0 ms c0 ds z0 (sset (z0 ++ z1)) true u2 HN.out Ns.out HW HWU I1 s0 (by omega)).mono ?_
    rintro e u3 ⟨rfl, hb⟩
    have HN := hide (HN.out.step hb)
    have HM := hide (HM.out.step hb)
    have Ns := hide (Ns.out.step hb)
    have B := hide (B.out.trans (hb.mono B.out.size))
    clear hb
    go_wp2_with fail
    refine (within_any A1 As n1 ms c1 ds z1 (sset (z0 ++ z1)) true u3 HM.out Ns.out HW1 HWU I2 s1 (by omega)).mono ?_
    rintro e u4 ⟨rfl, hb⟩
    have HN := hide (HN.out.step hb)
    have HM := hide (HM.out.step hb)
    have Ns := hide (Ns.out.step hb)
    have B := hide (B.out.trans (hb.mono B.out.size))
    clear hb
    go_wp2_with fail
    refine (chk_yes As ms ds _ (sset (z0 ++ z1)) u4 Ns.out IU.out (by omega)).mono ?_
    rintro e u5 ⟨rfl, hb⟩
    have HN := hide (HN.out.step hb)
    have HM := hide (HM.out.step hb)
    have Ns := hide (Ns.out.step hb)
    have B := hide (B.out.trans (hb.mono B.out.size))
    clear hb
    go_wp2_with fail
    refine (within_any A0 A1 n0 n1 c0 c1 z0 z1 false u5 HN.out HM.out HW HW1 P1 s0 s1).mono ?_
    rintro e u6 ⟨rfl, hb⟩
    have HN := hide (HN.out.step hb)
    have HM := hide (HM.out.step hb)
    have Ns := hide (Ns.out.step hb)
    have B := hide (B.out.trans (hb.mono B.out.size))
    clear hb
    go_wp2_with fail
    refine (union_any A1 A0 n1 c1 n0 c0 z1 z0 u6 HM.out HN.out HW1 HW s1 s0).mono ?_
    rintro e u7 ⟨Av, mv, dv, rfl, hAv, hr, hb⟩
    have HN := hide (HN.out.step hb)
    have HM := hide (HM.out.step hb)
    have Ns := hide (Ns.out.step hb)
    have B := hide (B.out.trans (hb.mono B.out.size))
    have Nv := hide (own_nums hr)
    have Lv := hide (own_len hr)
    clear hr hb
    have Lv2 : Hid (mv = (sset (z0 ++ z1)).length) := by have := Lv.out; rw [← HSW.out] at this; exact this
    obtain rfl : mv = ms := by have := Ls.out; have := Lv2.out; omega
    have Nv2 := hide (Nv.out.as HSW.out.symm)
    go_wp2_with fail
    refine (same_yes As Av mv ds dv _ _ (sset (z0 ++ z1)) u7 Ns.out Nv2.out (by omega)).mono ?_
    rintro e u8 ⟨rfl, hb⟩
    have HN := hide (HN.out.step hb)
    have HM := hide (HM.out.step hb)
    have Ns := hide (Ns.out.step hb)
    have Nv := hide (Nv.out.step hb)
    have B := hide (B.out.trans (hb.mono B.out.size))
    clear hb
    go_wp2_with fail
    refine (within_any A0 A1 n0 n1 c0 c1 z0 z1 false u8 HN.out HM.out HW HW1 P1 s0 s1).mono ?_
    rintro e u9 ⟨rfl, hb⟩
    have HN := hide (HN.out.step hb)
    have HM := hide (HM.out.step hb)
    have Ns := hide (Ns.out.step hb)
    have Nv := hide (Nv.out.step hb)
    have B := hide (B.out.trans (hb.mono B.out.size))
    clear hb
    go_wp2_with fail
    refine (set_any A0 n0 c0 z0 u9 HN.out HW s0).mono ?_
    rintro e u10 ⟨Ax, mx, dx, rfl, hAx, hr, hb⟩
    have HN := hide (HN.out.step hb)
    have HM := hide (HM.out.step hb)
    have Ns := hide (Ns.out.step hb)
    have Nv := hide (Nv.out.step hb)
    have B := hide (B.out.trans (hb.mono B.out.size))
    have Nx := hide (own_nums hr)
    have Lx := hide (own_len hr)
    clear hr hb
    go_wp2_with fail
    refine (set_any A1 n1 c1 z1 u10 HM.out HW1 s1).mono ?_
    rintro e u11 ⟨Ay, my, dy, rfl, hAy, hr, hb⟩
    have HN := hide (HN.out.step hb)
    have HM := hide (HM.out.step hb)
    have Ns := hide (Ns.out.step hb)
    have Nv := hide (Nv.out.step hb)
    have Nx := hide (Nx.out.step hb)
    have B := hide (B.out.trans (hb.mono B.out.size))
    have Ny := hide (own_nums hr)
    have Ly := hide (own_len hr)
    clear hr hb
    have hmx : mx ≤ 150 := by have := Lx.out; have := len_sset z0; have := HL.out; omega
    have hmy : my ≤ 150 := by have := Ly.out; have := len_sset z1; have := HL1.out; omega
    go_wp2_with fail
    refine (same_any Ax Ay mx my dx dy _ _ (sset z0) (sset z1) false u11 Nx.out Ny.out ⟨(fun h => by cases h), fun h => absurd h HB2.out⟩ (by omega) (by omega)).mono ?_
    rintro e u12 ⟨rfl, hb⟩
    have HN := hide (HN.out.step hb)
    have HM := hide (HM.out.step hb)
    have Ns := hide (Ns.out.step hb)
    have Nv := hide (Nv.out.step hb)
    have Nx := hide (Nx.out.step hb)
    have Ny := hide (Ny.out.step hb)
    have B := hide (B.out.trans (hb.mono B.out.size))
    clear hb
    go_wp2
    go_ret
    exact ⟨rfl, B.out⟩
  · have HQ' : Hid ((sset (z0 ++ z1)).contains a2 = q2) := HQ.out
    have HB' : Hid (p2 = true ↔ sset z0 = sset z1) := HB.out
    have HI' := hide (HI.out rfl)
    clear HQ HB HI
    go_enter Try.func7, Try.ntmps7
    go_wp2_with fail
    refine (H0.out).mono ?_
    rintro e u1 ⟨rfl, hb⟩
    have HN := hide (HN.out.step hb)
    have HM := hide (HM.out.step hb)
    have B := hide hb
    clear hb
    go_wp2_with fail
    refine (union_any A0 A1 n0 c0 n1 c1 z0 z1 u1 HN.out HM.out HW HW1 s0 s1).mono ?_
    rintro e u2 ⟨As, ms, ds, rfl, hAs, hr, hb⟩
    have HN := hide (HN.out.step hb)
    have HM := hide (HM.out.step hb)
    have B := hide (B.out.trans (hb.mono B.out.size))
    have Ns := hide (own_nums hr)
    have Ls := hide (own_len hr)
    clear hr hb
    have hms : ms ≤ 300 := by have := Ls.out; have := HLU.out; omega
    go_wp2_with fail
    refine (has_any As ms ds _ (sset (z0 ++ z1)) a2 q2 u2 Ns.out HQ' (by omega)).mono ?_
    rintro e v0 ⟨rfl, rfl⟩
    go_wp2_with fail
    refine (has_any A0 n0 c0 _ z0 a2 false u2 HN.out Q1 s0).mono ?_
    rintro e v0 ⟨rfl, rfl⟩
    go_wp2_with fail
    refine (has_any A1 n1 c1 _ z1 a2 q2 u2 HM.out Q2 s1).mono ?_
    rintro e v0 ⟨rfl, rfl⟩
    go_wp2_with fail
    refine (within_any A0 As n0 ms c0 ds z0 (sset (z0 ++ z1)) true u2 HN.out Ns.out HW HWU I1 s0 (by omega)).mono ?_
    rintro e u3 ⟨rfl, hb⟩
    have HN := hide (HN.out.step hb)
    have HM := hide (HM.out.step hb)
    have Ns := hide (Ns.out.step hb)
    have B := hide (B.out.trans (hb.mono B.out.size))
    clear hb
    go_wp2_with fail
    refine (within_any A1 As n1 ms c1 ds z1 (sset (z0 ++ z1)) true u3 HM.out Ns.out HW1 HWU I2 s1 (by omega)).mono ?_
    rintro e u4 ⟨rfl, hb⟩
    have HN := hide (HN.out.step hb)
    have HM := hide (HM.out.step hb)
    have Ns := hide (Ns.out.step hb)
    have B := hide (B.out.trans (hb.mono B.out.size))
    clear hb
    go_wp2_with fail
    refine (chk_yes As ms ds _ (sset (z0 ++ z1)) u4 Ns.out IU.out (by omega)).mono ?_
    rintro e u5 ⟨rfl, hb⟩
    have HN := hide (HN.out.step hb)
    have HM := hide (HM.out.step hb)
    have Ns := hide (Ns.out.step hb)
    have B := hide (B.out.trans (hb.mono B.out.size))
    clear hb
    go_wp2_with fail
    refine (within_any A0 A1 n0 n1 c0 c1 z0 z1 true u5 HN.out HM.out HW HW1 P1 s0 s1).mono ?_
    rintro e u6 ⟨rfl, hb⟩
    have HN := hide (HN.out.step hb)
    have HM := hide (HM.out.step hb)
    have Ns := hide (Ns.out.step hb)
    have B := hide (B.out.trans (hb.mono B.out.size))
    clear hb
    go_wp2_with fail
    refine (set_any A1 n1 c1 z1 u6 HM.out HW1 s1).mono ?_
    rintro e u7 ⟨At, mt, dt, rfl, hAt, hr, hb⟩
    have HN := hide (HN.out.step hb)
    have HM := hide (HM.out.step hb)
    have Ns := hide (Ns.out.step hb)
    have B := hide (B.out.trans (hb.mono B.out.size))
    have Nt := hide (own_nums hr)
    have Lt := hide (own_len hr)
    clear hr hb
    have Ls2 : Hid (ms = (sset z1).length) := by have := Ls.out; rw [HI'.out] at this; exact this
    obtain rfl : mt = ms := by have := Ls2.out; have := Lt.out; omega
    have Nt2 := hide (Nt.out.as HI'.out.symm)
    go_wp2_with fail
    refine (same_yes As At mt ds dt _ _ (sset (z0 ++ z1)) u7 Ns.out Nt2.out (by omega)).mono ?_
    rintro e u8 ⟨rfl, hb⟩
    have HN := hide (HN.out.step hb)
    have HM := hide (HM.out.step hb)
    have Ns := hide (Ns.out.step hb)
    have Nt := hide (Nt.out.step hb)
    have B := hide (B.out.trans (hb.mono B.out.size))
    clear hb
    go_wp2_with fail
    refine (union_any A1 A0 n1 c1 n0 c0 z1 z0 u8 HM.out HN.out HW1 HW s1 s0).mono ?_
    rintro e u9 ⟨Av, mv, dv, rfl, hAv, hr, hb⟩
    have HN := hide (HN.out.step hb)
    have HM := hide (HM.out.step hb)
    have Ns := hide (Ns.out.step hb)
    have Nt := hide (Nt.out.step hb)
    have B := hide (B.out.trans (hb.mono B.out.size))
    have Nv := hide (own_nums hr)
    have Lv := hide (own_len hr)
    clear hr hb
    have Lv2 : Hid (mv = (sset (z0 ++ z1)).length) := by have := Lv.out; rw [← HSW.out] at this; exact this
    obtain rfl : mv = mt := by have := Ls.out; have := Lv2.out; omega
    have Nv2 := hide (Nv.out.as HSW.out.symm)
    go_wp2_with fail
    refine (same_yes As Av mv ds dv _ _ (sset (z0 ++ z1)) u9 Ns.out Nv2.out (by omega)).mono ?_
    rintro e u10 ⟨rfl, hb⟩
    have HN := hide (HN.out.step hb)
    have HM := hide (HM.out.step hb)
    have Ns := hide (Ns.out.step hb)
    have Nt := hide (Nt.out.step hb)
    have Nv := hide (Nv.out.step hb)
    have B := hide (B.out.trans (hb.mono B.out.size))
    clear hb
    go_wp2_with fail
    refine (within_any A0 A1 n0 n1 c0 c1 z0 z1 true u10 HN.out HM.out HW HW1 P1 s0 s1).mono ?_
    rintro e u11 ⟨rfl, hb⟩
    have HN := hide (HN.out.step hb)
    have HM := hide (HM.out.step hb)
    have Ns := hide (Ns.out.step hb)
    have Nt := hide (Nt.out.step hb)
    have Nv := hide (Nv.out.step hb)
    have B := hide (B.out.trans (hb.mono B.out.size))
    clear hb
    go_wp2_with fail
    refine (within_any A1 A0 n1 n0 c1 c0 z1 z0 p2 u11 HM.out HN.out HW1 HW P2 s1 s0).mono ?_
    rintro e u12 ⟨rfl, hb⟩
    have HN := hide (HN.out.step hb)
    have HM := hide (HM.out.step hb)
    have Ns := hide (Ns.out.step hb)
    have Nt := hide (Nt.out.step hb)
    have Nv := hide (Nv.out.step hb)
    have B := hide (B.out.trans (hb.mono B.out.size))
    clear hb
    go_wp2_with fail
    refine (set_any A0 n0 c0 z0 u12 HN.out HW s0).mono ?_
    rintro e u13 ⟨Ax, mx, dx, rfl, hAx, hr, hb⟩
    have HN := hide (HN.out.step hb)
    have HM := hide (HM.out.step hb)
    have Ns := hide (Ns.out.step hb)
    have Nt := hide (Nt.out.step hb)
    have Nv := hide (Nv.out.step hb)
    have B := hide (B.out.trans (hb.mono B.out.size))
    have Nx := hide (own_nums hr)
    have Lx := hide (own_len hr)
    clear hr hb
    go_wp2_with fail
    refine (set_any A1 n1 c1 z1 u13 HM.out HW1 s1).mono ?_
    rintro e u14 ⟨Ay, my, dy, rfl, hAy, hr, hb⟩
    have HN := hide (HN.out.step hb)
    have HM := hide (HM.out.step hb)
    have Ns := hide (Ns.out.step hb)
    have Nt := hide (Nt.out.step hb)
    have Nv := hide (Nv.out.step hb)
    have Nx := hide (Nx.out.step hb)
    have B := hide (B.out.trans (hb.mono B.out.size))
    have Ny := hide (own_nums hr)
    have Ly := hide (own_len hr)
    clear hr hb
    have hmx : mx ≤ 150 := by have := Lx.out; have := len_sset z0; have := HL.out; omega
    have hmy : my ≤ 150 := by have := Ly.out; have := len_sset z1; have := HL1.out; omega
    go_wp2_with fail
    refine (same_any Ax Ay mx my dx dy _ _ (sset z0) (sset z1) p2 u14 Nx.out Ny.out HB' (by omega) (by omega)).mono ?_
    rintro e u15 ⟨rfl, hb⟩
    have HN := hide (HN.out.step hb)
    have HM := hide (HM.out.step hb)
    have Ns := hide (Ns.out.step hb)
    have Nt := hide (Nt.out.step hb)
    have Nv := hide (Nv.out.step hb)
    have Nx := hide (Nx.out.step hb)
    have Ny := hide (Ny.out.step hb)
    have B := hide (B.out.trans (hb.mono B.out.size))
    clear hb
    go_wp2
    go_ret
    exact ⟨rfl, B.out⟩
  · have HQ' : Hid ((sset (z0 ++ z1)).contains a2 = true) := HQ.out
    have HB' : Hid (false = true ↔ sset z0 = sset z1) := HB.out
    have HB2 : Hid (sset z0 ≠ sset z1) := fun e => by have := HB'.out.2 e; cases this
    clear HB'
    clear HQ HB HI
    go_enter Try.func7, Try.ntmps7
    go_wp2_with fail
    refine (H0.out).mono ?_
    rintro e u1 ⟨rfl, hb⟩
    have HN := hide (HN.out.step hb)
    have HM := hide (HM.out.step hb)
    have B := hide hb
    clear hb
    go_wp2_with fail
    refine (union_any A0 A1 n0 c0 n1 c1 z0 z1 u1 HN.out HM.out HW HW1 s0 s1).mono ?_
    rintro e u2 ⟨As, ms, ds, rfl, hAs, hr, hb⟩
    have HN := hide (HN.out.step hb)
    have HM := hide (HM.out.step hb)
    have B := hide (B.out.trans (hb.mono B.out.size))
    have Ns := hide (own_nums hr)
    have Ls := hide (own_len hr)
    clear hr hb
    have hms : ms ≤ 300 := by have := Ls.out; have := HLU.out; omega
    go_wp2_with fail
    refine (has_any As ms ds _ (sset (z0 ++ z1)) a2 true u2 Ns.out HQ' (by omega)).mono ?_
    rintro e v0 ⟨rfl, rfl⟩
    go_wp2_with fail
    refine (has_any A0 n0 c0 _ z0 a2 true u2 HN.out Q1 s0).mono ?_
    rintro e v0 ⟨rfl, rfl⟩
    go_wp2_with fail
    refine (within_any A0 As n0 ms c0 ds z0 (sset (z0 ++ z1)) true u2 HN.out Ns.out HW HWU I1 s0 (by omega)).mono ?_
    rintro e u3 ⟨rfl, hb⟩
    have HN := hide (HN.out.step hb)
    have HM := hide (HM.out.step hb)
    have Ns := hide (Ns.out.step hb)
    have B := hide (B.out.trans (hb.mono B.out.size))
    clear hb
    go_wp2_with fail
    refine (within_any A1 As n1 ms c1 ds z1 (sset (z0 ++ z1)) true u3 HM.out Ns.out HW1 HWU I2 s1 (by omega)).mono ?_
    rintro e u4 ⟨rfl, hb⟩
    have HN := hide (HN.out.step hb)
    have HM := hide (HM.out.step hb)
    have Ns := hide (Ns.out.step hb)
    have B := hide (B.out.trans (hb.mono B.out.size))
    clear hb
    go_wp2_with fail
    refine (chk_yes As ms ds _ (sset (z0 ++ z1)) u4 Ns.out IU.out (by omega)).mono ?_
    rintro e u5 ⟨rfl, hb⟩
    have HN := hide (HN.out.step hb)
    have HM := hide (HM.out.step hb)
    have Ns := hide (Ns.out.step hb)
    have B := hide (B.out.trans (hb.mono B.out.size))
    clear hb
    go_wp2_with fail
    refine (within_any A0 A1 n0 n1 c0 c1 z0 z1 false u5 HN.out HM.out HW HW1 P1 s0 s1).mono ?_
    rintro e u6 ⟨rfl, hb⟩
    have HN := hide (HN.out.step hb)
    have HM := hide (HM.out.step hb)
    have Ns := hide (Ns.out.step hb)
    have B := hide (B.out.trans (hb.mono B.out.size))
    clear hb
    go_wp2_with fail
    refine (union_any A1 A0 n1 c1 n0 c0 z1 z0 u6 HM.out HN.out HW1 HW s1 s0).mono ?_
    rintro e u7 ⟨Av, mv, dv, rfl, hAv, hr, hb⟩
    have HN := hide (HN.out.step hb)
    have HM := hide (HM.out.step hb)
    have Ns := hide (Ns.out.step hb)
    have B := hide (B.out.trans (hb.mono B.out.size))
    have Nv := hide (own_nums hr)
    have Lv := hide (own_len hr)
    clear hr hb
    have Lv2 : Hid (mv = (sset (z0 ++ z1)).length) := by have := Lv.out; rw [← HSW.out] at this; exact this
    obtain rfl : mv = ms := by have := Ls.out; have := Lv2.out; omega
    have Nv2 := hide (Nv.out.as HSW.out.symm)
    go_wp2_with fail
    refine (same_yes As Av mv ds dv _ _ (sset (z0 ++ z1)) u7 Ns.out Nv2.out (by omega)).mono ?_
    rintro e u8 ⟨rfl, hb⟩
    have HN := hide (HN.out.step hb)
    have HM := hide (HM.out.step hb)
    have Ns := hide (Ns.out.step hb)
    have Nv := hide (Nv.out.step hb)
    have B := hide (B.out.trans (hb.mono B.out.size))
    clear hb
    go_wp2_with fail
    refine (within_any A0 A1 n0 n1 c0 c1 z0 z1 false u8 HN.out HM.out HW HW1 P1 s0 s1).mono ?_
    rintro e u9 ⟨rfl, hb⟩
    have HN := hide (HN.out.step hb)
    have HM := hide (HM.out.step hb)
    have Ns := hide (Ns.out.step hb)
    have Nv := hide (Nv.out.step hb)
    have B := hide (B.out.trans (hb.mono B.out.size))
    clear hb
    go_wp2_with fail
    refine (set_any A0 n0 c0 z0 u9 HN.out HW s0).mono ?_
    rintro e u10 ⟨Ax, mx, dx, rfl, hAx, hr, hb⟩
    have HN := hide (HN.out.step hb)
    have HM := hide (HM.out.step hb)
    have Ns := hide (Ns.out.step hb)
    have Nv := hide (Nv.out.step hb)
    have B := hide (B.out.trans (hb.mono B.out.size))
    have Nx := hide (own_nums hr)
    have Lx := hide (own_len hr)
    clear hr hb
    go_wp2_with fail
    refine (set_any A1 n1 c1 z1 u10 HM.out HW1 s1).mono ?_
    rintro e u11 ⟨Ay, my, dy, rfl, hAy, hr, hb⟩
    have HN := hide (HN.out.step hb)
    have HM := hide (HM.out.step hb)
    have Ns := hide (Ns.out.step hb)
    have Nv := hide (Nv.out.step hb)
    have Nx := hide (Nx.out.step hb)
    have B := hide (B.out.trans (hb.mono B.out.size))
    have Ny := hide (own_nums hr)
    have Ly := hide (own_len hr)
    clear hr hb
    have hmx : mx ≤ 150 := by have := Lx.out; have := len_sset z0; have := HL.out; omega
    have hmy : my ≤ 150 := by have := Ly.out; have := len_sset z1; have := HL1.out; omega
    go_wp2_with fail
    refine (same_any Ax Ay mx my dx dy _ _ (sset z0) (sset z1) false u11 Nx.out Ny.out ⟨(fun h => by cases h), fun h => absurd h HB2.out⟩ (by omega) (by omega)).mono ?_
    rintro e u12 ⟨rfl, hb⟩
    have HN := hide (HN.out.step hb)
    have HM := hide (HM.out.step hb)
    have Ns := hide (Ns.out.step hb)
    have Nv := hide (Nv.out.step hb)
    have Nx := hide (Nx.out.step hb)
    have Ny := hide (Ny.out.step hb)
    have B := hide (B.out.trans (hb.mono B.out.size))
    clear hb
    go_wp2
    go_ret
    exact ⟨rfl, B.out⟩
  · have HQ' : Hid ((sset (z0 ++ z1)).contains a2 = true) := HQ.out
    have HB' : Hid (p2 = true ↔ sset z0 = sset z1) := HB.out
    have HI' := hide (HI.out rfl)
    clear HQ HB HI
    go_enter Try.func7, Try.ntmps7
    go_wp2_with fail
    refine (H0.out).mono ?_
    rintro e u1 ⟨rfl, hb⟩
    have HN := hide (HN.out.step hb)
    have HM := hide (HM.out.step hb)
    have B := hide hb
    clear hb
    go_wp2_with fail
    refine (union_any A0 A1 n0 c0 n1 c1 z0 z1 u1 HN.out HM.out HW HW1 s0 s1).mono ?_
    rintro e u2 ⟨As, ms, ds, rfl, hAs, hr, hb⟩
    have HN := hide (HN.out.step hb)
    have HM := hide (HM.out.step hb)
    have B := hide (B.out.trans (hb.mono B.out.size))
    have Ns := hide (own_nums hr)
    have Ls := hide (own_len hr)
    clear hr hb
    have hms : ms ≤ 300 := by have := Ls.out; have := HLU.out; omega
    go_wp2_with fail
    refine (has_any As ms ds _ (sset (z0 ++ z1)) a2 true u2 Ns.out HQ' (by omega)).mono ?_
    rintro e v0 ⟨rfl, rfl⟩
    go_wp2_with fail
    refine (has_any A0 n0 c0 _ z0 a2 true u2 HN.out Q1 s0).mono ?_
    rintro e v0 ⟨rfl, rfl⟩
    go_wp2_with fail
    refine (within_any A0 As n0 ms c0 ds z0 (sset (z0 ++ z1)) true u2 HN.out Ns.out HW HWU I1 s0 (by omega)).mono ?_
    rintro e u3 ⟨rfl, hb⟩
    have HN := hide (HN.out.step hb)
    have HM := hide (HM.out.step hb)
    have Ns := hide (Ns.out.step hb)
    have B := hide (B.out.trans (hb.mono B.out.size))
    clear hb
    go_wp2_with fail
    refine (within_any A1 As n1 ms c1 ds z1 (sset (z0 ++ z1)) true u3 HM.out Ns.out HW1 HWU I2 s1 (by omega)).mono ?_
    rintro e u4 ⟨rfl, hb⟩
    have HN := hide (HN.out.step hb)
    have HM := hide (HM.out.step hb)
    have Ns := hide (Ns.out.step hb)
    have B := hide (B.out.trans (hb.mono B.out.size))
    clear hb
    go_wp2_with fail
    refine (chk_yes As ms ds _ (sset (z0 ++ z1)) u4 Ns.out IU.out (by omega)).mono ?_
    rintro e u5 ⟨rfl, hb⟩
    have HN := hide (HN.out.step hb)
    have HM := hide (HM.out.step hb)
    have Ns := hide (Ns.out.step hb)
    have B := hide (B.out.trans (hb.mono B.out.size))
    clear hb
    go_wp2_with fail
    refine (within_any A0 A1 n0 n1 c0 c1 z0 z1 true u5 HN.out HM.out HW HW1 P1 s0 s1).mono ?_
    rintro e u6 ⟨rfl, hb⟩
    have HN := hide (HN.out.step hb)
    have HM := hide (HM.out.step hb)
    have Ns := hide (Ns.out.step hb)
    have B := hide (B.out.trans (hb.mono B.out.size))
    clear hb
    go_wp2_with fail
    refine (set_any A1 n1 c1 z1 u6 HM.out HW1 s1).mono ?_
    rintro e u7 ⟨At, mt, dt, rfl, hAt, hr, hb⟩
    have HN := hide (HN.out.step hb)
    have HM := hide (HM.out.step hb)
    have Ns := hide (Ns.out.step hb)
    have B := hide (B.out.trans (hb.mono B.out.size))
    have Nt := hide (own_nums hr)
    have Lt := hide (own_len hr)
    clear hr hb
    have Ls2 : Hid (ms = (sset z1).length) := by have := Ls.out; rw [HI'.out] at this; exact this
    obtain rfl : mt = ms := by have := Ls2.out; have := Lt.out; omega
    have Nt2 := hide (Nt.out.as HI'.out.symm)
    go_wp2_with fail
    refine (same_yes As At mt ds dt _ _ (sset (z0 ++ z1)) u7 Ns.out Nt2.out (by omega)).mono ?_
    rintro e u8 ⟨rfl, hb⟩
    have HN := hide (HN.out.step hb)
    have HM := hide (HM.out.step hb)
    have Ns := hide (Ns.out.step hb)
    have Nt := hide (Nt.out.step hb)
    have B := hide (B.out.trans (hb.mono B.out.size))
    clear hb
    go_wp2_with fail
    refine (union_any A1 A0 n1 c1 n0 c0 z1 z0 u8 HM.out HN.out HW1 HW s1 s0).mono ?_
    rintro e u9 ⟨Av, mv, dv, rfl, hAv, hr, hb⟩
    have HN := hide (HN.out.step hb)
    have HM := hide (HM.out.step hb)
    have Ns := hide (Ns.out.step hb)
    have Nt := hide (Nt.out.step hb)
    have B := hide (B.out.trans (hb.mono B.out.size))
    have Nv := hide (own_nums hr)
    have Lv := hide (own_len hr)
    clear hr hb
    have Lv2 : Hid (mv = (sset (z0 ++ z1)).length) := by have := Lv.out; rw [← HSW.out] at this; exact this
    obtain rfl : mv = mt := by have := Ls.out; have := Lv2.out; omega
    have Nv2 := hide (Nv.out.as HSW.out.symm)
    go_wp2_with fail
    refine (same_yes As Av mv ds dv _ _ (sset (z0 ++ z1)) u9 Ns.out Nv2.out (by omega)).mono ?_
    rintro e u10 ⟨rfl, hb⟩
    have HN := hide (HN.out.step hb)
    have HM := hide (HM.out.step hb)
    have Ns := hide (Ns.out.step hb)
    have Nt := hide (Nt.out.step hb)
    have Nv := hide (Nv.out.step hb)
    have B := hide (B.out.trans (hb.mono B.out.size))
    clear hb
    go_wp2_with fail
    refine (within_any A0 A1 n0 n1 c0 c1 z0 z1 true u10 HN.out HM.out HW HW1 P1 s0 s1).mono ?_
    rintro e u11 ⟨rfl, hb⟩
    have HN := hide (HN.out.step hb)
    have HM := hide (HM.out.step hb)
    have Ns := hide (Ns.out.step hb)
    have Nt := hide (Nt.out.step hb)
    have Nv := hide (Nv.out.step hb)
    have B := hide (B.out.trans (hb.mono B.out.size))
    clear hb
    go_wp2_with fail
    refine (within_any A1 A0 n1 n0 c1 c0 z1 z0 p2 u11 HM.out HN.out HW1 HW P2 s1 s0).mono ?_
    rintro e u12 ⟨rfl, hb⟩
    have HN := hide (HN.out.step hb)
    have HM := hide (HM.out.step hb)
    have Ns := hide (Ns.out.step hb)
    have Nt := hide (Nt.out.step hb)
    have Nv := hide (Nv.out.step hb)
    have B := hide (B.out.trans (hb.mono B.out.size))
    clear hb
    go_wp2_with fail
    refine (set_any A0 n0 c0 z0 u12 HN.out HW s0).mono ?_
    rintro e u13 ⟨Ax, mx, dx, rfl, hAx, hr, hb⟩
    have HN := hide (HN.out.step hb)
    have HM := hide (HM.out.step hb)
    have Ns := hide (Ns.out.step hb)
    have Nt := hide (Nt.out.step hb)
    have Nv := hide (Nv.out.step hb)
    have B := hide (B.out.trans (hb.mono B.out.size))
    have Nx := hide (own_nums hr)
    have Lx := hide (own_len hr)
    clear hr hb
    go_wp2_with fail
    refine (set_any A1 n1 c1 z1 u13 HM.out HW1 s1).mono ?_
    rintro e u14 ⟨Ay, my, dy, rfl, hAy, hr, hb⟩
    have HN := hide (HN.out.step hb)
    have HM := hide (HM.out.step hb)
    have Ns := hide (Ns.out.step hb)
    have Nt := hide (Nt.out.step hb)
    have Nv := hide (Nv.out.step hb)
    have Nx := hide (Nx.out.step hb)
    have B := hide (B.out.trans (hb.mono B.out.size))
    have Ny := hide (own_nums hr)
    have Ly := hide (own_len hr)
    clear hr hb
    have hmx : mx ≤ 150 := by have := Lx.out; have := len_sset z0; have := HL.out; omega
    have hmy : my ≤ 150 := by have := Ly.out; have := len_sset z1; have := HL1.out; omega
    go_wp2_with fail
    refine (same_any Ax Ay mx my dx dy _ _ (sset z0) (sset z1) p2 u14 Nx.out Ny.out HB' (by omega) (by omega)).mono ?_
    rintro e u15 ⟨rfl, hb⟩
    have HN := hide (HN.out.step hb)
    have HM := hide (HM.out.step hb)
    have Ns := hide (Ns.out.step hb)
    have Nt := hide (Nt.out.step hb)
    have Nv := hide (Nv.out.step hb)
    have Nx := hide (Nx.out.step hb)
    have Ny := hide (Ny.out.step hb)
    have B := hide (B.out.trans (hb.mono B.out.size))
    clear hb
    go_wp2
    go_ret
    exact ⟨rfl, B.out⟩

theorem lifted (os : Os) (started : os.Started) (H : Type) (enc : TypeId × Value → H) :
    ReturnsInHanded {} Try.checked os 7 .any (Rows.orderUnionSpec.pre6 enc Try.prog Try.f7 Rows.orderUnionRow.domain false) (Rows.orderUnionSpec.post enc Try.prog Try.f7 false true false false) := by
  refine returnsInHanded_of_change_sized (C := Try.checked) own started (by kernel_rfl) Try.func7
    (ChangeSpec.witness6 (enc := enc) (C := Try.checked) false ⟨#[], #[.slice none 0 0, .slice none 0 0, .int .i64 0], []⟩ 8 (by kernel_rfl) (by kernel_rfl) (by kernel_rfl) (by kernel_rfl)) ?_
  intro W base args ds gs before hval0 hW hcnd hz0 _
  have hval : ∀ (j : Nat) t v, Try.f7.params[j]? = some t → args[j]? = some v → Value.okWide Try.prog W .any base t v := hval0
  have hW' := hW
  obtain ⟨p, q, hA0, hV, rfl, hfz, hnd⟩ := hW
  have hA : DataW.TrodAll enc Try.prog W 0 (fun _ => true) true Try.f7.params.toList args.toList ds p := hA0
  have hz := hz0
  rw [Try.params7] at hA hval hz
  obtain ⟨x0, vs0, d0, ds0, p0, q0, hargs, rfl, rfl, h0, r0⟩ := trodAll_cons hA
  obtain ⟨x1, vs1, d1, ds1, p1, q1, rfl, rfl, rfl, h1, r1⟩ := trodAll_cons r0
  obtain ⟨x2, vs2, d2, ds2, p2, q2, rfl, rfl, rfl, h2, r2⟩ := trodAll_cons r1
  obtain ⟨rfl, rfl, rfl⟩ := trodAll_nil r2
  obtain rfl : args = #[x0, x1, x2] := by cases args; simp_all
  obtain ⟨rfl, rfl⟩ := trodVars_none hV
  have lt0 : ∀ x ∈ p0, x.block < W.heap.size := by obtain ⟨m, hm⟩ := h0; exact DataW.trod_lt m _ _ _ hm
  have lt1 : ∀ x ∈ p1, x.block < W.heap.size := by obtain ⟨m, hm⟩ := h1; exact DataW.trod_lt m _ _ _ hm
  obtain ⟨A0, n0, c0, rfl⟩ := okWide_slice Try.underlying22 (hval 0 22 x0 rfl rfl)
  obtain ⟨z0, w0⟩ := open_flat Try.underlying22 cells3 (by omega) elem3 h0
  have s0 := open_size (j := 0) h0 hz rfl rfl
  obtain ⟨A1, n1, c1, rfl⟩ := okWide_slice Try.underlying22 (hval 1 22 x1 rfl rfl)
  obtain ⟨z1, w1⟩ := open_flat Try.underlying22 cells3 (by omega) elem3 h1
  have s1 := open_size (j := 1) h1 hz rfl rfl
  obtain ⟨a2, rfl, rfl, rfl, w2⟩ := open_int Try.underlying3 (hval 2 3 x2 rfl rfl) h2
  clear hA0 hval0 hz0
  refine (walk A0 n0 c0 z0 A1 n1 c1 z1 a2 W w0 s0 w1 s1 w2).mono fun e W' ⟨he, bel⟩ => ?_
  subst he
  exact ⟨_, rfl, _, _, _, [], _, [], hW', trodAll_mk1 (shut_bool Try.underlying4 _), (trodAll_cons_mk (Below.trod laidOut (by kernel_rfl) (of_decide_eq_true (by kernel_rfl)) h0 bel lt0) (trodAll_cons_mk (Below.trod laidOut (by kernel_rfl) (of_decide_eq_true (by kernel_rfl)) h1 bel lt1) (trodAll_cons_mk (shut_int Try.underlying3 w2) trodAll_mk0))), rfl, bel.frame _, fun h => by cases h⟩

theorem over : Rows.orderUnionRow.holds Try.pinned (OpenSpec.ofChange Rows.orderUnionSpec) :=
  OpenClaim.holds_of_wide 7 Try.f7 rfl rfl rfl rfl rfl rfl rfl ⟨rfl, rfl, rfl, rfl, rfl⟩ rfl rfl rfl rfl rfl (by kernel_rfl) Try.func7 (by kernel_rfl)
    (of_decide_eq_true (by kernel_rfl)) (by unfold Func.isWrapper; first | (rw [if_pos (by decide +kernel)]; kernel_rfl) | (rw [if_neg (by decide +kernel)]; exact ⟨rfl, rfl⟩))
    (fun os started H enc _ => lifted os started H enc)

end Go.Proofs.Ytijiolkjnlgleaa.orderUnion

namespace Go.Proofs.Ytijiolkjnlgleaa
/-- The statement. -/
theorem orderUnion_holds : Rows.OrderUnionSaid := orderUnion.over
#print axioms orderUnion_holds
end Go.Proofs.Ytijiolkjnlgleaa
