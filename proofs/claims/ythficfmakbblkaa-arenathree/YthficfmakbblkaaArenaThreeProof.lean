/- For everything that is shared: if it may be, nobody is pinned, and nothing was retired later than now, three turns leave nothing retired, and as many live as there were. (The statement tendrillaw07.ArenaThree.) -/
import Derived.Test.YthficfmakbblkaaRows
import Derived.Test.YthficfmakbblkaaArC
import Derived.WalkKit
import Derived.Deep.DeepCutAuto
namespace Go.Proofs.Ythficfmakbblkaa.arenaThree
open Go.Joins Go.ChangeShapes Go.WideShapes Go.ChangeAt Go.RowKit Go.Deep
open Pool (Pl PL MayBe noP noPl Drew Told4)
set_option linter.unusedVariables false

set_option maxRecDepth 100000 in
set_option maxHeartbeats 8000000 in
theorem walk (s0 : Sh) (X0 : SL) (w : World) (w0 : Sees w s0 X0) (f0 : (Lit.int .i64 s0.t).wf = true) :
    Calls Try.prog 7 #[s0.val] w (Drew (.bool true) w) := by
  have T0 := hide (St.arg w0)
  clear w0 f0
  obtain ⟨b, HB⟩ := bool7 (OkS X0)
  obtain ⟨f, HFW⟩ := bool7 (FewV s0)
  go_enter Try.func7, Try.ntmps7
  go_wp2_with fail
  refine (live_yes _).mono ?_
  rintro e u1 ⟨rfl, b1⟩
  have T1 := hide (T0.out.step b1)
  clear b1 T0
  go_wp2_with (first | ((with_reducible refine ld31 (.tmp 1) w.heap.size ?_ s0 ?_ ?_); (exact rfl); (exact T1.out.box)))
  refine (few_any s0 f _ HFW).mono ?_
  rintro e u2 ⟨rfl, b2⟩
  have T2 := hide (T1.out.step b2)
  clear b2 T1
  cases f with
  | false =>
    go_wp2
    go_ret
    exact ⟨rfl, T2.out.bel⟩
  | true =>
    have HF := hide (few_of T2.out.sees (HFW.out.1 rfl))
    clear HFW
    go_wp2_with (first | ((with_reducible refine ld31w (.tmp 1) w.heap.size ?_ ?_ s0 ?_ ?_); (exact rfl); (exact rfl); (exact T2.out.box)))
    refine (check_any s0 X0 b _ T2.out.sees HF.out HB).mono ?_
    rintro e u3 ⟨rfl, b3⟩
    have T3 := hide (T2.out.step b3)
    clear b3 T2
    obtain ⟨c0, c1⟩ := T3.out.box.era
    rw [T3.out.sees.t] at c0
    have hl := T3.out.box.lt
    cases b with
    | false =>
      go_wp2
      go_ret
      exact ⟨rfl, T3.out.bel⟩
    | true =>
      have HO := hide (HB.out.1 rfl)
      clear HB
      by_cases hT : 576460752303423488 < X0.T
      · have d1 : decide (576460752303423488 < X0.T) = true := by simpa using hT
        go_wp2
        go_ret
        exact ⟨rfl, T3.out.bel⟩
      · have d1 : decide (576460752303423488 < X0.T) = false := by simpa using hT
        have fz0 := T3.out.box.frozen 14
        have fz1 := T3.out.box.frozen 15
        have T4 := hide (T3.out.alloc (.cells #[.int .i64 (-1)] 3))
        have RZ : Hid (Era.Reads (u3.alloc (.cells #[.int .i64 (-1)] 3)) (u3.alloc (.cells #[.int .i64 (-1)] 3)).heap.size (some ⟨u3.heap.size, 0, none⟩) 1 1 [-1]) := by
          have h := Era.lit_nums u3 (-1)
          refine ⟨?_, fun h => by cases h⟩
          simpa using h
        have T5 := hide (T4.out.era (t := X0.T) RZ.out (fun d hd => by obtain ⟨_, a, ha, rfl⟩ := hd; cases ha; show u3.heap.size ≠ _; omega))
        rw [World.setCell_alloc_past _ _ _ _ hl, World.setCell_alloc_past _ _ _ _ (by simpa using hl)] at T5
        generalize hs1 : s0.setEra X0.T ⟨some ⟨u3.heap.size, 0, none⟩, 1, 1⟩ = s1 at T5
        generalize hX1 : X0.setEra X0.T [-1] = X1 at T5
        have P1 : Hid (X1.T = X0.T ∧ X1.Z = [-1] ∧ OkS X1 ∧ Few X1 ∧ ∀ k, X1.pl k = X0.pl k) := by
          rw [← hX1]
          exact ⟨rfl, rfl, ⟨fun k hk => by rw [setERA_pl]; exact HO.out.1 k hk, HO.out.2.1, ⟨by simp [SL.setEra], by simp [SL.setEra]⟩, fun z hz => .inl (by simpa [SL.setEra] using hz)⟩, few_setEra HF.out (by simp), fun k => setERA_pl _ _ _ k⟩
        have HT1 : Hid (X1.T ≤ 576460752303423488) := by show _ ≤ _; rw [P1.out.1]; omega
        have HX1 : Hid (s1.t = X0.T) := by rw [← hs1]; exact rfl
        clear hs1 hX1 RZ HO HF
        have HB5 := hide T5.out.box
        go_wp2_with (first | ((with_reducible refine ld27 (.tmp 40) w.heap.size ?_ s1 ?_ ?_); (exact rfl); (exact HB5.out)))
        clear c0 c1 fz0 fz1 hl T3 T4 HB5
        go_loopw [42] (fun i wr => ∃ k : Nat, k ≤ 3 ∧ i = .int .i64 k ∧ Hid (St w wr w.heap.size s1 X1) ∧ Hid (∀ j, j < k → NR X1.T (X1.pl j))) (fun i _ => 3 - (intOf i).toNat)
        case atStart => exact ⟨0, by omega, rfl, T5, fun j hj => absurd hj (by omega)⟩
        case round =>
          obtain ⟨k, hk, rfl, TR, HN⟩ := hrel
          clear T5
          by_cases hlt : k < 3
          · have hi := ps_at s1 k hlt
            have RK := hide (TR.out.sees.p k hlt)
            have MK := hide (P1.out.2.2.1.1 k hlt)
            have TA := hide (TR.out.alloc (.cells (s1.pl k).cs 26))
            have RA := hide ((TA.out.sees.p k hlt))
            have PB := hide (Pool.PBox.new wr (s1.pl k).cs)
            generalize s1.pl k = p at hi RK TA RA PB
            obtain ⟨A0, A1, A2, A3, n0, n1, n2, n3, q0, q1, q2, q3⟩ := p
            generalize hPk : X1.pl k = P at RK MK RA
            obtain ⟨G, S, W, F⟩ := P
            have hlg : n0 = n2 ∧ n2 = W.length ∧ n2 ≤ 64 := by
              have h1 := RK.out.g.1
              have h2 := RK.out.t.1
              have h3 := MK.out.2.2.2.1
              have h4 := MK.out.2.1
              dsimp only at h1 h2 h3 h4
              omega
            obtain ⟨rfl, hwl, hn64⟩ := hlg
            have HWL := hide hwl
            clear hwl
            have pc := PB.out.cells
            go_wp2_with fail
            clear pc
            go_loopw [48] (fun i wx => ∃ m : Nat, m ≤ n0 ∧ i = .int .i64 m ∧ Hid (St w wx w.heap.size s1 X1) ∧ Hid (Pool.PBox wx wr.heap.size (Pool.C4 A0 A1 A2 A3 n0 n1 n0 n3 q0 q1 q2 q3)) ∧ Hid (Pool.Reads wx wx.heap.size ⟨A0, A1, A2, A3, n0, n1, n0, n3, q0, q1, q2, q3⟩ ⟨G, S, W, F⟩) ∧ Hid (∀ j, j < m → W.getD j 0 ≤ X1.T ∧ G.getD j 0 < 1099511627775)) (fun i _ => n0 - (intOf i).toNat)
            case atStart => exact ⟨0, by omega, rfl, TA, PB, RA, fun j hj => absurd hj (by omega)⟩
            case round =>
              obtain ⟨m, hm, rfl, ST, PX, RX, HA⟩ := hrel
              clear TA PB RA
              have pc := PX.out.cells
              have pl := PX.out.lt
              obtain ⟨c0, c1⟩ := ST.out.box.era
              rw [ST.out.sees.t] at c0
              have sl := ST.out.box.lt
              by_cases hmn : m < n0
              · obtain ⟨b0, o0, e0, hB0, hx0⟩ := RX.out.g.at_ hmn
                obtain ⟨b2, o2, e2, hB2, hx2⟩ := RX.out.t.at_ hmn
                dsimp only at e0 e2
                subst e0 e2
                have hgs := (MK.out.2.2.2.2.1 m (by have := RK.out.g.1; dsimp only at this ⊢; omega)).2.1
                have hm0 : (0 : Int) ≤ (m : Int) := by omega
                have hm1 : (m : Int) < (n0 : Int) := by omega
                have HA' : Hid (W.getD m 0 ≤ X1.T → G.getD m 0 < 1099511627775 → ∀ j, j < m + 1 → W.getD j 0 ≤ X1.T ∧ G.getD j 0 < 1099511627775) := fun g1 g2 j hj => by
                  rcases Nat.lt_or_ge j m with h | h
                  · exact HA.out j h
                  · obtain rfl : j = m := by omega
                    exact ⟨g1, g2⟩
                dsimp only at hx0 hx2 hgs
                generalize G.getD m 0 = gv at hx0 hgs HA'
                generalize W.getD m 0 = wv at hx2 HA'
                by_cases g1 : X1.T < wv
                · have t1 : decide (X1.T < wv) = true := by simpa using g1
                  go_wp2
                  go_ret
                  exact ⟨rfl, ST.out.bel⟩
                have t1 : decide (X1.T < wv) = false := by simpa using g1
                by_cases g2 : wv < 0
                · have t2 : decide (wv < 0) = true := by simpa using g2
                  go_wp2
                  go_ret
                  exact ⟨rfl, ST.out.bel⟩
                have t2 : decide (wv < 0) = false := by simpa using g2
                by_cases g3 : gv = 1099511627775
                · have t3 : (gv == 1099511627775) = true := by simpa using g3
                  go_wp2
                  go_ret
                  exact ⟨rfl, ST.out.bel⟩
                have t3 : (gv == 1099511627775) = false := by simpa using g3
                have HA2 := hide (HA'.out (by omega) (by omega))
                go_wp2
                go_roundw
                case rel => exact ⟨m + 1, by omega, by go_num, ST, PX, RX, HA2⟩
                case measure => simp [intOf]; omega
              · have HN' : Hid (∀ j, j < k + 1 → NR X1.T (X1.pl j)) := fun j hj => by
                  rcases Nat.lt_or_ge j k with h | h
                  · exact HN.out j h
                  · obtain rfl : j = k := by omega
                    rw [hPk]
                    exact fun i hi _ => HA.out i (by have := RK.out.g.1; dsimp only at this hi; omega)
                go_wp2
                go_roundw
                case rel => exact ⟨k + 1, by omega, by go_num, ST, HN'⟩
                case measure => simp [intOf]; omega
          · have HN3 : Hid (∀ j, j < 3 → NR X1.T (X1.pl j)) := fun j hj => HN.out j (by omega)
            have HI := hide (it_ok P1.out.2.2.1 P1.out.2.2.2.1 P1.out.2.1 HT1.out)
            have TF := hide (Th.first TR.out)
            go_wp2_with (first | ((with_reducible refine ld31 (.tmp 1) w.heap.size ?_ s1 ?_ ?_); (exact rfl); (exact TR.out.box)) | ((with_reducible refine st31 (.tmp 7) (.tmp 72) wr.heap.size ?_ s1 ?_ noSh ?_ ?_); (exact rfl); (exact rfl); (exact heap_alloc_new _ _)))
            generalize wr.heap.size = h at TF ⊢
            clear HN TR
            go_loopw [73] (fun i wx => ∃ (m : Nat) (s : Sh), m ≤ 3 ∧ i = .int .i64 m ∧ Hid (Th w wx s (it X1 m) h s1 X1)) (fun i _ => 3 - (intOf i).toNat)
            case atStart => exact ⟨0, s1, by omega, rfl, TF⟩
            case round =>
              obtain ⟨m, s, hm, rfl, TM⟩ := hrel
              clear TF
              by_cases hm3 : m < 3
              · obtain ⟨o1, o2, o3, o4⟩ := HI.out m hm
                have CT : Hid (Calls Try.prog 24 #[s.val] wr (TellS wr s (it X1 (m + 1)) (fun v => .tuple #[v, .bool true]))) := by
                  have h := turn_any s (it X1 m) true true wr TM.out.st.sees o2 (Era.yes_of o1) (Era.yes_of (by rw [o4]; exact step_one _))
                  rw [(tr_pl (X := it X1 m) (by have := HT1.out; omega) (k := 0) (by omega)).2.2.2] at h
                  exact h
                clear o1 o2 o3 o4
                go_wp2_with (first | ((with_reducible refine ld31 (.tmp 1) w.heap.size ?_ s ?_ ?_); (exact rfl); (exact TM.out.st.box)))
                refine CT.out.mono ?_
                rintro e v1 ⟨s', rfl, S', K', b'⟩
                have NX := hide (TM.out.next S' K' b')
                clear S' K' b' CT TM
                go_wp2_with (first | ((with_reducible refine st31 (.tmp 8) (.tmp 78) v1.heap.size ?_ s' ?_ noSh ?_ ?_); (exact rfl); (exact rfl); (exact heap_alloc_new _ _)) | ((with_reducible refine ld31 (.tmp 8) v1.heap.size ?_ s' ?_ ?_); (exact rfl); (exact NX.out.1)) | ((with_reducible refine st31 (.tmp 1) (.tmp 82) w.heap.size ?_ s' ?_ s ?_ ?_); (exact rfl); (exact rfl); (exact NX.out.2.1)))
                go_roundw
                case rel => exact ⟨m + 1, s', by omega, by go_num, NX.out.2.2⟩
                case measure => simp [intOf]; omega
              · obtain rfl : m = 3 := by omega
                go_wp2_with (first | ((with_reducible refine ld27 (.tmp 84) w.heap.size ?_ s ?_ ?_); (exact rfl); (exact TM.out.st.box)))
                go_loopw [86] (fun i wx => ∃ (j : Nat), j ≤ 3 ∧ i = .int .i64 j ∧ Hid (Th w wx s (it X1 3) h s1 X1)) (fun i _ => 3 - (intOf i).toNat)
                case atStart => exact ⟨0, by omega, rfl, TM⟩
                case round =>
                  obtain ⟨j, hj, rfl, TJ⟩ := hrel
                  clear TM
                  by_cases hj3 : j < 3
                  · have hi := ps_at s j hj3
                    have hj0 : (0 : Int) ≤ (j : Int) := by omega
                    have hj1 : (j : Int) < 3 := by omega
                    obtain ⟨M3, l3, z3, e3⟩ := it_three P1.out.2.2.1 P1.out.2.2.2.1 P1.out.2.1 HT1.out hj3 (HN3.out j hj3)
                    obtain ⟨k1, k2, k3, k4, k5, k6, k7, k8⟩ := Pool.cnt_good M3 l3
                    have TA := hide (TJ.out.step ((Below.refl _ _).alloc (Nat.le_refl _) (.cells (s.pl j).cs 26)))
                    have PB := hide (Pool.PBox.new wr (s.pl j).cs)
                    have C1 := hide (Pool.count_any (s.pl j) ((it X1 3).pl j) _ true _ (TA.out.st.sees.p j hj3) (Nat.le_refl _) (small_of (TA.out.st.sees.p j hj3) (Pool.few_may M3)) (Pool.yes_may M3))
                    have M1 := P1.out.2.2.1.1 j hj3
                    have C2 : Hid (∀ u, Hid (Th w u s (it X1 3) h s1 X1) → Calls Try.prog 29 #[(s1.pl j).val] u (Drew (.tuple #[.int .i64 (Pool.cnt true (X1.pl j).S 1), .int .i64 (Pool.cnt true (X1.pl j).S 2), .int .i64 (Pool.cnt true (X1.pl j).S 0)]) u)) :=
                      fun u hu => Pool.count_any (s1.pl j) (X1.pl j) _ true u (hu.out.ws.sees.p j hj3) (Nat.le_refl _) (small_of (hu.out.ws.sees.p j hj3) (Pool.few_may M1)) (Pool.yes_may M1)
                    have hn0 : (s1.pl j).n0 = (X1.pl j).G.length := by have := (TJ.out.ws.sees.p j hj3).g.1; omega
                    have hn64 : (s1.pl j).n0 ≤ 64 := by rw [hn0]; exact M1.2.1
                    rw [z3, e3] at C1
                    rw [z3] at k1
                    rw [e3] at k1 k3 k5
                    rw [← hn0] at k1
                    generalize Pool.cnt true (X1.pl j).S 1 = vL at C1 C2 k1 k3 k5
                    generalize Pool.cnt true ((it X1 3).pl j).S 0 = vF at C1 k1 k7 k8
                    have hsum : vL + vF = ((s1.pl j).n0 : Int) := by omega
                    obtain ⟨q0, q1, q2, q3⟩ := cells4 PB.out
                    have HJ := hide hn64
                    clear z3 e3 k2 k4 k6 M3 l3 M1 hn0
                    go_wp2_with fail
                    refine C1.out.mono ?_
                    rintro e v1 ⟨rfl, hv1⟩
                    have T1 := hide (TA.out.step hv1)
                    clear hv1 C1 q0 q1 q2 q3 PB TA hi
                    obtain ⟨q0, q1, q2, q3⟩ := T1.out.ws.box.pool hj3
                    have hl1 := T1.out.ws.box.lt
                    go_wp2_with fail
                    refine (C2.out _ T1).mono ?_
                    rintro e v2 ⟨rfl, hv2⟩
                    have T2 := hide (T1.out.step hv2)
                    clear hv2 C2 q0 q1 q2 q3 hl1 T1
                    obtain ⟨q0, q1, q2, q3⟩ := T2.out.ws.box.pool hj3
                    have hl1 := T2.out.ws.box.lt
                    have hvv : (vL != vL) = false := by simp
                    have hnn : (((s1.pl j).n0 : Int) != ((s1.pl j).n0 : Int)) = false := by simp
                    go_wp2
                    go_roundw
                    case rel => exact ⟨j + 1, by omega, by go_num, T2⟩
                    case measure => simp [intOf]; omega
                  · go_wp2
                    go_ret
                    exact ⟨rfl, TJ.out.st.bel⟩

set_option maxRecDepth 100000 in
theorem lifted (os : Os) (started : os.Started) (H : Type) (enc : TypeId × Value → H) :
    ReturnsInHanded {} Try.checked os 7 .any (Rows.arenaThreeSpec.pre6 enc Try.prog Try.f7 Rows.arenaThreeRow.domain false) (Rows.arenaThreeSpec.post enc Try.prog Try.f7 false true false false) := by
  refine returnsInHanded_of_change (C := Try.checked) own started (by kernel_rfl) Try.func7
    (ChangeSpec.witness6 (enc := enc) (C := Try.checked) false ⟨#[], #[.agg #[.slice none 0 0, .slice none 0 0, .slice none 0 0, .slice none 0 0, .slice none 0 0, .slice none 0 0, .slice none 0 0, .slice none 0 0, .slice none 0 0, .slice none 0 0, .slice none 0 0, .slice none 0 0, .slice none 0 0, .slice none 0 0, .int .i64 0, .slice none 0 0]], []⟩ 8 (by kernel_rfl) (by kernel_rfl) (by kernel_rfl) (by kernel_rfl)) ?_
  intro W base args ds gs before hval0 hW hcnd _
  have hval : ∀ (j : Nat) t v, Try.f7.params[j]? = some t → args[j]? = some v → Value.okWide Try.prog W .any base t v := hval0
  have hW' := hW
  obtain ⟨p, q, hA0, hV, rfl, hfz, hnd⟩ := hW
  have hA : DataW.TrodAll enc Try.prog W 0 (fun _ => true) true Try.f7.params.toList args.toList ds p := hA0
  rw [Try.params7] at hA hval
  obtain ⟨x0, vs0, d0, ds0, p0_, q0, hargs, rfl, rfl, h0, r0⟩ := trodAll_cons hA
  obtain ⟨rfl, rfl, rfl⟩ := trodAll_nil r0
  obtain rfl : args = #[x0] := by cases args; simp_all
  obtain ⟨rfl, rfl⟩ := trodVars_none hV
  have lt0 : ∀ x ∈ p0_, x.block < W.heap.size := by obtain ⟨m, hm⟩ := h0; exact DataW.trod_lt m _ _ _ hm
  obtain ⟨s0, X0, rfl, w0, f0⟩ := open_shared (hval 0 31 x0 rfl rfl) h0
  clear hA0 hval0
  refine (walk s0 X0 W w0 f0).mono fun e W' ⟨he, bel⟩ => ?_
  subst he
  exact ⟨_, rfl, _, _, _, [], _, [], hW', trodAll_mk1 (shut_bool Try.underlying4 _), (trodAll_cons_mk (Below.trod laidOut (by kernel_rfl) (of_decide_eq_true (by kernel_rfl)) h0 bel lt0) trodAll_mk0), rfl, bel.frame _, fun h => by cases h⟩

theorem over : Rows.arenaThreeRow.holds Try.pinned (OpenSpec.ofChange Rows.arenaThreeSpec) :=
  OpenClaim.holds_of_wide 7 Try.f7 rfl rfl rfl rfl rfl rfl rfl ⟨rfl, rfl, rfl, rfl, rfl⟩ rfl rfl rfl rfl rfl (by kernel_rfl) Try.func7 (by kernel_rfl)
    (of_decide_eq_true (by kernel_rfl)) (by unfold Func.isWrapper; first | (rw [if_pos (by decide +kernel)]; kernel_rfl) | (rw [if_neg (by decide +kernel)]; exact ⟨rfl, rfl⟩))
    (fun os started H enc _ => lifted os started H enc)

end Go.Proofs.Ythficfmakbblkaa.arenaThree

namespace Go.Proofs.Ythficfmakbblkaa
/-- The statement. -/
theorem arenaThree_holds : Rows.ArenaThreeSaid := arenaThree.over
#print axioms arenaThree_holds
end Go.Proofs.Ythficfmakbblkaa
