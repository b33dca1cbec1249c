/- What the document's Check tells, of any pool that is not great. -/
import Derived.Test.YtfdbbfjnianahaaWalksD
namespace Go.Proofs.Ytfdbbfjnianahaa
open Go.RowKit
set_option linter.unusedVariables false

theorem count_next {F : List Int} {k j : Nat} (hj : j < F.length) : (F.take (j + 1)).count (k : Int) = if F.getD j 0 = (k : Int) then (F.take j).count (k : Int) + 1 else (F.take j).count (k : Int) := by
  rw [List.take_succ_eq_append_getElem hj, List.count_append]
  simp only [List.getD_eq_getElem?_getD, List.getElem?_eq_getElem hj, Option.getD_some, List.count_singleton]
  by_cases h : F[j] = (k : Int)
  · simp [h]
  · simp [h]

set_option maxRecDepth 4000 in
set_option maxHeartbeats 4000000 in
theorem rcheck_any (p : Pl) (P : PL) (B : Nat) (b : Bool) (w : World) (hr : Reads w B p P) (hB : B ≤ w.heap.size) (hm : Small p) (hb : Hid (b = true ↔ MayBe P)) :
    Calls Try.prog 17 #[p.val] w (Drew (.int .i64 (chk b)) w) := by
  obtain ⟨A0, A1, A2, A3, n0, n1, n2, n3, c0, c1, c2, c3⟩ := p
  obtain ⟨G, S, W, F⟩ := P
  obtain ⟨hg, hs, ht, hf, zg, zs, zt, zf⟩ := hr
  obtain ⟨m0, m1, m2, m3⟩ := hm
  dsimp only at hg hs ht hf zg zs zt zf m0 m1 m2 m3
  have lg := hide hg.1
  have ls := hide hs.1
  have lt := hide ht.1
  have lf := hide hf.1
  have HG := hide hg
  have HS := hide hs
  have HT := hide ht
  have HF := hide hf
  clear hg hs ht hf zg zs zt zf
  show Calls Try.prog 17 #[V4 A0 A1 A2 A3 n0 n1 n2 n3 c0 c1 c2 c3] w (Drew (.int .i64 (chk b)) w)
  by_cases s1 : 1 ≤ n0
  · have d1 : decide ((n0 : Int) < 1) = false := by simp; omega
    by_cases s2 : n0 ≤ 64
    · have d2 : decide ((64 : Int) < (n0 : Int)) = false := by simp; omega
      by_cases e1 : n1 = n0
      · by_cases e2 : n2 = n0
        · subst e1
          subst e2
          obtain ⟨n, rfl⟩ : ∃ n, n = n2 := ⟨_, rfl⟩
          have h1 : (((n : Nat) : Int) != (n : Int)) = false := by simp
          obtain ⟨b0, o0, rfl, q0, _⟩ := HG.out.at_ (k := 0) (by omega)
          obtain ⟨b1, o1, rfl, q1, _⟩ := HS.out.at_ (k := 0) (by omega)
          obtain ⟨b2, o2, rfl, q2, _⟩ := HT.out.at_ (k := 0) (by omega)
          have B0 := hide ((Below.refl w.heap.size w).alloc (Nat.le_refl _) (.cells #[.slice (some ⟨b0, o0, none⟩) n c0, .slice (some ⟨b1, o1, none⟩) n c1, .slice (some ⟨b2, o2, none⟩) n c2, .slice A3 n3 c3] 24))
          go_enter Try.func17, Try.ntmps17
          go_wp2
          go_loopw [4, 33] (fun f i wr => ∃ k q : Nat, k ≤ n ∧ i = .int .i64 k ∧ f = .int .i64 (q : Int) ∧ q ≤ k ∧ Hid (metSum F k = q) ∧ wr = w.alloc (.cells #[.slice (some ⟨b0, o0, none⟩) n c0, .slice (some ⟨b1, o1, none⟩) n c1, .slice (some ⟨b2, o2, none⟩) n c2, .slice A3 n3 c3] 24) ∧ Hid (∀ j, j < k → SlotOk (G.getD j 0) (S.getD j 0) (W.getD j 0) ∧ F.count (j : Int) ≤ 1 ∧ (F.count (j : Int) = 1 ↔ S.getD j 0 = 0)))
            (fun _ i _ => n - (intOf i).toNat)
          case atStart => exact ⟨0, 0, by omega, rfl, rfl, by omega, rfl, rfl, by intro j hj; omega⟩
          case round =>
            obtain ⟨k, q, hk, rfl, rfl, hfk, HM, rfl, HA⟩ := hrel
            by_cases hlt : k < n
            · have hdk : decide ((k : Int) < (n : Int)) = true := by simp; omega
              obtain ⟨b0', o0', e0, _, hx0⟩ := (HG.out.below B0.out hB).at_ hlt
              obtain ⟨b1', o1', e1, _, hx1⟩ := (HS.out.below B0.out hB).at_ hlt
              obtain ⟨b2', o2', e2, _, hx2⟩ := (HT.out.below B0.out hB).at_ hlt
              simp only [Option.some.injEq, Addr.mk.injEq, and_true] at e0 e1 e2
              obtain ⟨rfl, rfl⟩ := e0
              obtain ⟨rfl, rfl⟩ := e1
              obtain ⟨rfl, rfl⟩ := e2
              obtain ⟨g, EG⟩ : ∃ g, Hid (G.getD k 0 = g) := ⟨_, rfl⟩
              obtain ⟨s, ES⟩ : ∃ s, Hid (S.getD k 0 = s) := ⟨_, rfl⟩
              obtain ⟨z, EZ⟩ : ∃ z, Hid (W.getD k 0 = z) := ⟨_, rfl⟩
              rw [EG.out] at hx0
              rw [ES.out] at hx1
              rw [EZ.out] at hx2
              by_cases t1 : g < 0
              · have f1 : decide (g < 0) = true := by simpa using t1
                have HBF : Hid (b = false) := by
                  show _ = _
                  cases b with
                  | false => rfl
                  | true => exact absurd ((hb.out.1 rfl).2.2.2.2.1 k (by have := lg.out; simp at this ⊢; omega)) (by show ¬ SlotOk (G.getD k 0) (S.getD k 0) (W.getD k 0); rw [EG.out, ES.out, EZ.out]; simp only [SlotOk]; omega)
                go_wp2
                go_ret
                exact ⟨by rw [HBF.out]; rfl, B0.out⟩

              have f1 : decide (g < 0) = false := by simpa using t1
              by_cases t2 : 1099511627776 ≤ g
              · have f2 : decide ((1099511627776 : Int) ≤ g) = true := by simpa using t2
                have HBF : Hid (b = false) := by
                  show _ = _
                  cases b with
                  | false => rfl
                  | true => exact absurd ((hb.out.1 rfl).2.2.2.2.1 k (by have := lg.out; simp at this ⊢; omega)) (by show ¬ SlotOk (G.getD k 0) (S.getD k 0) (W.getD k 0); rw [EG.out, ES.out, EZ.out]; simp only [SlotOk]; omega)
                go_wp2
                go_ret
                exact ⟨by rw [HBF.out]; rfl, B0.out⟩

              have f2 : decide ((1099511627776 : Int) ≤ g) = false := by simpa using t2
              by_cases t3 : s < 0
              · have f3 : decide (s < 0) = true := by simpa using t3
                have HBF : Hid (b = false) := by
                  show _ = _
                  cases b with
                  | false => rfl
                  | true => exact absurd ((hb.out.1 rfl).2.2.2.2.1 k (by have := lg.out; simp at this ⊢; omega)) (by show ¬ SlotOk (G.getD k 0) (S.getD k 0) (W.getD k 0); rw [EG.out, ES.out, EZ.out]; simp only [SlotOk]; omega)
                go_wp2
                go_ret
                exact ⟨by rw [HBF.out]; rfl, B0.out⟩

              have f3 : decide (s < 0) = false := by simpa using t3
              by_cases t4 : 2 < s
              · have f4 : decide ((2 : Int) < s) = true := by simpa using t4
                have HBF : Hid (b = false) := by
                  show _ = _
                  cases b with
                  | false => rfl
                  | true => exact absurd ((hb.out.1 rfl).2.2.2.2.1 k (by have := lg.out; simp at this ⊢; omega)) (by show ¬ SlotOk (G.getD k 0) (S.getD k 0) (W.getD k 0); rw [EG.out, ES.out, EZ.out]; simp only [SlotOk]; omega)
                go_wp2
                go_ret
                exact ⟨by rw [HBF.out]; rfl, B0.out⟩

              have f4 : decide ((2 : Int) < s) = false := by simpa using t4
              by_cases t5 : s = 2
              · have f5 : (s != 2) = false := by simpa using t5
                have HK : Hid (SlotOk g s z) := by simp only [Hid, SlotOk]; omega
                clear t5
                go_wp2
                go_loopw [6, 85] (fun m i wr => ∃ j : Nat, j ≤ n3 ∧ i = .int .i64 j ∧ m = .int .i64 (((F.take j).count (k : Int) : Nat) : Int) ∧ (F.take j).count (k : Int) ≤ j ∧ wr = w.alloc (.cells #[.slice (some ⟨b0, o0, none⟩) n c0, .slice (some ⟨b1, o1, none⟩) n c1, .slice (some ⟨b2, o2, none⟩) n c2, .slice A3 n3 c3] 24))
                  (fun _ i _ => n3 - (intOf i).toNat)
                case atStart => exact ⟨0, by omega, rfl, by simp, by simp, rfl⟩
                case round =>
                  obtain ⟨j, hj, rfl, rfl, hcj, rfl⟩ := hrel
                  by_cases hjl : j < n3
                  · obtain ⟨b3, o3, rfl, q3, hx3⟩ := (HF.out.below B0.out hB).at_ hjl
                    have HC := hide (count_next (F := F) (k := k) (j := j) (by have := lf.out; omega))
                    generalize F.getD j 0 = x at hx3 HC
                    generalize (F.take j).count (k : Int) = cj at hcj HC
                    by_cases hxk : x = (k : Int)
                    · have hx1' : (x == (k : Int)) = true := by simpa using hxk
                      have HXK := hide hxk
                      clear hxk
                      go_wp2
                      go_roundw
                      case rel => exact ⟨j + 1, by omega, by go_num, by rw [HC.out, if_pos HXK.out]; go_num, by rw [HC.out, if_pos HXK.out]; omega, trivial⟩
                      case measure => simp [intOf]; omega
                    · have hx1' : (x == (k : Int)) = false := by simpa using hxk
                      have HXK := hide hxk
                      clear hxk
                      go_wp2
                      go_roundw
                      case rel => exact ⟨j + 1, by omega, by go_num, by rw [HC.out, if_neg HXK.out], by rw [HC.out, if_neg HXK.out]; omega, trivial⟩
                      case measure => simp [intOf]; omega
                  · have EC : Hid (F.count (k : Int) = (F.take j).count (k : Int)) := by show _ = _; rw [List.take_of_length_le (by have := lf.out; omega)]
                    generalize (F.take j).count (k : Int) = c at hcj EC
                    obtain ⟨ci, HCI, p1, p2⟩ : ∃ ci : Int, Hid ((c : Int) = ci) ∧ 0 ≤ ci ∧ ci ≤ 200 := ⟨_, rfl, by omega, by omega⟩
                    obtain ⟨qi, HQI, p3, p4⟩ : ∃ qi : Int, Hid ((q : Int) = qi) ∧ 0 ≤ qi ∧ qi ≤ 200 := ⟨_, rfl, by omega, by omega⟩
                    rw [HCI.out, HQI.out]
                    by_cases cle : c ≤ 1
                    · have d1 : decide ((1 : Int) < ci) = false := by have := HCI.out; simp; omega
                      by_cases hc1 : c = 1
                      · have d2 : (ci == 1) = true := by have := HCI.out; simp; omega
                        have HC1 := hide hc1
                        clear hc1
                        by_cases hs0 : s = 0
                        · have d3 : (s == 0) = true := by simpa using hs0
                          have HS0 := hide hs0
                          clear hs0
                          go_wp2
                          go_roundw
                          case rel =>
                            refine ⟨k + 1, q + c, by omega, by go_num, by rw [← HCI.out, ← HQI.out]; go_num, by omega, ?_, trivial, fun i hi => ?_⟩
                            · show _ = _; simp only [metSum]; rw [EC.out, HM.out]
                            · rcases Nat.lt_or_ge i k with h | h
                              · exact HA.out i h
                              · obtain rfl : i = k := by omega
                                rw [EG.out, ES.out, EZ.out, EC.out]
                                exact ⟨HK.out, cle, by have := HC1.out; have := HS0.out; omega⟩
                          case measure => simp [intOf]; omega
                        · have d3 : (s == 0) = false := by simpa using hs0
                          have HS0 := hide hs0
                          clear hs0
                          have HBF : Hid (b = false) := by
                            show _ = _
                            cases b with
                            | false => rfl
                            | true => exact absurd ((met_iff S F).2 (hb.out.1 rfl).2.2.2.2.2) (fun h => absurd (h.1 k (by have := ls.out; omega)).2 (by rw [ES.out, EC.out]; have := HC1.out; have := HS0.out; omega))
                          go_wp2
                          go_ret
                          exact ⟨by rw [HBF.out]; rfl, B0.out⟩
                      · have d2 : (ci == 1) = false := by have := HCI.out; simp; omega
                        have HC1 := hide hc1
                        clear hc1
                        by_cases hs0 : s = 0
                        · have d3 : (s == 0) = true := by simpa using hs0
                          have HS0 := hide hs0
                          clear hs0
                          have HBF : Hid (b = false) := by
                            show _ = _
                            cases b with
                            | false => rfl
                            | true => exact absurd ((met_iff S F).2 (hb.out.1 rfl).2.2.2.2.2) (fun h => absurd (h.1 k (by have := ls.out; omega)).2 (by rw [ES.out, EC.out]; have := HC1.out; have := HS0.out; omega))
                          go_wp2
                          go_ret
                          exact ⟨by rw [HBF.out]; rfl, B0.out⟩
                        · have d3 : (s == 0) = false := by simpa using hs0
                          have HS0 := hide hs0
                          clear hs0
                          go_wp2
                          go_roundw
                          case rel =>
                            refine ⟨k + 1, q + c, by omega, by go_num, by rw [← HCI.out, ← HQI.out]; go_num, by omega, ?_, trivial, fun i hi => ?_⟩
                            · show _ = _; simp only [metSum]; rw [EC.out, HM.out]
                            · rcases Nat.lt_or_ge i k with h | h
                              · exact HA.out i h
                              · obtain rfl : i = k := by omega
                                rw [EG.out, ES.out, EZ.out, EC.out]
                                exact ⟨HK.out, cle, by have := HC1.out; have := HS0.out; omega⟩
                          case measure => simp [intOf]; omega
                    · have d1 : decide ((1 : Int) < ci) = true := by have := HCI.out; simp; omega
                      have HBF : Hid (b = false) := by
                        show _ = _
                        cases b with
                        | false => rfl
                        | true => exact absurd ((met_iff S F).2 (hb.out.1 rfl).2.2.2.2.2) (fun h => absurd (h.1 k (by have := ls.out; omega)).1 (by rw [EC.out]; exact cle))
                      go_wp2
                      go_ret
                      exact ⟨by rw [HBF.out]; rfl, B0.out⟩

              have f5 : (s != 2) = true := by simpa using t5
              by_cases t6 : z = 0
              · have f6 : (z != 0) = false := by simpa using t6
                have HK : Hid (SlotOk g s z) := by simp only [Hid, SlotOk]; omega
                clear t5 t6
                go_wp2
                go_loopw [6, 85] (fun m i wr => ∃ j : Nat, j ≤ n3 ∧ i = .int .i64 j ∧ m = .int .i64 (((F.take j).count (k : Int) : Nat) : Int) ∧ (F.take j).count (k : Int) ≤ j ∧ wr = w.alloc (.cells #[.slice (some ⟨b0, o0, none⟩) n c0, .slice (some ⟨b1, o1, none⟩) n c1, .slice (some ⟨b2, o2, none⟩) n c2, .slice A3 n3 c3] 24))
                  (fun _ i _ => n3 - (intOf i).toNat)
                case atStart => exact ⟨0, by omega, rfl, by simp, by simp, rfl⟩
                case round =>
                  obtain ⟨j, hj, rfl, rfl, hcj, rfl⟩ := hrel
                  by_cases hjl : j < n3
                  · obtain ⟨b3, o3, rfl, q3, hx3⟩ := (HF.out.below B0.out hB).at_ hjl
                    have HC := hide (count_next (F := F) (k := k) (j := j) (by have := lf.out; omega))
                    generalize F.getD j 0 = x at hx3 HC
                    generalize (F.take j).count (k : Int) = cj at hcj HC
                    by_cases hxk : x = (k : Int)
                    · have hx1' : (x == (k : Int)) = true := by simpa using hxk
                      have HXK := hide hxk
                      clear hxk
                      go_wp2
                      go_roundw
                      case rel => exact ⟨j + 1, by omega, by go_num, by rw [HC.out, if_pos HXK.out]; go_num, by rw [HC.out, if_pos HXK.out]; omega, trivial⟩
                      case measure => simp [intOf]; omega
                    · have hx1' : (x == (k : Int)) = false := by simpa using hxk
                      have HXK := hide hxk
                      clear hxk
                      go_wp2
                      go_roundw
                      case rel => exact ⟨j + 1, by omega, by go_num, by rw [HC.out, if_neg HXK.out], by rw [HC.out, if_neg HXK.out]; omega, trivial⟩
                      case measure => simp [intOf]; omega
                  · have EC : Hid (F.count (k : Int) = (F.take j).count (k : Int)) := by show _ = _; rw [List.take_of_length_le (by have := lf.out; omega)]
                    generalize (F.take j).count (k : Int) = c at hcj EC
                    obtain ⟨ci, HCI, p1, p2⟩ : ∃ ci : Int, Hid ((c : Int) = ci) ∧ 0 ≤ ci ∧ ci ≤ 200 := ⟨_, rfl, by omega, by omega⟩
                    obtain ⟨qi, HQI, p3, p4⟩ : ∃ qi : Int, Hid ((q : Int) = qi) ∧ 0 ≤ qi ∧ qi ≤ 200 := ⟨_, rfl, by omega, by omega⟩
                    rw [HCI.out, HQI.out]
                    by_cases cle : c ≤ 1
                    · have d1 : decide ((1 : Int) < ci) = false := by have := HCI.out; simp; omega
                      by_cases hc1 : c = 1
                      · have d2 : (ci == 1) = true := by have := HCI.out; simp; omega
                        have HC1 := hide hc1
                        clear hc1
                        by_cases hs0 : s = 0
                        · have d3 : (s == 0) = true := by simpa using hs0
                          have HS0 := hide hs0
                          clear hs0
                          go_wp2
                          go_roundw
                          case rel =>
                            refine ⟨k + 1, q + c, by omega, by go_num, by rw [← HCI.out, ← HQI.out]; go_num, by omega, ?_, trivial, fun i hi => ?_⟩
                            · show _ = _; simp only [metSum]; rw [EC.out, HM.out]
                            · rcases Nat.lt_or_ge i k with h | h
                              · exact HA.out i h
                              · obtain rfl : i = k := by omega
                                rw [EG.out, ES.out, EZ.out, EC.out]
                                exact ⟨HK.out, cle, by have := HC1.out; have := HS0.out; omega⟩
                          case measure => simp [intOf]; omega
                        · have d3 : (s == 0) = false := by simpa using hs0
                          have HS0 := hide hs0
                          clear hs0
                          have HBF : Hid (b = false) := by
                            show _ = _
                            cases b with
                            | false => rfl
                            | true => exact absurd ((met_iff S F).2 (hb.out.1 rfl).2.2.2.2.2) (fun h => absurd (h.1 k (by have := ls.out; omega)).2 (by rw [ES.out, EC.out]; have := HC1.out; have := HS0.out; omega))
                          go_wp2
                          go_ret
                          exact ⟨by rw [HBF.out]; rfl, B0.out⟩
                      · have d2 : (ci == 1) = false := by have := HCI.out; simp; omega
                        have HC1 := hide hc1
                        clear hc1
                        by_cases hs0 : s = 0
                        · have d3 : (s == 0) = true := by simpa using hs0
                          have HS0 := hide hs0
                          clear hs0
                          have HBF : Hid (b = false) := by
                            show _ = _
                            cases b with
                            | false => rfl
                            | true => exact absurd ((met_iff S F).2 (hb.out.1 rfl).2.2.2.2.2) (fun h => absurd (h.1 k (by have := ls.out; omega)).2 (by rw [ES.out, EC.out]; have := HC1.out; have := HS0.out; omega))
                          go_wp2
                          go_ret
                          exact ⟨by rw [HBF.out]; rfl, B0.out⟩
                        · have d3 : (s == 0) = false := by simpa using hs0
                          have HS0 := hide hs0
                          clear hs0
                          go_wp2
                          go_roundw
                          case rel =>
                            refine ⟨k + 1, q + c, by omega, by go_num, by rw [← HCI.out, ← HQI.out]; go_num, by omega, ?_, trivial, fun i hi => ?_⟩
                            · show _ = _; simp only [metSum]; rw [EC.out, HM.out]
                            · rcases Nat.lt_or_ge i k with h | h
                              · exact HA.out i h
                              · obtain rfl : i = k := by omega
                                rw [EG.out, ES.out, EZ.out, EC.out]
                                exact ⟨HK.out, cle, by have := HC1.out; have := HS0.out; omega⟩
                          case measure => simp [intOf]; omega
                    · have d1 : decide ((1 : Int) < ci) = true := by have := HCI.out; simp; omega
                      have HBF : Hid (b = false) := by
                        show _ = _
                        cases b with
                        | false => rfl
                        | true => exact absurd ((met_iff S F).2 (hb.out.1 rfl).2.2.2.2.2) (fun h => absurd (h.1 k (by have := ls.out; omega)).1 (by rw [EC.out]; exact cle))
                      go_wp2
                      go_ret
                      exact ⟨by rw [HBF.out]; rfl, B0.out⟩

              have f6 : (z != 0) = true := by simpa using t6
              have HBF : Hid (b = false) := by
                show _ = _
                cases b with
                | false => rfl
                | true => exact absurd ((hb.out.1 rfl).2.2.2.2.1 k (by have := lg.out; simp at this ⊢; omega)) (by show ¬ SlotOk (G.getD k 0) (S.getD k 0) (W.getD k 0); rw [EG.out, ES.out, EZ.out]; simp only [SlotOk]; omega)
              go_wp2
              go_ret
              exact ⟨by rw [HBF.out]; rfl, B0.out⟩

            · have hdk : decide ((k : Int) < (n : Int)) = false := by simp; omega
              have HKN : Hid (k = n) := by show _ = _; omega
              by_cases hfin : q = n3
              · have f1 : (((q : Nat) : Int) != (n3 : Int)) = false := by simp; omega
                have HBF : Hid (b = true) := by
                  show _ = _
                  have h1 := lg.out
                  have h2 := ls.out
                  have h3 := lt.out
                  have h4 := lf.out
                  have h5 := HKN.out
                  refine hb.out.2 ⟨by simp; omega, by simp; omega, by simp; omega, by simp; omega, fun j hj => (HA.out j (by simp at hj; omega)).1, (met_iff S F).1 ⟨fun j hj => (HA.out j (by omega)).2, ?_⟩⟩
                  rw [show S.length = k by omega, HM.out, hfin]; omega
                clear hfin
                go_wp2
                go_ret
                exact ⟨by rw [HBF.out]; rfl, B0.out⟩
              · have f1 : (((q : Nat) : Int) != (n3 : Int)) = true := by simp; omega
                have HBF : Hid (b = false) := by
                  show _ = _
                  cases b with
                  | false => rfl
                  | true =>
                    have h := ((met_iff S F).2 (hb.out.1 rfl).2.2.2.2.2).2
                    have h2 := ls.out
                    have h4 := lf.out
                    have h5 := HKN.out
                    rw [show S.length = k by omega, HM.out] at h
                    omega
                clear hfin
                go_wp2
                go_ret
                exact ⟨by rw [HBF.out]; rfl, B0.out⟩
        · obtain rfl : b = false := by
            cases b with
            | false => rfl
            | true => have := (hb.out.1 rfl).2.2.2.1; have h1 := lg.out; have h3 := lt.out; simp at this; omega
          subst e1
          have h1 : (((n1 : Nat) : Int) != (n1 : Int)) = false := by simp
          have h2 : (((n2 : Nat) : Int) != (n1 : Int)) = true := by simp; omega
          go_enter Try.func17, Try.ntmps17
          go_wp2
          go_ret
          exact ⟨rfl, (Below.refl _ _).alloc (Nat.le_refl _) _⟩
      · obtain rfl : b = false := by
          cases b with
          | false => rfl
          | true => have := (hb.out.1 rfl).2.2.1; have h1 := lg.out; have h3 := ls.out; simp at this; omega
        have h2 : (((n1 : Nat) : Int) != (n0 : Int)) = true := by simp; omega
        go_enter Try.func17, Try.ntmps17
        go_wp2
        go_ret
        exact ⟨rfl, (Below.refl _ _).alloc (Nat.le_refl _) _⟩
    · have d2 : decide ((64 : Int) < (n0 : Int)) = true := by simp; omega
      obtain rfl : b = false := by
        cases b with
        | false => rfl
        | true => have h5 := (hb.out.1 rfl).2.1; have h1 := lg.out; simp at h5; omega
      go_enter Try.func17, Try.ntmps17
      go_wp2
      go_ret
      exact ⟨rfl, (Below.refl _ _).alloc (Nat.le_refl _) _⟩
  · have d1 : decide ((n0 : Int) < 1) = true := by simp; omega
    obtain rfl : b = false := by
      cases b with
      | false => rfl
      | true => have h4 := (hb.out.1 rfl).1; have h1 := lg.out; simp at h4; omega
    go_enter Try.func17, Try.ntmps17
    go_wp2
    go_ret
    exact ⟨rfl, (Below.refl _ _).alloc (Nat.le_refl _) _⟩

end Go.Proofs.Ytfdbbfjnianahaa
