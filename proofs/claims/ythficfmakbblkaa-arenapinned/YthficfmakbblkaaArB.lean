/- What Take, Retire, Pin, Turn, End and Gen tell. (Several texts, one behind the other.) -/
import Derived.Test.YthficfmakbblkaaArA
import Derived.Test.YthficfmakbblkaaPoolB
import Derived.Deep.DeepCutAuto

/- What Take tells, the code's. -/
namespace Go.Proofs.Ythficfmakbblkaa
open Go.RowKit
open Pool (Pl PL MayBe noP noPl Drew Told4 Row)
set_option linter.unusedVariables false
set_option maxRecDepth 100000

theorem take_either (P : PL) : Pool.takeE true P = 0 ∨ Pool.takeE true P = 3 := by
  unfold Pool.takeE
  split
  · exact .inl rfl
  · exact .inr rfl
  · rename_i h; cases h

set_option maxHeartbeats 4000000 in
theorem take_any (s : Sh) (X : SL) (b : Bool) (which : Int) (w : World) (S : Sees w s X) (F : Few X) (hb : Hid (b = true ↔ OkS X)) :
    Calls Try.prog 16 #[s.val, .int .i64 which] w (TellS w s (tkX b X which) (fun v => .tuple #[v, .int .i64 (tkR b X which), .int .i64 (tkE b X which)])) := by
  have T0 := hide (Tw.first S)
  have C0 := hide (checkKind_any s X b which _ T0.out.sees F hb)
  have HF := hide F
  clear S F
  go_enter Try.func16, Try.ntmps16
  go_wp2_with ((with_reducible refine ld31 (.tmp 2) w.heap.size ?_ s ?_ ?_); (exact rfl); (exact T0.out.box))
  refine C0.out.mono ?_
  rintro e u1 ⟨rfl, b1⟩
  have T1 := hide (T0.out.step b1)
  clear b1 C0 T0
  rcases kind_cases b which with hk | ⟨hk, hbt, k, hk3, hw, hat⟩
  · have E : Hid (tkE b X which = 1 ∧ tkX b X which = noS ∧ tkR b X which = 0) := by
      have e : tkE b X which = 1 := by unfold tkE; rw [hk]; rfl
      exact ⟨e, by unfold tkX; rw [e]; rfl, by unfold tkR; rw [e]; rfl⟩
    rw [hk]
    have Z := hide T1.out.zero
    clear hk hb
    go_wp2_with (first | ((with_reducible refine st31 (.tmp 4) (.tmp 16) (w.heap.size + 1) ?_ noSh ?_ noSh ?_ ?_); (exact rfl); (exact rfl); (exact T1.out.res)))
    exact bodyPost_ret (Pool.results_row_two rfl _ _ (w.heap.size + 1) 31 _ (0, 0) _ rfl Z.out.1 Try.underlying31 rfl (cs_info _)) rfl ⟨noSh, by rw [E.out.1, E.out.2.2]; rfl, by rw [E.out.2.1]; exact Z.out.2.1, Z.out.2.2⟩
  · have HM := hide ((hb.out.1 hbt).1 k hk3)
    have E0 : Hid (tkE b X which = Pool.takeE true (X.pl k)) := by show _ = _; unfold tkE; rw [hk, if_pos rfl, hat]
    have EX : Hid (tkX b X which = if Pool.takeE true (X.pl k) = 0 then X.setPl k (Pool.takeQ true (X.pl k)) else noS) := by show _ = _; unfold tkX; rw [E0.out, hat]
    have ER : Hid (tkR b X which = if Pool.takeE true (X.pl k) = 0 then Pool.takeR true (X.pl k) else 0) := by show _ = _; unfold tkR; rw [E0.out, hat]
    rw [hk, hw]
    obtain ⟨h0, h1, h2, h3⟩ := T1.out.box.pool hk3
    have hl := T1.out.box.lt
    have hi0 : (0 : Int) ≤ (k : Int) := by omega
    have hi1 : (k : Int) < 3 := by omega
    have CT := hide (Pool.take_any (s.pl k) (X.pl k) u1.heap.size true u1 (T1.out.sees.p k hk3) (Nat.le_refl _) (small_of (T1.out.sees.p k hk3) (HF.out.p k hk3)) (Pool.yes_may HM.out))
    have HPL : Hid (∀ u, Calls Try.prog 49 #[.int .i64 ((k : Int) + 1)] u fun e w' => e = .returned (.int .i64 (k : Int)) ∧ u = w') := fun u => placeOf_any k u hk3
    clear hk hb hw hat hbt HM
    go_wp2_with (go_at_call 49; refine (HPL.out _).mono ?_; rintro e w' ⟨rfl, rfl⟩)
    refine CT.out.mono ?_
    rintro e u2 ⟨q, rfl, tq, b2⟩
    have T2 := hide (T1.out.step b2)
    have T3 := hide (T2.out.alloc (.cells q.cs 26))
    have R3 : Hid (Pool.Reads (u2.alloc (.cells q.cs 26)) (u2.alloc (.cells q.cs 26)).heap.size q _) := hide ((tq.reads.below ((Below.refl u2.heap.size u2).alloc (Nat.le_refl _) (.cells q.cs 26)) (Nat.le_refl _)).more (by simp))
    have HQ : Hid (∀ c, HasP q c → w.heap.size + 2 ≤ c) := fun c hc => by have := told_has tq hc; have := T1.out.size; omega
    have Z := hide T3.out.zero
    clear b2 tq h0 h1 h2 h3 hl CT T1 T2
    rcases take_either (X.pl k) with h | h
    · rw [if_pos h] at EX ER
      rw [h] at E0 ⊢
      have CW := hide (withPool_any s X k q _ (u2.alloc (.cells q.cs 26)) T3.out.sees HF.out hk3 R3.out)
      obtain ⟨q0, q1, q2, q3⟩ := cells4 (Pool.PBox.new u2 q.cs)
      go_wp2_with (first | ((with_reducible refine ld31 (.tmp 2) w.heap.size ?_ s ?_ ?_); (exact rfl); (exact T3.out.box)))
      refine CW.out.mono ?_
      rintro e u4 ⟨s', rfl, S4, K4, b4⟩
      have T4 := hide (T3.out.step b4)
      have ZT := hide (T4.out.tell S4 fun c hc => by
        rcases K4 c hc with x | x | x
        · exact .inl (by have := T3.out.size; omega)
        · exact .inr x
        · exact .inl (HQ.out c x))
      clear S4 K4 b4 CW T3 R3 HQ Z q0 q1 q2 q3
      go_wp2_with (first | ((with_reducible refine st31 (.tmp 4) (.tmp 35) (w.heap.size + 1) ?_ s' ?_ noSh ?_ ?_); (exact rfl); (exact rfl); (exact T4.out.res)))
      exact bodyPost_ret (Pool.results_row_two rfl _ _ (w.heap.size + 1) 31 _ (0, 0) _ rfl ZT.out.1 Try.underlying31 rfl (cs_info _)) rfl ⟨s', by rw [E0.out, ER.out]; rfl, by rw [EX.out]; exact ZT.out.2.1, ZT.out.2.2⟩
    · rw [if_neg (by omega)] at EX ER
      rw [h] at E0 ⊢
      go_wp2_with (first | ((with_reducible refine st31 (.tmp 4) (.tmp 30) (w.heap.size + 1) ?_ noSh ?_ noSh ?_ ?_); (exact rfl); (exact rfl); (exact T3.out.res)))
      exact bodyPost_ret (Pool.results_row_two rfl _ _ (w.heap.size + 1) 31 _ (0, 0) _ rfl Z.out.1 Try.underlying31 rfl (cs_info _)) rfl ⟨noSh, by rw [E0.out, ER.out]; rfl, by rw [EX.out]; exact Z.out.2.1, Z.out.2.2⟩

end Go.Proofs.Ythficfmakbblkaa

/- What Take tells, the document's. -/
namespace Go.Proofs.Ythficfmakbblkaa
open Go.RowKit
open Pool (Pl PL MayBe noP noPl Drew Told4 Row)
set_option linter.unusedVariables false
set_option maxRecDepth 100000

set_option maxHeartbeats 400000 in
theorem rkind_any (which : Int) (w : World) : Calls Try.prog 51 #[.int .i64 which] w fun e w' => e = .returned (.bool (decide (1 ≤ which ∧ which ≤ 3))) ∧ w = w' := by
  by_cases h1 : 1 ≤ which
  · have t1 : decide (1 ≤ which) = true := by simpa using h1
    go_enter Try.func51, Try.ntmps51
    go_wp2
    all_goals go_ret
    all_goals exact ⟨by simp [*], rfl⟩
  · have t1 : decide (1 ≤ which) = false := by simpa using h1
    go_enter Try.func51, Try.ntmps51
    go_wp2
    go_ret
    exact ⟨by simp [*], rfl⟩
theorem kind_dec (b : Bool) (which : Int) : (chk b != 0 || !decide (1 ≤ which ∧ which ≤ 3)) = (kndE b which != 0) := by
  unfold kndE chk
  cases b <;> by_cases h : 1 ≤ which ∧ which ≤ 3 <;> simp [h]

set_option maxHeartbeats 4000000 in
theorem rtake_any (s : Sh) (X : SL) (b : Bool) (which : Int) (w : World) (S : Sees w s X) (F : Few X) (hb : Hid (b = true ↔ OkS X)) :
    Calls Try.prog 17 #[s.val, .int .i64 which] w (TellS w s (tkX b X which) (fun v => .tuple #[v, .int .i64 (tkR b X which), .int .i64 (tkE b X which)])) := by
  have T0 := hide (Tw.first S)
  have C0 := hide (rcheck_any s X b _ T0.out.sees F hb)
  have HF := hide F
  have HK : Hid (∀ u, Calls Try.prog 51 #[.int .i64 which] u fun e w' => e = .returned (.bool (decide (1 ≤ which ∧ which ≤ 3))) ∧ u = w') := fun u => rkind_any which u
  clear S F
  go_enter Try.func17, Try.ntmps17
  go_wp2_with ((with_reducible refine ld31 (.tmp 2) w.heap.size ?_ s ?_ ?_); (exact rfl); (exact T0.out.box))
  refine C0.out.mono ?_
  rintro e u1 ⟨rfl, b1⟩
  have T1 := hide (T0.out.step b1)
  clear b1 C0 T0
  rcases kind_cases b which with hk | ⟨hk, hbt, k, hk3, hw, hat⟩
  · have E : Hid (tkE b X which = 1 ∧ tkX b X which = noS ∧ tkR b X which = 0) := by
      have e : tkE b X which = 1 := by unfold tkE; rw [hk]; rfl
      exact ⟨e, by unfold tkX; rw [e]; rfl, by unfold tkR; rw [e]; rfl⟩
    have Z := hide T1.out.zero
    cases b with
    | false =>
      clear hk hb
      go_wp2_with (first | ((with_reducible refine st31 (.tmp 4) (.tmp 18) (w.heap.size + 1) ?_ noSh ?_ noSh ?_ ?_); (exact rfl); (exact rfl); (exact T1.out.res)))
      exact bodyPost_ret (Pool.results_row_two rfl _ _ (w.heap.size + 1) 31 _ (0, 0) _ rfl Z.out.1 Try.underlying31 rfl (cs_info _)) rfl ⟨noSh, by rw [E.out.1, E.out.2.2]; rfl, by rw [E.out.2.1]; exact Z.out.2.1, Z.out.2.2⟩
    | true =>
      have hd : decide (1 ≤ which ∧ which ≤ 3) = false := by
        have : ¬ (1 ≤ which ∧ which ≤ 3) := fun h => by unfold kndE at hk; rw [if_pos ⟨rfl, h⟩] at hk; cases hk
        simpa using this
      rw [hd] at HK
      clear hk hb hd
      go_wp2_with (first | (go_at_call 51; refine (HK.out _).mono ?_; rintro e w' ⟨rfl, rfl⟩) | ((with_reducible refine st31 (.tmp 4) (.tmp 18) (w.heap.size + 1) ?_ noSh ?_ noSh ?_ ?_); (exact rfl); (exact rfl); (exact T1.out.res)))
      exact bodyPost_ret (Pool.results_row_two rfl _ _ (w.heap.size + 1) 31 _ (0, 0) _ rfl Z.out.1 Try.underlying31 rfl (cs_info _)) rfl ⟨noSh, by rw [E.out.1, E.out.2.2]; rfl, by rw [E.out.2.1]; exact Z.out.2.1, Z.out.2.2⟩
  · have HM := hide ((hb.out.1 hbt).1 k hk3)
    have E0 : Hid (tkE b X which = Pool.takeE true (X.pl k)) := by show _ = _; unfold tkE; rw [hk, if_pos rfl, hat]
    have EX : Hid (tkX b X which = if Pool.takeE true (X.pl k) = 0 then X.setPl k (Pool.takeQ true (X.pl k)) else noS) := by show _ = _; unfold tkX; rw [E0.out, hat]
    have ER : Hid (tkR b X which = if Pool.takeE true (X.pl k) = 0 then Pool.takeR true (X.pl k) else 0) := by show _ = _; unfold tkR; rw [E0.out, hat]
    have hd : decide (1 ≤ which ∧ which ≤ 3) = true := by simp; omega
    rw [hd, hw] at HK
    rw [hw]
    subst hbt
    obtain ⟨h0, h1, h2, h3⟩ := T1.out.box.pool hk3
    have hl := T1.out.box.lt
    have hi0 : (0 : Int) ≤ (k : Int) := by omega
    have hi1 : (k : Int) < 3 := by omega
    have CT := hide (Pool.rtake_any (s.pl k) (X.pl k) u1.heap.size true u1 (T1.out.sees.p k hk3) (Nat.le_refl _) (small_of (T1.out.sees.p k hk3) (HF.out.p k hk3)) (Pool.yes_may HM.out))
    have hsub : wrap64 ((k : Int) + 1 - 1) = (k : Int) := by rw [show (k : Int) + 1 - 1 = (k : Int) by omega]; unfold wrap64; omega
    clear hk hb hw hat HM hd
    go_wp2_with (go_at_call 51; refine (HK.out _).mono ?_; rintro e w' ⟨rfl, rfl⟩)
    refine CT.out.mono ?_
    rintro e u2 ⟨q, rfl, tq, b2⟩
    have T2 := hide (T1.out.step b2)
    have T3 := hide (T2.out.alloc (.cells q.cs 26))
    have R3 : Hid (Pool.Reads (u2.alloc (.cells q.cs 26)) (u2.alloc (.cells q.cs 26)).heap.size q _) := hide ((tq.reads.below ((Below.refl u2.heap.size u2).alloc (Nat.le_refl _) (.cells q.cs 26)) (Nat.le_refl _)).more (by simp))
    have HQ : Hid (∀ c, HasP q c → w.heap.size + 2 ≤ c) := fun c hc => by have := told_has tq hc; have := T1.out.size; omega
    have Z := hide T3.out.zero
    clear b2 tq h0 h1 h2 h3 hl CT T1 T2
    rcases take_either (X.pl k) with h | h
    · rw [if_pos h] at EX ER
      rw [h] at E0 ⊢
      obtain ⟨q0, q1, q2, q3⟩ := cells4 (Pool.PBox.new u2 q.cs)
      obtain ⟨v0, v1, v2, v3, y0, f0, y1, f1, y2, f2, y3, f3⟩ := pool_room T3.out.box hk3
      have HS := hide (T3.out.setPl hk3 R3.out HQ.out)
      have ZT := hide (tell_own HS.out.2.2.2.2 HS.out.2.1 T3.out.was HS.out.2.2.1 HS.out.2.2.2.1)
      have hl3 := T3.out.box.lt
      clear R3 HQ Z
      go_wp2_with (first | ((with_reducible refine ld31 (.tmp 2) w.heap.size ?_ (s.setPl k q) ?_ ?_); (exact rfl); (exact HS.out.1)) | ((with_reducible refine st31 (.tmp 4) (.tmp 38) (w.heap.size + 1) ?_ (s.setPl k q) ?_ noSh ?_ ?_); (exact rfl); (exact rfl); (exact HS.out.2.1)))
      exact bodyPost_ret (Pool.results_row_two rfl _ _ (w.heap.size + 1) 31 _ (0, 0) _ rfl ZT.out.1 Try.underlying31 rfl (cs_info _)) rfl ⟨_, by rw [E0.out, ER.out]; rfl, by rw [EX.out]; exact ZT.out.2.1, ZT.out.2.2⟩
    · rw [if_neg (by omega)] at EX ER
      rw [h] at E0 ⊢
      go_wp2_with (first | ((with_reducible refine st31 (.tmp 4) (.tmp 31) (w.heap.size + 1) ?_ noSh ?_ noSh ?_ ?_); (exact rfl); (exact rfl); (exact T3.out.res)))
      exact bodyPost_ret (Pool.results_row_two rfl _ _ (w.heap.size + 1) 31 _ (0, 0) _ rfl Z.out.1 Try.underlying31 rfl (cs_info _)) rfl ⟨noSh, by rw [E0.out, ER.out]; rfl, by rw [EX.out]; exact Z.out.2.1, Z.out.2.2⟩

end Go.Proofs.Ythficfmakbblkaa

/- What Retire tells, the code's. -/
namespace Go.Proofs.Ythficfmakbblkaa
open Go.RowKit
open Pool (Pl PL MayBe noP noPl Drew Told4 Row)
set_option linter.unusedVariables false
set_option maxRecDepth 100000

/-- Behind Retire's own statement: the pool that was told stands in a box at h. -/
structure Rt (w u : World) (s : Sh) (X : SL) (h : Nat) (q : Pl) (Q : PL) : Prop where
  tw : Tw w u s X
  own : Pool.PBox u h q.cs
  reads : Pool.Reads u u.heap.size q Q
  far : ∀ c, HasP q c → w.heap.size + 2 ≤ c
section
variable {w u1 u5 : World} {s : Sh} {X : SL} {q : Pl} {Q : PL} {k : Nat}
theorem rt_behind (T : Tw w u1 s X) (b5 : Below u1.drew.heap.size u1.drew u5) (t5 : Told4 u5 u1.drew.heap.size q Q) : Rt w (u5.alloc (.cells q.cs 26)) s X u5.heap.size q Q :=
  ⟨(T.drew.step b5).alloc _, Pool.PBox.new u5 _, (t5.reads.below ((Below.refl u5.heap.size u5).alloc (Nat.le_refl _) _) (Nat.le_refl _)).more (by simp), fun c hc => by
    have h1 := told_has t5 hc
    have h2 := T.size
    have h3 : u1.drew.heap.size = u1.heap.size := rfl
    omega⟩
theorem rt_before (T : Tw w u1 s X) (b5 : Below (u1.drew.alloc (.cells Pool.zeros4 26)).heap.size (u1.drew.alloc (.cells Pool.zeros4 26)) u5) (t5 : Told4 u5 (u1.drew.alloc (.cells Pool.zeros4 26)).heap.size q Q) : Rt w (Pool.World.put u5 u1.heap.size q) s X u1.heap.size q Q := by
  have hs : (u1.drew.alloc (.cells Pool.zeros4 26)).heap.size = u1.heap.size + 1 := by show (u1.heap.push _).size = _; simp
  have hz := T.size
  have T5 := (T.drew.alloc (.cells Pool.zeros4 26)).step b5
  have hn : ¬ s.Has u1.heap.size := fun hb => by have := T.sees.lt hb; omega
  refine ⟨⟨Pool.set4_below T5.bel (by omega) _ _ _ _, (((T5.box.other (by omega) _ _).other (by omega) _ _).other (by omega) _ _).other (by omega) _ _, (((T5.res.other (by omega) _ _).other (by omega) _ _).other (by omega) _ _).other (by omega) _ _, (((T5.sees.cell hn _ _).cell hn _ _).cell hn _ _).cell hn _ _, T.was⟩, Pool.set4_box (Pool.box_before b5) _ _ _ _, (t5.set4 (by omega) _ _ _ _).reads, fun c hc => ?_⟩
  have h1 := told_has t5 hc
  omega
theorem ret_cells {u : World} {H : Prop} (T : Tw w u s X) (hk : k < 3) (hu : H) : u.cell? ⟨w.heap.size, 2 + k * 4, none⟩ = some (.slice (s.pl k).A0 (s.pl k).n0 (s.pl k).c0) ∧ u.cell? ⟨w.heap.size, 2 + k * 4 + 1, none⟩ = some (.slice (s.pl k).A1 (s.pl k).n1 (s.pl k).c1) ∧ u.cell? ⟨w.heap.size, 2 + k * 4 + 2, none⟩ = some (.slice (s.pl k).A2 (s.pl k).n2 (s.pl k).c2) ∧ u.cell? ⟨w.heap.size, 2 + k * 4 + 3, none⟩ = some (.slice (s.pl k).A3 (s.pl k).n3 (s.pl k).c3) ∧ u.cell? ⟨w.heap.size, 14, none⟩ = some (.int .i64 X.T) ∧ H := by
  obtain ⟨h0, h1, h2, h3⟩ := T.box.pool hk
  exact ⟨h0, h1, h2, h3, by rw [T.box.era.1, T.sees.t], hu⟩
end

set_option maxHeartbeats 8000000 in
theorem retire_any (s : Sh) (X : SL) (b : Bool) (which r : Int) (w : World) (S : Sees w s X) (F : Few X) (hb : Hid (b = true ↔ OkS X)) :
    Calls Try.prog 18 #[s.val, .int .i64 which, .int .i64 r] w (TellS w s (rtX b X which r) (fun v => .tuple #[v, .int .i64 (rtE b X which r)])) := by
  have T0 := hide (Tw.first S)
  have C0 := hide (checkKind_any s X b which _ T0.out.sees F hb)
  have HF := hide F
  clear S F
  go_enter Try.func18, Try.ntmps18
  go_wp2_with ((with_reducible refine ld31 (.tmp 3) w.heap.size ?_ s ?_ ?_); (exact rfl); (exact T0.out.box))
  refine C0.out.mono ?_
  rintro e u1 ⟨rfl, b1⟩
  have T1 := hide (T0.out.step b1)
  clear b1 C0 T0
  rcases kind_cases b which with hk | ⟨hk, hbt, k, hk3, hw, hat⟩
  · have E : Hid (rtE b X which r = 1 ∧ rtX b X which r = noS) := by
      have e : rtE b X which r = 1 := by unfold rtE; rw [hk]; rfl
      exact ⟨e, by unfold rtX; rw [e]; rfl⟩
    have Z := hide T1.out.zero
    rw [hk]
    clear hk hb
    go_wp2_with (first | ((with_reducible refine st31 (.tmp 6) (.tmp 16) (w.heap.size + 1) ?_ noSh ?_ noSh ?_ ?_); (exact rfl); (exact rfl); (exact T1.out.res)))
    exact bodyPost_ret (Era.results_row_one rfl _ _ (w.heap.size + 1) 31 _ (0, 0) _ rfl Z.out.1 Try.underlying31 rfl (cs_info _)) rfl ⟨noSh, by rw [E.out.1]; rfl, by rw [E.out.2]; exact Z.out.2.1, Z.out.2.2⟩
  · have HM := hide ((hb.out.1 hbt).1 k hk3)
    have E0 : Hid (rtE b X which r = Pool.retE true (X.pl k) r) := by show _ = _; unfold rtE; rw [hk, if_pos rfl, hat]
    have EX : Hid (rtX b X which r = if Pool.retE true (X.pl k) r = 0 then X.setPl k (Pool.retQ true (X.pl k) r X.T) else noS) := by show _ = _; unfold rtX; rw [E0.out, hat]
    have hi0 : (0 : Int) ≤ (k : Int) := by omega
    have hi1 : (k : Int) < 3 := by omega
    rw [hk, hw]
    have HPL : Hid (∀ u, Calls Try.prog 49 #[.int .i64 ((k : Int) + 1)] u fun e w' => e = .returned (.int .i64 (k : Int)) ∧ u = w') := fun u => placeOf_any k u hk3
    have HRet : Hid (∀ u, Hid (Below u1.heap.size u1 u) → Calls Try.prog 53 #[(s.pl k).val, .int .i64 r, .int .i64 X.T] u (Pool.Tell2 u (Pool.retQ true (X.pl k) r X.T) (Pool.retE true (X.pl k) r))) :=
      fun u hu => Pool.retire_any (s.pl k) (X.pl k) u.heap.size true r X.T u ((T1.out.sees.step hu.out).p k hk3) (Nat.le_refl _) (small_of (T1.out.sees.p k hk3) (HF.out.p k hk3)) (Pool.yes_may HM.out)
    generalize Pool.retQ true (X.pl k) r X.T = QT at HRet EX
    generalize Pool.retE true (X.pl k) r = eT at HRet E0 EX
    have hN : Hid (∀ u, Hid (Below u1.heap.size u1 u) → (u.cell? ⟨w.heap.size, 2 + k * 4, none⟩ = some (.slice (s.pl k).A0 (s.pl k).n0 (s.pl k).c0) ∧ u.cell? ⟨w.heap.size, 2 + k * 4 + 1, none⟩ = some (.slice (s.pl k).A1 (s.pl k).n1 (s.pl k).c1) ∧ u.cell? ⟨w.heap.size, 2 + k * 4 + 2, none⟩ = some (.slice (s.pl k).A2 (s.pl k).n2 (s.pl k).c2) ∧ u.cell? ⟨w.heap.size, 2 + k * 4 + 3, none⟩ = some (.slice (s.pl k).A3 (s.pl k).n3 (s.pl k).c3) ∧ u.cell? ⟨w.heap.size, 14, none⟩ = some (.int .i64 X.T) ∧ Hid (Below u1.heap.size u1 u))) :=
      fun u hu => (ret_cells (T1.out.step hu.out) hk3 hu)
    have D0 := hide ((Below.refl u1.heap.size u1).drew)
    have D1 := hide (Pool.below_al (o := .cells Pool.zeros4 26) D0.out)
    clear hk hb hw hat HM
    go_upto_region 4 with (fail)
    go_region_held3 (fun u => u.cell? ⟨w.heap.size, 2 + k * 4, none⟩ = some (.slice (s.pl k).A0 (s.pl k).n0 (s.pl k).c0) ∧ u.cell? ⟨w.heap.size, 2 + k * 4 + 1, none⟩ = some (.slice (s.pl k).A1 (s.pl k).n1 (s.pl k).c1) ∧ u.cell? ⟨w.heap.size, 2 + k * 4 + 2, none⟩ = some (.slice (s.pl k).A2 (s.pl k).n2 (s.pl k).c2) ∧ u.cell? ⟨w.heap.size, 2 + k * 4 + 3, none⟩ = some (.slice (s.pl k).A3 (s.pl k).n3 (s.pl k).c3) ∧ u.cell? ⟨w.heap.size, 14, none⟩ = some (.int .i64 X.T) ∧ Hid (Below u1.heap.size u1 u))
      (first | exact hN.out _ D0 | exact hN.out _ (by assumption) | exact hN.out _ (hide (Pool.below_al (Hid.out (by assumption)))) | exact hN.out _ (hide (Pool.set4_below (Hid.out (by assumption)) (Nat.le_refl _) _ _ _ _)) | exact hN.out _ (hide (Pool.set4_below (Hid.out (by assumption)) (Below.size (Hid.out (by assumption))) _ _ _ _)))
      (first | (go_at_call 49; refine (HPL.out _).mono ?_; rintro e w' ⟨rfl, rfl⟩) | (go_at_call 53; refine (HRet.out u1.drew D0).mono ?_; rintro e u5 ⟨q, rfl, t5, b5⟩; have BU := hide (Pool.next_call D0.out (Nat.le_refl _) b5)) | (go_at_call 53; refine (HRet.out (u1.drew.alloc (.cells Pool.zeros4 26)) D1).mono ?_; rintro e u5 ⟨q, rfl, t5, b5⟩; have BU := hide (Pool.next_call D1.out (Nat.le_refl _) b5); have HZ4 := hide (Pool.box_before b5); obtain ⟨y0, fz0, y1, fz1, y2, fz2, y3, fz3⟩ := Pool.zero_cells HZ4.out; have hlz := HZ4.out.lt))
    all_goals first | (have AF0 := hide (rt_behind T1.out b5 t5); obtain ⟨U, hU⟩ : ∃ U, Hid (u5.alloc (.cells q.cs 26) = U) := ⟨_, rfl⟩; obtain ⟨h, hh⟩ : ∃ h, Hid (u5.heap.size = h) := ⟨_, rfl⟩; have AF : Hid (Rt w U s X h q QT) := (by show Rt _ _ _ _ _ _ _; rw [← hU.out, ← hh.out]; exact AF0.out); have hU' : u5.alloc (.cells q.cs 26) = U := hU.out; rw [hU', hh.out]; clear hU' hU hh AF0 t5 b5 BU hN HRet D0 D1 T1 ) | (have AF0 := hide (rt_before T1.out b5 t5); obtain ⟨U, hU⟩ : ∃ U, Hid (((((u5.setCell ⟨u1.heap.size, 0, none⟩ (.slice q.A0 q.n0 q.c0)).setCell ⟨u1.heap.size, 1, none⟩ (.slice q.A1 q.n1 q.c1)).setCell ⟨u1.heap.size, 2, none⟩ (.slice q.A2 q.n2 q.c2)).setCell ⟨u1.heap.size, 3, none⟩ (.slice q.A3 q.n3 q.c3)) = U) := ⟨_, rfl⟩; obtain ⟨h, hh⟩ : ∃ h, Hid (u1.heap.size = h) := ⟨_, rfl⟩; have AF : Hid (Rt w U s X h q QT) := (by show Rt _ _ _ _ _ _ _; rw [← hU.out, ← hh.out]; exact AF0.out); have hU' : ((((u5.setCell ⟨u1.heap.size, 0, none⟩ (.slice q.A0 q.n0 q.c0)).setCell ⟨u1.heap.size, 1, none⟩ (.slice q.A1 q.n1 q.c1)).setCell ⟨u1.heap.size, 2, none⟩ (.slice q.A2 q.n2 q.c2)).setCell ⟨u1.heap.size, 3, none⟩ (.slice q.A3 q.n3 q.c3)) = U := hU.out; rw [hU', hh.out]; clear hU' hU hh AF0 t5 b5 BU hN HRet D0 D1 T1 HZ4 y0 fz0 y1 fz1 y2 fz2 y3 fz3 hlz)
    all_goals
      obtain ⟨q0, q1, q2, q3⟩ := cells4 AF.out.own
      have hl := AF.out.own.lt
      by_cases h0 : eT = 0
      · subst h0
        rw [if_pos rfl] at EX
        have CW := hide (withPool_any s X k q _ U AF.out.tw.sees HF.out hk3 AF.out.reads)
        go_wp2_with (first | ((with_reducible refine ld31 (.tmp 3) w.heap.size ?_ s ?_ ?_); (exact rfl); (exact AF.out.tw.box)))
        refine CW.out.mono ?_
        rintro e u4 ⟨s', rfl, S4, K4, b4⟩
        have T4 := hide (AF.out.tw.step b4)
        have ZT := hide (T4.out.tell S4 fun c hc => by
          rcases K4 c hc with x | x | x
          · exact .inl (by have := AF.out.tw.size; omega)
          · exact .inr x
          · exact .inl (AF.out.far c x))
        clear S4 K4 b4 CW AF q0 q1 q2 q3 hl
        go_wp2_with (first | ((with_reducible refine st31 (.tmp 6) (.tmp 38) (w.heap.size + 1) ?_ s' ?_ noSh ?_ ?_); (exact rfl); (exact rfl); (exact T4.out.res)))
        exact bodyPost_ret (Era.results_row_one rfl _ _ (w.heap.size + 1) 31 _ (0, 0) _ rfl ZT.out.1 Try.underlying31 rfl (cs_info _)) rfl ⟨s', by rw [E0.out]; rfl, by rw [EX.out]; exact ZT.out.2.1, ZT.out.2.2⟩
      · rw [if_neg h0] at EX
        have hne : (eT != 0) = true := by simpa using h0
        have Z := hide AF.out.tw.zero
        go_wp2_with (first | ((with_reducible refine st31 (.tmp 6) (.tmp 33) (w.heap.size + 1) ?_ noSh ?_ noSh ?_ ?_); (exact rfl); (exact rfl); (exact AF.out.tw.res)))
        exact bodyPost_ret (Era.results_row_one rfl _ _ (w.heap.size + 1) 31 _ (0, 0) _ rfl Z.out.1 Try.underlying31 rfl (cs_info _)) rfl ⟨noSh, by rw [E0.out]; rfl, by rw [EX.out]; exact Z.out.2.1, Z.out.2.2⟩

end Go.Proofs.Ythficfmakbblkaa

/- What Retire tells, the document's. -/
namespace Go.Proofs.Ythficfmakbblkaa
open Go.RowKit
open Pool (Pl PL MayBe noP noPl Drew Told4 Row)
set_option linter.unusedVariables false
set_option maxRecDepth 100000

theorem wrap_k (k : Nat) (hk : k < 3) : IntKind.i64.wrap (k : Int) = (k : Int) := by rw [IntKind.wrap_i64]; omega
theorem sub_run (k : Nat) (hk : k < 3) : ∀ u : World, (binOp .sub 3 (.int .i64 ((k : Int) + 1)) (.int .i64 1)).run Try.prog u = .ok (.int .i64 (k : Int)) u := by
  intro u
  have h0 := wrap_k k hk
  go_simp
set_option maxHeartbeats 8000000 in
theorem rretire_any (s : Sh) (X : SL) (b : Bool) (which r : Int) (w : World) (S : Sees w s X) (F : Few X) (hb : Hid (b = true ↔ OkS X)) :
    Calls Try.prog 19 #[s.val, .int .i64 which, .int .i64 r] w (TellS w s (rtX b X which r) (fun v => .tuple #[v, .int .i64 (rtE b X which r)])) := by
  have T0 := hide (Tw.first S)
  have C0 := hide (rcheck_any s X b _ T0.out.sees F hb)
  have HF := hide F
  have HK : Hid (∀ u, Calls Try.prog 51 #[.int .i64 which] u fun e w' => e = .returned (.bool (decide (1 ≤ which ∧ which ≤ 3))) ∧ u = w') := fun u => rkind_any which u
  clear S F
  go_enter Try.func19, Try.ntmps19
  go_wp2_with ((with_reducible refine ld31 (.tmp 3) w.heap.size ?_ s ?_ ?_); (exact rfl); (exact T0.out.box))
  refine C0.out.mono ?_
  rintro e u1 ⟨rfl, b1⟩
  have T1 := hide (T0.out.step b1)
  clear b1 C0 T0
  rcases kind_cases b which with hk | ⟨hk, hbt, k, hk3, hw, hat⟩
  · have E : Hid (rtE b X which r = 1 ∧ rtX b X which r = noS) := by
      have e : rtE b X which r = 1 := by unfold rtE; rw [hk]; rfl
      exact ⟨e, by unfold rtX; rw [e]; rfl⟩
    have Z := hide T1.out.zero
    cases b with
    | false =>
      clear hk hb
      go_wp2_with (first | ((with_reducible refine st31 (.tmp 6) (.tmp 18) (w.heap.size + 1) ?_ noSh ?_ noSh ?_ ?_); (exact rfl); (exact rfl); (exact T1.out.res)))
      exact bodyPost_ret (Era.results_row_one rfl _ _ (w.heap.size + 1) 31 _ (0, 0) _ rfl Z.out.1 Try.underlying31 rfl (cs_info _)) rfl ⟨noSh, by rw [E.out.1]; rfl, by rw [E.out.2]; exact Z.out.2.1, Z.out.2.2⟩
    | true =>
      have hd : decide (1 ≤ which ∧ which ≤ 3) = false := by
        have : ¬ (1 ≤ which ∧ which ≤ 3) := fun h => by unfold kndE at hk; rw [if_pos ⟨rfl, h⟩] at hk; cases hk
        simpa using this
      rw [hd] at HK
      clear hk hb hd
      go_wp2_with (first | (go_at_call 51; refine (HK.out _).mono ?_; rintro e w' ⟨rfl, rfl⟩) | ((with_reducible refine st31 (.tmp 6) (.tmp 18) (w.heap.size + 1) ?_ noSh ?_ noSh ?_ ?_); (exact rfl); (exact rfl); (exact T1.out.res)))
      exact bodyPost_ret (Era.results_row_one rfl _ _ (w.heap.size + 1) 31 _ (0, 0) _ rfl Z.out.1 Try.underlying31 rfl (cs_info _)) rfl ⟨noSh, by rw [E.out.1]; rfl, by rw [E.out.2]; exact Z.out.2.1, Z.out.2.2⟩
  · have HM := hide ((hb.out.1 hbt).1 k hk3)
    have E0 : Hid (rtE b X which r = Pool.retE true (X.pl k) r) := by show _ = _; unfold rtE; rw [hk, if_pos rfl, hat]
    have EX : Hid (rtX b X which r = if Pool.retE true (X.pl k) r = 0 then X.setPl k (Pool.retQ true (X.pl k) r X.T) else noS) := by show _ = _; unfold rtX; rw [E0.out, hat]
    have hi0 : (0 : Int) ≤ (k : Int) := by omega
    have hi1 : (k : Int) < 3 := by omega
    have hd : decide (1 ≤ which ∧ which ≤ 3) = true := by simp; omega
    rw [hd, hw] at HK
    rw [hw]
    subst hbt
    clear hd
    have hsub := sub_run k hk3
    have hwk := wrap_k k hk3
    have HRet : Hid (∀ u, Hid (Below u1.heap.size u1 u) → Calls Try.prog 54 #[(s.pl k).val, .int .i64 r, .int .i64 X.T] u (Pool.Tell2 u (Pool.retQ true (X.pl k) r X.T) (Pool.retE true (X.pl k) r))) :=
      fun u hu => Pool.rretire_any (s.pl k) (X.pl k) u.heap.size true r X.T u ((T1.out.sees.step hu.out).p k hk3) (Nat.le_refl _) (small_of (T1.out.sees.p k hk3) (HF.out.p k hk3)) (Pool.yes_may HM.out)
    generalize Pool.retQ true (X.pl k) r X.T = QT at HRet EX
    generalize Pool.retE true (X.pl k) r = eT at HRet E0 EX
    have hN : Hid (∀ u, Hid (Below u1.heap.size u1 u) → (u.cell? ⟨w.heap.size, 2 + k * 4, none⟩ = some (.slice (s.pl k).A0 (s.pl k).n0 (s.pl k).c0) ∧ u.cell? ⟨w.heap.size, 2 + k * 4 + 1, none⟩ = some (.slice (s.pl k).A1 (s.pl k).n1 (s.pl k).c1) ∧ u.cell? ⟨w.heap.size, 2 + k * 4 + 2, none⟩ = some (.slice (s.pl k).A2 (s.pl k).n2 (s.pl k).c2) ∧ u.cell? ⟨w.heap.size, 2 + k * 4 + 3, none⟩ = some (.slice (s.pl k).A3 (s.pl k).n3 (s.pl k).c3) ∧ u.cell? ⟨w.heap.size, 14, none⟩ = some (.int .i64 X.T) ∧ Hid (Below u1.heap.size u1 u))) :=
      fun u hu => (ret_cells (T1.out.step hu.out) hk3 hu)
    have D0 := hide ((Below.refl u1.heap.size u1).drew)
    have D1 := hide (Pool.below_al (o := .cells Pool.zeros4 26) D0.out)
    clear hk hb hw hat HM
    go_upto_region 3 with (go_at_call 51; refine (HK.out _).mono ?_; rintro e w' ⟨rfl, rfl⟩)
    go_region_held3 (fun u => u.cell? ⟨w.heap.size, 2 + k * 4, none⟩ = some (.slice (s.pl k).A0 (s.pl k).n0 (s.pl k).c0) ∧ u.cell? ⟨w.heap.size, 2 + k * 4 + 1, none⟩ = some (.slice (s.pl k).A1 (s.pl k).n1 (s.pl k).c1) ∧ u.cell? ⟨w.heap.size, 2 + k * 4 + 2, none⟩ = some (.slice (s.pl k).A2 (s.pl k).n2 (s.pl k).c2) ∧ u.cell? ⟨w.heap.size, 2 + k * 4 + 3, none⟩ = some (.slice (s.pl k).A3 (s.pl k).n3 (s.pl k).c3) ∧ u.cell? ⟨w.heap.size, 14, none⟩ = some (.int .i64 X.T) ∧ Hid (Below u1.heap.size u1 u))
      (first | exact hN.out _ D0 | exact hN.out _ (by assumption) | exact hN.out _ (hide (Pool.below_al (Hid.out (by assumption)))) | exact hN.out _ (hide (Pool.set4_below (Hid.out (by assumption)) (Nat.le_refl _) _ _ _ _)) | exact hN.out _ (hide (Pool.set4_below (Hid.out (by assumption)) (Below.size (Hid.out (by assumption))) _ _ _ _)))
      (first | (go_at_call 54; refine (HRet.out u1.drew D0).mono ?_; rintro e u5 ⟨q, rfl, t5, b5⟩; have BU := hide (Pool.next_call D0.out (Nat.le_refl _) b5)) | (go_at_call 54; refine (HRet.out (u1.drew.alloc (.cells Pool.zeros4 26)) D1).mono ?_; rintro e u5 ⟨q, rfl, t5, b5⟩; have BU := hide (Pool.next_call D1.out (Nat.le_refl _) b5); have HZ4 := hide (Pool.box_before b5); obtain ⟨y0, fz0, y1, fz1, y2, fz2, y3, fz3⟩ := Pool.zero_cells HZ4.out; have hlz := HZ4.out.lt))
    all_goals first | (have AF0 := hide (rt_behind T1.out b5 t5); obtain ⟨U, hU⟩ : ∃ U, Hid (u5.alloc (.cells q.cs 26) = U) := ⟨_, rfl⟩; obtain ⟨h, hh⟩ : ∃ h, Hid (u5.heap.size = h) := ⟨_, rfl⟩; have AF : Hid (Rt w U s X h q QT) := (by show Rt _ _ _ _ _ _ _; rw [← hU.out, ← hh.out]; exact AF0.out); have hU' : u5.alloc (.cells q.cs 26) = U := hU.out; rw [hU', hh.out]; clear hU' hU hh AF0 t5 b5 BU hN HRet D0 D1 T1 ) | (have AF0 := hide (rt_before T1.out b5 t5); obtain ⟨U, hU⟩ : ∃ U, Hid (((((u5.setCell ⟨u1.heap.size, 0, none⟩ (.slice q.A0 q.n0 q.c0)).setCell ⟨u1.heap.size, 1, none⟩ (.slice q.A1 q.n1 q.c1)).setCell ⟨u1.heap.size, 2, none⟩ (.slice q.A2 q.n2 q.c2)).setCell ⟨u1.heap.size, 3, none⟩ (.slice q.A3 q.n3 q.c3)) = U) := ⟨_, rfl⟩; obtain ⟨h, hh⟩ : ∃ h, Hid (u1.heap.size = h) := ⟨_, rfl⟩; have AF : Hid (Rt w U s X h q QT) := (by show Rt _ _ _ _ _ _ _; rw [← hU.out, ← hh.out]; exact AF0.out); have hU' : ((((u5.setCell ⟨u1.heap.size, 0, none⟩ (.slice q.A0 q.n0 q.c0)).setCell ⟨u1.heap.size, 1, none⟩ (.slice q.A1 q.n1 q.c1)).setCell ⟨u1.heap.size, 2, none⟩ (.slice q.A2 q.n2 q.c2)).setCell ⟨u1.heap.size, 3, none⟩ (.slice q.A3 q.n3 q.c3)) = U := hU.out; rw [hU', hh.out]; clear hU' hU hh AF0 t5 b5 BU hN HRet D0 D1 T1 HZ4 y0 fz0 y1 fz1 y2 fz2 y3 fz3 hlz)
    all_goals
      obtain ⟨q0, q1, q2, q3⟩ := cells4 AF.out.own
      have hl := AF.out.own.lt
      by_cases h0 : eT = 0
      · subst h0
        rw [if_pos rfl] at EX
        obtain ⟨v0, v1, v2, v3, y0, f0, y1, f1, y2, f2, y3, f3⟩ := pool_room AF.out.tw.box hk3
        have HS := hide (AF.out.tw.setPl hk3 AF.out.reads AF.out.far)
        have ZT := hide (tell_own HS.out.2.2.2.2 HS.out.2.1 AF.out.tw.was HS.out.2.2.1 HS.out.2.2.2.1)
        have hl3 := AF.out.tw.box.lt
        go_wp2_with (first | ((with_reducible refine ld31 (.tmp 3) w.heap.size ?_ (s.setPl k q) ?_ ?_); (exact rfl); (exact HS.out.1)) | ((with_reducible refine st31 (.tmp 6) (.tmp 41) (w.heap.size + 1) ?_ (s.setPl k q) ?_ noSh ?_ ?_); (exact rfl); (exact rfl); (exact HS.out.2.1)))
        exact bodyPost_ret (Era.results_row_one rfl _ _ (w.heap.size + 1) 31 _ (0, 0) _ rfl ZT.out.1 Try.underlying31 rfl (cs_info _)) rfl ⟨_, by rw [E0.out]; rfl, by rw [EX.out]; exact ZT.out.2.1, ZT.out.2.2⟩
      · rw [if_neg h0] at EX
        have hne : (eT != 0) = true := by simpa using h0
        have Z := hide AF.out.tw.zero
        go_wp2_with (first | ((with_reducible refine st31 (.tmp 6) (.tmp 34) (w.heap.size + 1) ?_ noSh ?_ noSh ?_ ?_); (exact rfl); (exact rfl); (exact AF.out.tw.res)))
        exact bodyPost_ret (Era.results_row_one rfl _ _ (w.heap.size + 1) 31 _ (0, 0) _ rfl Z.out.1 Try.underlying31 rfl (cs_info _)) rfl ⟨noSh, by rw [E0.out]; rfl, by rw [EX.out]; exact Z.out.2.1, Z.out.2.2⟩

end Go.Proofs.Ythficfmakbblkaa

/- What Pin tells, the code's and the document's. -/
namespace Go.Proofs.Ythficfmakbblkaa
open Go.RowKit
open Pool (Pl PL MayBe noP noPl Drew Told4 Row)
set_option linter.unusedVariables false
set_option maxRecDepth 100000

/-- What Pin tells. -/
def piE (b : Bool) (X : SL) (t : Int) : Int := Era.pinE b X.Z t
def piX (b : Bool) (X : SL) (t : Int) : SL := if piE b X t = 0 then X.setEra (Era.pinT b X.T X.Z t) (Era.pinZ b X.T X.Z t) else noS

set_option maxHeartbeats 4000000 in
theorem pin_any (s : Sh) (X : SL) (b : Bool) (t : Int) (w : World) (S : Sees w s X) (F : Few X) (hb : Hid (b = true ↔ OkS X)) :
    Calls Try.prog 22 #[s.val, .int .i64 t] w (TellS w s (piX b X t) (fun v => .tuple #[v, .int .i64 (piE b X t)])) := by
  have T0 := hide (Tw.first S)
  have C0 := hide (check_any s X b _ T0.out.sees F hb)
  have HF := hide F
  clear S F
  go_enter Try.func22, Try.ntmps22
  go_wp2_with ((with_reducible refine ld31 (.tmp 2) w.heap.size ?_ s ?_ ?_); (exact rfl); (exact T0.out.box))
  refine C0.out.mono ?_
  rintro e u1 ⟨rfl, b1⟩
  have T1 := hide (T0.out.step b1)
  clear b1 C0 T0
  cases b with
  | false =>
    have E : Hid (piE false X t = 1 ∧ piX false X t = noS) := by
      have e : piE false X t = 1 := Era.pinE_bad (.inl rfl)
      exact ⟨e, by unfold piX; rw [e]; rfl⟩
    have Z := hide T1.out.zero
    clear hb
    go_wp2_with (first | ((with_reducible refine st31 (.tmp 4) (.tmp 13) (w.heap.size + 1) ?_ noSh ?_ noSh ?_ ?_); (exact rfl); (exact rfl); (exact T1.out.res)))
    exact bodyPost_ret (Era.results_row_one rfl _ _ (w.heap.size + 1) 31 _ (0, 0) _ rfl Z.out.1 Try.underlying31 rfl (cs_info _)) rfl ⟨noSh, by rw [E.out.1]; rfl, by rw [E.out.2]; exact Z.out.2.1, Z.out.2.2⟩
  | true =>
    have HO := hide (hb.out.1 rfl)
    obtain ⟨h0, h1⟩ := T1.out.box.era
    rw [T1.out.sees.t] at h0
    have hl := T1.out.box.lt
    have CT := hide (Era.pin_any X.T s.z.A s.z.n s.z.c u1.heap.size X.Z true t u1 T1.out.sees.z (Nat.le_refl _) (Era.yes_of HO.out.2))
    have EX : Hid (piX true X t = if piE true X t = 0 then X.setEra (Era.pinT true X.T X.Z t) (Era.pinZ true X.T X.Z t) else noS) := rfl
    have EE : Hid (Era.pinE true X.Z t = piE true X t) := rfl
    rw [EE.out] at CT
    clear hb HO EE
    generalize hE : piE true X t = eT at CT EX
    have E0 := hide hE
    clear hE
    generalize Era.pinT true X.T X.Z t = tT at CT EX
    generalize Era.pinZ true X.T X.Z t = zT at CT EX
    go_wp2_with fail
    refine CT.out.mono ?_
    rintro e u2 ⟨A, n, c, rfl, rz, b2⟩
    have T2 := hide (T1.out.step b2)
    have T3 := hide (T2.out.alloc (.cells (Era.C2 tT A n c) 29))
    have R3 : Hid (Era.Reads (u2.alloc (.cells (Era.C2 tT A n c) 29)) (u2.alloc (.cells (Era.C2 tT A n c) 29)).heap.size A n c zT) := hide (rz.alloc _).reads
    have HQ : Hid (∀ d, InA A n d → w.heap.size + 2 ≤ d) := fun d hd => by have := inA_row rz hd; have := T1.out.size; omega
    have Z := hide T3.out.zero
    have E3 := Era.EBox.cells (Era.EBox.new u2 (Era.C2 tT A n c))
    clear b2 rz h0 h1 hl CT T1 T2
    by_cases h : eT = 0
    · subst h
      rw [if_pos rfl] at EX
      have CW := hide (withEra_any s X tT A n c zT (u2.alloc (.cells (Era.C2 tT A n c) 29)) T3.out.sees HF.out R3.out)
      go_wp2_with (first | ((with_reducible refine ld31 (.tmp 2) w.heap.size ?_ s ?_ ?_); (exact rfl); (exact T3.out.box)))
      refine CW.out.mono ?_
      rintro e u4 ⟨s', rfl, S4, K4, b4⟩
      have T4 := hide (T3.out.step b4)
      have ZT := hide (T4.out.tell S4 fun d hd => by
        rcases K4 d hd with x | x | x
        · exact .inl (by have := T3.out.size; omega)
        · exact .inr x
        · exact .inl (HQ.out d x))
      clear S4 K4 b4 CW T3 R3 HQ Z E3
      go_wp2_with (first | ((with_reducible refine st31 (.tmp 4) (.tmp 28) (w.heap.size + 1) ?_ s' ?_ noSh ?_ ?_); (exact rfl); (exact rfl); (exact T4.out.res)))
      exact bodyPost_ret (Era.results_row_one rfl _ _ (w.heap.size + 1) 31 _ (0, 0) _ rfl ZT.out.1 Try.underlying31 rfl (cs_info _)) rfl ⟨s', by rw [E0.out]; rfl, by rw [EX.out]; exact ZT.out.2.1, ZT.out.2.2⟩
    · rw [if_neg h] at EX
      have hne : (eT != 0) = true := by simpa using h
      go_wp2_with (first | ((with_reducible refine st31 (.tmp 4) (.tmp 24) (w.heap.size + 1) ?_ noSh ?_ noSh ?_ ?_); (exact rfl); (exact rfl); (exact T3.out.res)))
      exact bodyPost_ret (Era.results_row_one rfl _ _ (w.heap.size + 1) 31 _ (0, 0) _ rfl Z.out.1 Try.underlying31 rfl (cs_info _)) rfl ⟨noSh, by rw [E0.out]; rfl, by rw [EX.out]; exact Z.out.2.1, Z.out.2.2⟩

set_option maxHeartbeats 4000000 in
theorem rpin_any (s : Sh) (X : SL) (b : Bool) (t : Int) (w : World) (S : Sees w s X) (F : Few X) (hb : Hid (b = true ↔ OkS X)) :
    Calls Try.prog 23 #[s.val, .int .i64 t] w (TellS w s (piX b X t) (fun v => .tuple #[v, .int .i64 (piE b X t)])) := by
  have T0 := hide (Tw.first S)
  have C0 := hide (rcheck_any s X b _ T0.out.sees F hb)
  have HF := hide F
  clear S F
  go_enter Try.func23, Try.ntmps23
  go_wp2_with ((with_reducible refine ld31 (.tmp 2) w.heap.size ?_ s ?_ ?_); (exact rfl); (exact T0.out.box))
  refine C0.out.mono ?_
  rintro e u1 ⟨rfl, b1⟩
  have T1 := hide (T0.out.step b1)
  clear b1 C0 T0
  cases b with
  | false =>
    have E : Hid (piE false X t = 1 ∧ piX false X t = noS) := by
      have e : piE false X t = 1 := Era.pinE_bad (.inl rfl)
      exact ⟨e, by unfold piX; rw [e]; rfl⟩
    have Z := hide T1.out.zero
    clear hb
    go_wp2_with (first | ((with_reducible refine st31 (.tmp 4) (.tmp 11) (w.heap.size + 1) ?_ noSh ?_ noSh ?_ ?_); (exact rfl); (exact rfl); (exact T1.out.res)))
    exact bodyPost_ret (Era.results_row_one rfl _ _ (w.heap.size + 1) 31 _ (0, 0) _ rfl Z.out.1 Try.underlying31 rfl (cs_info _)) rfl ⟨noSh, by rw [E.out.1]; rfl, by rw [E.out.2]; exact Z.out.2.1, Z.out.2.2⟩
  | true =>
    have HO := hide (hb.out.1 rfl)
    obtain ⟨h0, h1⟩ := T1.out.box.era
    rw [T1.out.sees.t] at h0
    have hl := T1.out.box.lt
    have CT := hide (Era.rpin_any X.T s.z.A s.z.n s.z.c u1.heap.size X.Z true t u1 T1.out.sees.z (Nat.le_refl _) (Era.yes_of HO.out.2))
    have EX : Hid (piX true X t = if piE true X t = 0 then X.setEra (Era.pinT true X.T X.Z t) (Era.pinZ true X.T X.Z t) else noS) := rfl
    have EE : Hid (Era.pinE true X.Z t = piE true X t) := rfl
    rw [EE.out] at CT
    clear hb HO EE
    generalize hE : piE true X t = eT at CT EX
    have E0 := hide hE
    clear hE
    generalize Era.pinT true X.T X.Z t = tT at CT EX
    generalize Era.pinZ true X.T X.Z t = zT at CT EX
    go_wp2_with fail
    refine CT.out.mono ?_
    rintro e u2 ⟨A, n, c, rfl, rz, b2⟩
    have T2 := hide (T1.out.step b2)
    have T3 := hide (T2.out.alloc (.cells (Era.C2 tT A n c) 29))
    have R3 : Hid (Era.Reads (u2.alloc (.cells (Era.C2 tT A n c) 29)) (u2.alloc (.cells (Era.C2 tT A n c) 29)).heap.size A n c zT) := hide (rz.alloc _).reads
    have HQ : Hid (∀ d, InA A n d → w.heap.size + 2 ≤ d) := fun d hd => by have := inA_row rz hd; have := T1.out.size; omega
    have Z := hide T3.out.zero
    have E3 := Era.EBox.cells (Era.EBox.new u2 (Era.C2 tT A n c))
    clear b2 rz h0 h1 hl CT T1 T2
    by_cases h : eT = 0
    · subst h
      rw [if_pos rfl] at EX
      obtain ⟨y4, y5⟩ := T3.out.box.era
      have f4 := T3.out.box.frozen 14
      have f5 := T3.out.box.frozen 15
      have hl3 := T3.out.box.lt
      have HS := hide (T3.out.setEra (t := tT) R3.out HQ.out)
      have ZT := hide (tell_own HS.out.2.2.2.2 HS.out.2.1 T3.out.was HS.out.2.2.1 HS.out.2.2.2.1)
      clear R3 HQ Z
      go_wp2_with (first | ((with_reducible refine ld31 (.tmp 2) w.heap.size ?_ (s.setEra tT ⟨A, n, c⟩) ?_ ?_); (exact rfl); (exact HS.out.1)) | ((with_reducible refine st31 (.tmp 4) (.tmp 25) (w.heap.size + 1) ?_ (s.setEra tT ⟨A, n, c⟩) ?_ noSh ?_ ?_); (exact rfl); (exact rfl); (exact HS.out.2.1)))
      exact bodyPost_ret (Era.results_row_one rfl _ _ (w.heap.size + 1) 31 _ (0, 0) _ rfl ZT.out.1 Try.underlying31 rfl (cs_info _)) rfl ⟨_, by rw [E0.out]; rfl, by rw [EX.out]; exact ZT.out.2.1, ZT.out.2.2⟩
    · rw [if_neg h] at EX
      have hne : (eT != 0) = true := by simpa using h
      go_wp2_with (first | ((with_reducible refine st31 (.tmp 4) (.tmp 21) (w.heap.size + 1) ?_ noSh ?_ noSh ?_ ?_); (exact rfl); (exact rfl); (exact T3.out.res)))
      exact bodyPost_ret (Era.results_row_one rfl _ _ (w.heap.size + 1) 31 _ (0, 0) _ rfl Z.out.1 Try.underlying31 rfl (cs_info _)) rfl ⟨noSh, by rw [E0.out]; rfl, by rw [EX.out]; exact Z.out.2.1, Z.out.2.2⟩

end Go.Proofs.Ythficfmakbblkaa

/- Words: what is shared while its pools are reclaimed, one behind the other. -/
namespace Go.Proofs.Ythficfmakbblkaa
open Go.RowKit
open Pool (Pl PL MayBe noP noPl Drew Told4 Row)
set_option linter.unusedVariables false
set_option maxRecDepth 100000

/-- q stands in the box at h, the era that was told in that at g; both read as told. -/
structure Tn (w u : World) (s : Sh) (Y : SL) (q : Sh) (h g : Nat) (t : Int) (A : Option Addr) (n c : Nat) (Z : List Int) : Prop where
  bel : Below w.heap.size w u
  res : SBox u (w.heap.size + 1) noSh
  own : SBox u h q
  sees : Sees u q Y
  kin : ∀ b, q.Has b → (w.heap.size + 2 ≤ b ∧ b ≠ h) ∨ s.Has b
  era : Era.EBox u g (Era.C2 t A n c)
  rz : Era.Reads u u.heap.size A n c Z
  ez : ∀ b, InA A n b → b ≠ h
  hw : w.heap.size ≤ h
  hr : h ≠ w.heap.size + 1
  hg : g ≠ h
  was : ∀ b, s.Has b → b < w.heap.size
section
variable {w u u' : World} {s q : Sh} {Y : SL} {h g n c k : Nat} {t : Int} {A : Option Addr} {Z : List Int}
theorem Tn.step (T : Tn w u s Y q h g t A n c Z) (b : Below u.heap.size u u') : Tn w u' s Y q h g t A n c Z :=
  ⟨Pool.next_call T.bel (Nat.le_refl _) b, T.res.step b, T.own.step b, T.sees.step b, T.kin, T.era.step b, T.rz.step b, T.ez, T.hw, T.hr, T.hg, T.was⟩
theorem Tn.alloc (T : Tn w u s Y q h g t A n c Z) (o : Obj) : Tn w (u.alloc o) s Y q h g t A n c Z := T.step ((Below.refl _ _).alloc (Nat.le_refl _) _)
theorem Tn.drew (T : Tn w u s Y q h g t A n c Z) : Tn w u.drew s Y q h g t A n c Z := T.step (Below.refl _ _).drew
theorem Tn.no (T : Tn w u s Y q h g t A n c Z) : ¬ q.Has h := fun hb => by
  rcases T.kin h hb with x | x
  · exact x.2 rfl
  · have := T.was h x; have := T.hw; omega
theorem Tn.tell (T : Tn w u s Y q h g t A n c Z) : SBox (u.setRow (w.heap.size + 1) q.cs) (w.heap.size + 1) q ∧ Sees (u.setRow (w.heap.size + 1) q.cs) q Y ∧ Kin w s q ∧ Below w.heap.size w (u.setRow (w.heap.size + 1) q.cs) := by
  have hn : ¬ q.Has (w.heap.size + 1) := fun hb => by
    rcases T.kin _ hb with x | x
    · omega
    · have := T.was _ x; omega
  obtain ⟨x1, x2, x3⟩ := tell_row T.bel T.res (by omega) T.sees hn
  exact ⟨x1, x2, fun b hb => by rcases T.kin b hb with x | x; (exact .inl (by omega)); exact .inr x, x3⟩
theorem Tn.put {p : Pl} {P : PL} {B : Nat} (T : Tn w u s Y q h g t A n c Z) (hk : k < 3) (tp : Told4 u B p P) (hB : h < B) (hB2 : w.heap.size + 2 ≤ B) :
    Tn w ((((u.setCell ⟨h, 2 + k * 4, none⟩ (.slice p.A0 p.n0 p.c0)).setCell ⟨h, 2 + k * 4 + 1, none⟩ (.slice p.A1 p.n1 p.c1)).setCell ⟨h, 2 + k * 4 + 2, none⟩ (.slice p.A2 p.n2 p.c2)).setCell ⟨h, 2 + k * 4 + 3, none⟩ (.slice p.A3 p.n3 p.c3)) s (Y.setPl k P) (q.setPl k p) h g t A n c Z := by
  have hp : ∀ b, HasP p b → B ≤ b := fun b hb => told_has tp hb
  have K : ∀ b, (q.setPl k p).Has b → (w.heap.size + 2 ≤ b ∧ b ≠ h) ∨ s.Has b := fun b hb => by
    rcases has_setPl hk hb with x | x
    · exact T.kin b x
    · have := hp b x; exact .inl ⟨by omega, by omega⟩
  have hn : ¬ (q.setPl k p).Has h := fun hb => by
    rcases K h hb with x | x
    · exact x.2 rfl
    · have := T.was h x; have := T.hw; omega
  have h1 := T.hw
  have h2 := T.hr
  have h3 := T.hg
  have hz : Era.Reads ((((u.setCell ⟨h, 2 + k * 4, none⟩ (.slice p.A0 p.n0 p.c0)).setCell ⟨h, 2 + k * 4 + 1, none⟩ (.slice p.A1 p.n1 p.c1)).setCell ⟨h, 2 + k * 4 + 2, none⟩ (.slice p.A2 p.n2 p.c2)).setCell ⟨h, 2 + k * 4 + 3, none⟩ (.slice p.A3 p.n3 p.c3)) u.heap.size A n c Z := ⟨nums_same T.rz.1 (fun b i hb => by
    have hne := T.ez b hb
    simp only [World.cell?]
    rw [heap_setCell_other _ _ b _ hne, heap_setCell_other _ _ b _ hne, heap_setCell_other _ _ b _ hne, heap_setCell_other _ _ b _ hne]), T.rz.2⟩
  exact ⟨(((T.bel.setCell (p := ⟨h, 2 + k * 4, none⟩) h1 _).setCell (p := ⟨h, 2 + k * 4 + 1, none⟩) h1 _).setCell (p := ⟨h, 2 + k * 4 + 2, none⟩) h1 _).setCell (p := ⟨h, 2 + k * 4 + 3, none⟩) h1 _,
    (((T.res.other h2.symm _ _).other h2.symm _ _).other h2.symm _ _).other h2.symm _ _, T.own.setPl hk p,
    ((((T.sees.setPl tp.reads hk).cell hn _ _).cell hn _ _).cell hn _ _).cell hn _ _, K,
    (((T.era.other h3.symm _).other h3.symm _).other h3.symm _).other h3.symm _, by simpa using hz, T.ez, h1, h2, h3, T.was⟩
end

theorem recX_pl (Y : SL) (upto : Int) {k j : Nat} (hj : j < 3) : (recX Y upto k).pl j = if j < k then Pool.recQ true (Y.pl j) upto else Y.pl j := by
  match j, hj with
  | 0, _ | 1, _ | 2, _ => rfl
theorem recX_next (Y : SL) (upto : Int) {k : Nat} (hk : k < 3) : (recX Y upto k).setPl k (Pool.recQ true (Y.pl k) upto) = recX Y upto (k + 1) := by
  match k, hk with
  | 0, _ | 1, _ | 2, _ => rfl
theorem recX_zero (Y : SL) (upto : Int) : recX Y upto 0 = Y := rfl
theorem setEra_same (X : SL) : X.setEra X.T X.Z = X := rfl
/-- Turned, an era may be. -/
theorem ok_turn {t : Int} {zs : List Int} (h : Era.Ok t zs) {q : Bool} (hq : q = true ↔ Era.Step t zs) (hb : Era.turnB true q t = true) : Era.Ok (t + 1) zs := by
  have hb' : q = true ∧ t ≠ 1152921504606846976 := by
    unfold Era.turnB at hb
    simpa using hb
  refine ⟨⟨by have := h.1.1; omega, by have := h.1.2; have := hb'.2; omega⟩, h.2.1, fun z hz => ?_⟩
  rcases hq.1 hb'.1 z hz with e | e
  · exact .inl e
  · exact .inr (.inr (by omega))
theorem turn_yes {t : Int} {q : Bool} (hb : Era.turnB true q t = true) : Era.turnT true q t = t + 1 := by unfold Era.turnT; rw [hb]; rfl
theorem turn_not {t : Int} {q : Bool} (hb : Era.turnB true q t = false) : Era.turnT true q t = t := by unfold Era.turnT; rw [hb]; rfl
theorem safe_is (t : Int) : Era.safeV true (t + 1) = t - 1 := by show t + 1 - 2 = _; omega
theorem trX_yes {X : SL} {q : Bool} (hb : Era.turnB true q X.T = true) : trX true q X = recX (X.setEra (X.T + 1) X.Z) (X.T - 1) 3 := by unfold trX trB; rw [hb]; rfl
theorem trX_not {X : SL} {q : Bool} (hb : Era.turnB true q X.T = false) : trX true q X = X := by unfold trX trB; rw [hb]; rfl

end Go.Proofs.Ythficfmakbblkaa

/- What Turn tells, the code's. -/
namespace Go.Proofs.Ythficfmakbblkaa
open Go.RowKit
open Pool (Pl PL MayBe noP noPl Drew Told4 Row)
set_option linter.unusedVariables false
set_option maxRecDepth 100000

theorem tn_first {w u2 u4 : World} {s s' : Sh} {X : SL} {A : Option Addr} {n c g B : Nat} {t : Int} {Z : List Int} (T : Tw w u2 s X) (R : Era.Row u2 B A n c Z) (hB : w.heap.size + 2 ≤ B) (E : Era.EBox u2 g (Era.C2 t A n c)) (S4 : Sees u4 s' (X.setEra t Z)) (K4 : ∀ b, s'.Has b → u2.heap.size ≤ b ∨ s.Has b ∨ InA A n b) (b4 : Below u2.heap.size u2 u4) (hg : w.heap.size + 2 ≤ u2.heap.size) :
    Tn w ((u4.alloc (.cells zeros16 31)).setRow u4.heap.size s'.cs) s (X.setEra t Z) s' u4.heap.size g t A n c Z := by
  have h1 := b4.size
  have hn : ¬ s'.Has u4.heap.size := fun h => by have := S4.lt h; omega
  have hza : ∀ b, InA A n b → b < u4.heap.size := fun b hb => by have : b < u2.heap.size := nums_lt (zs := Z) R.reads.1 hb; omega
  have hg4 := (E.step b4).lt
  have hc : ∀ b i, InA A n b → ((u4.alloc (.cells zeros16 31)).setRow u4.heap.size s'.cs).cell? ⟨b, i, none⟩ = u4.cell? ⟨b, i, none⟩ := fun b i hb => by
    have := hza b hb
    rw [cell_setRow_other _ _ _ _ (by show b ≠ _; omega)]
    simp only [World.cell?]
    rw [Below.heap_alloc u4 _ b this]
  have rz : Era.Reads u4 u4.heap.size A n c Z := (R.below b4).reads
  exact ⟨below_setRow ((T.step b4).bel.alloc (T.step b4).bel.size _) (T.step b4).bel.size _, ((T.step b4).res.alloc _).far (by have := (T.step b4).res.lt; omega) _, setRow_heap _ _ _ _ 31 (0, 0) (heap_alloc_new _ _), (S4.alloc _).row hn _,
    fun b hb => by
      rcases K4 b hb with x | x | x
      · exact .inl ⟨by omega, fun e => hn (e ▸ hb)⟩
      · exact .inr x
      · have := inA_row R x; exact .inl ⟨by omega, fun e => hn (e ▸ hb)⟩,
    (setRow_other _ _ _ _ (by omega)).trans ((E.step b4).alloc _), ⟨Era.Nums.more (nums_same rz.1 hc) (by simp), rz.2⟩, fun b hb => by have := hza b hb; omega, (T.step b4).bel.size, by omega, by omega, fun b hb => T.was.lt hb⟩

set_option maxHeartbeats 8000000 in
theorem turn_any (s : Sh) (X : SL) (b q : Bool) (w : World) (S : Sees w s X) (F : Few X) (hb : Hid (b = true ↔ OkS X)) (hq : Hid (q = true ↔ Era.Step X.T X.Z)) :
    Calls Try.prog 24 #[s.val] w (TellS w s (trX b q X) (fun v => .tuple #[v, .bool (trB b q X)])) := by
  have T0 := hide (Tw.first S)
  have C0 := hide (check_any s X b _ T0.out.sees F hb)
  have HF := hide F
  clear S F
  go_enter Try.func24, Try.ntmps24
  go_wp2_with ((with_reducible refine ld31 (.tmp 1) w.heap.size ?_ s ?_ ?_); (exact rfl); (exact T0.out.box))
  refine C0.out.mono ?_
  rintro e u1 ⟨rfl, b1⟩
  have T1 := hide (T0.out.step b1)
  clear b1 C0 T0
  cases b with
  | false =>
    have Z := hide T1.out.zero
    clear hb hq
    go_wp2_with (first | ((with_reducible refine st31 (.tmp 2) (.tmp 12) (w.heap.size + 1) ?_ noSh ?_ noSh ?_ ?_); (exact rfl); (exact rfl); (exact T1.out.res)))
    exact bodyPost_ret (Era.results_row_one rfl _ _ (w.heap.size + 1) 31 _ (0, 0) _ rfl Z.out.1 Try.underlying31 rfl (cs_info _)) rfl ⟨noSh, rfl, Z.out.2.1, Z.out.2.2⟩
  | true =>
    have HO := hide (hb.out.1 rfl)
    obtain ⟨h0, h1⟩ := T1.out.box.era
    rw [T1.out.sees.t] at h0
    have hl := T1.out.box.lt
    have CT := hide (Era.turn_any X.T s.z.A s.z.n s.z.c u1.heap.size X.Z true q u1 T1.out.sees.z (Nat.le_refl _) (Era.yes_of HO.out.2) hq)
    have HOT : Hid (Era.turnB true q X.T = true → Era.Ok (X.T + 1) X.Z) := fun h => ok_turn HO.out.2 hq.out h
    have EZ : Hid (Era.turnZ true X.Z = X.Z) := rfl
    have EB : Hid (trB true q X = Era.turnB true q X.T) := rfl
    rw [EZ.out] at CT
    clear hb hq EZ
    generalize hB : Era.turnB true q X.T = ok at CT HOT
    have HB := hide hB
    clear hB
    go_wp2_with fail
    refine CT.out.mono ?_
    rintro e u2 ⟨A, n, c, rfl, rz, b2⟩
    generalize htT : Era.turnT true q X.T = tT
    have HT := hide htT
    clear htT
    have T2 := hide (T1.out.step b2)
    have T3 := hide (T2.out.alloc (.cells (Era.C2 tT A n c) 29))
    have Z3 : Hid (Era.Row (u2.alloc (.cells (Era.C2 tT A n c) 29)) u1.heap.size A n c X.Z) := hide (rz.alloc _)
    have E3 := hide (Era.EBox.new u2 (Era.C2 tT A n c))
    have CW := hide (withEra_any s X tT A n c X.Z (u2.alloc (.cells (Era.C2 tT A n c) 29)) T3.out.sees HF.out Z3.out.reads)
    have s1 := T1.out.size
    have s2 := b2.size
    have ec := E3.out.cells
    have HW := hide T3.out.was
    clear b2 rz h0 h1 hl CT T1
    go_wp2_with (first | ((with_reducible refine ld31 (.tmp 1) w.heap.size ?_ s ?_ ?_); (exact rfl); (exact T3.out.box)))
    refine CW.out.mono ?_
    rintro e u4 ⟨s', rfl, S4, K4, b4⟩
    have TT := hide (tn_first T3.out Z3.out (by omega) E3.out S4 K4 b4 (by simp; omega))
    have B4 : Hid (SBox ((u4.alloc (.cells zeros16 31)).setRow u4.heap.size s'.cs) w.heap.size s) := hide (((T3.out.step b4).box.alloc (.cells zeros16 31)).far (by have := (T3.out.step b4).box.lt; omega) _)
    clear S4 K4 b4 CW Z3 E3 ec T2 T3
    cases ok with
    | false =>
      have ET : Hid (tT = X.T) := by show _ = _; rw [← HT.out]; exact turn_not HB.out
      have EX : Hid (trX true q X = X.setEra tT X.Z) := by show _ = _; rw [trX_not HB.out, ET.out]; rfl
      have ZT := hide TT.out.tell
      clear HOT B4 ET HT HO
      go_wp2_with (first | ((with_reducible refine st31 (.tmp 6) (.tmp 21) u4.heap.size ?_ s' ?_ noSh ?_ ?_); (exact rfl); (exact rfl); (exact heap_alloc_new _ _)) | ((with_reducible refine ld31 (.tmp 6) u4.heap.size ?_ s' ?_ ?_); (exact rfl); (exact TT.out.own)) | ((with_reducible refine st31 (.tmp 2) (.tmp 24) (w.heap.size + 1) ?_ s' ?_ noSh ?_ ?_); (exact rfl); (exact rfl); (exact TT.out.res)))
      exact bodyPost_ret (Era.results_row_one rfl _ _ (w.heap.size + 1) 31 _ (0, 0) _ rfl ZT.out.1 Try.underlying31 rfl (cs_info _)) rfl ⟨s', by rw [EB.out, HB.out]; rfl, by rw [EX.out]; exact ZT.out.2.1, ZT.out.2.2⟩
    | true =>
      have ET : Hid (tT = X.T + 1) := by show _ = _; rw [← HT.out]; exact turn_yes HB.out
      have EX : Hid (trX true q X = recX (X.setEra tT X.Z) (X.T - 1) 3) := by show _ = _; rw [trX_yes HB.out, ET.out]
      have HOK : Hid (Era.Ok tT X.Z) := by show Era.Ok _ _; rw [ET.out]; exact HOT.out rfl
      have ES : Hid (Era.safeV true tT = X.T - 1) := by show _ = _; rw [ET.out]; exact safe_is X.T
      clear HOT HT ET
      go_wp2_with (first | ((with_reducible refine st31 (.tmp 6) (.tmp 21) u4.heap.size ?_ s' ?_ noSh ?_ ?_); (exact rfl); (exact rfl); (exact heap_alloc_new _ _)) | ((with_reducible refine ld27 (.tmp 25) w.heap.size ?_ s ?_ ?_); (exact rfl); (exact B4.out)))
      generalize u4.heap.size = h at TT
      go_loopw [27] (fun i wr => ∃ (k : Nat) (p : Sh), k ≤ 3 ∧ i = .int .i64 k ∧ Hid (Tn w wr s (recX (X.setEra tT X.Z) (X.T - 1) k) p h u2.heap.size tT A n c X.Z)) (fun i _ => 3 - (intOf i).toNat)
      case atStart => exact ⟨0, s', by omega, rfl, TT⟩
      case round =>
        obtain ⟨k, p, hk, rfl, TR⟩ := hrel
        clear TT B4
        by_cases hlt : k < 3
        · have hi := ps_at s k hlt
          have hi0 : (0 : Int) ≤ (k : Int) := by omega
          have hi1 : (k : Int) < 3 := by omega
          have TA := hide (TR.out.alloc (.cells (s.pl k).cs 26))
          have TD := hide TA.out.drew
          have CS : Hid (Calls Try.prog 61 #[Era.V2 tT A n c] (wr.alloc (.cells (s.pl k).cs 26)).drew (Drew (.int .i64 (X.T - 1)) (wr.alloc (.cells (s.pl k).cs 26)).drew)) := by
            have h := Era.safe_any tT A n c _ X.Z true _ TD.out.rz (Nat.le_refl _) (Era.yes_of HOK.out)
            rw [ES.out] at h
            exact h
          have CR : Hid (∀ uS, Hid (Tn w uS s (recX (X.setEra tT X.Z) (X.T - 1) k) p h u2.heap.size tT A n c X.Z) → Calls Try.prog 60 #[(s.pl k).val, .int .i64 (X.T - 1)] uS (Pool.Tell2 uS (Pool.recQ true (X.pl k) (X.T - 1)) (Pool.recN true (X.pl k) (X.T - 1)))) :=
            fun uS T => Pool.reclaim_any (s.pl k) (X.pl k) w.heap.size true (X.T - 1) uS ((HW.out.p k hlt).below T.out.bel (Nat.le_refl _)) T.out.bel.size (small_of (HW.out.p k hlt) (HF.out.p k hlt)) (Pool.yes_may (HO.out.1 k hlt))
          have PB := hide (Pool.PBox.new wr (s.pl k).cs)
          have PD : Hid (Pool.PBox (wr.alloc (.cells (s.pl k).cs 26)).drew wr.heap.size (s.pl k).cs) := PB.out
          have EN : Hid ((recX (X.setEra tT X.Z) (X.T - 1) k).setPl k (Pool.recQ true (X.pl k) (X.T - 1)) = recX (X.setEra tT X.Z) (X.T - 1) (k + 1)) := by
            have h := recX_next (X.setEra tT X.Z) (X.T - 1) hlt
            rw [setERA_pl] at h
            exact h
          obtain ⟨q0, q1, q2, q3⟩ := cells4 PB.out
          have e0 := TA.out.era.cells
          have hlo := TR.out.own.lt
          have hbd := TR.out.bel.size
          have hre := TR.out.res.lt
          have hVD : (wr.alloc (.cells (s.pl k).cs 26)).drew.heap.size = wr.heap.size + 1 := by show (wr.heap.push _).size = _; simp
          clear HOK ES
          go_wp2_with fail
          go_region_with (first | (go_at_call 61; refine CS.out.mono ?_; rintro e uS ⟨rfl, bS⟩; have TS := hide (TD.out.step bS); have PS := hide (PD.out.step bS); obtain ⟨r0, r1, r2, r3⟩ := cells4 PS.out; have hS := bS.size) | (go_at_call 60; refine (CR.out _ TS).mono ?_; rintro e uR ⟨p', rfl, tR, bR⟩; have TT := hide (TS.out.step bR); obtain ⟨v0, v1, v2, v3, y0, f0, y1, f1, y2, f2, y3, f3⟩ := pool_room TT.out.own hlt))
          all_goals
            have FN := hide (TT.out.put hlt tR (by omega) (by omega))
            rw [EN.out] at FN
            clear TT TS TD TA tR bR bS PS PD PB CS CR EN q0 q1 q2 q3 r0 r1 r2 r3 y0 f0 y1 f1 y2 f2 y3 f3 e0 hi TR
            go_wp2
            go_roundw
            case rel => exact ⟨k + 1, _, by omega, by go_num, FN⟩
            case measure => simp [intOf]; omega
        · obtain rfl : k = 3 := by omega
          have ZT := hide TR.out.tell
          go_wp2_with (first | ((with_reducible refine ld31 (.tmp 6) h ?_ p ?_ ?_); (exact rfl); (exact TR.out.own)) | ((with_reducible refine st31 (.tmp 2) (.tmp 42) (w.heap.size + 1) ?_ p ?_ noSh ?_ ?_); (exact rfl); (exact rfl); (exact TR.out.res)))
          exact bodyPost_ret (Era.results_row_one rfl _ _ (w.heap.size + 1) 31 _ (0, 0) _ rfl ZT.out.1 Try.underlying31 rfl (cs_info _)) rfl ⟨p, by rw [EB.out, HB.out]; rfl, by rw [EX.out]; exact ZT.out.2.1, ZT.out.2.2⟩

end Go.Proofs.Ythficfmakbblkaa

/- What Turn tells, the document's. -/
namespace Go.Proofs.Ythficfmakbblkaa
open Go.RowKit
open Pool (Pl PL MayBe noP noPl Drew Told4 Row)
set_option linter.unusedVariables false
set_option maxRecDepth 100000

theorem rtn_first {w u2 : World} {s : Sh} {X : SL} {A : Option Addr} {n c g B : Nat} {t : Int} {Z : List Int} (T : Tw w u2 s X) (R : Era.Row u2 B A n c Z) (hB : w.heap.size + 2 ≤ B) (E : Era.EBox u2 g (Era.C2 t A n c)) (hg : g ≠ w.heap.size) (hg2 : g ≠ w.heap.size + 1) :
    Tn w ((u2.setCell ⟨w.heap.size, 14, none⟩ (.int .i64 t)).setCell ⟨w.heap.size, 15, none⟩ (.slice A n c)) s (X.setEra t Z) (s.setEra t ⟨A, n, c⟩) w.heap.size g t A n c Z := by
  have hz : ∀ b, InA A n b → w.heap.size + 2 ≤ b := fun b hb => by have := inA_row R hb; omega
  obtain ⟨x1, x2, x3, x4, x5⟩ := T.setEra (t := t) R.reads hz
  refine ⟨x5, x2, x1, x3, fun b hb => ?_, (E.other hg.symm _).other hg.symm _, ?_, fun b hb => by have := hz b hb; omega, Nat.le_refl _, by omega, hg, fun b hb => T.was.lt hb⟩
  · rcases x4 b hb with x | x
    · exact .inl ⟨x, by omega⟩
    · exact .inr x
  · have h : Era.Reads ((u2.setCell ⟨w.heap.size, 14, none⟩ (.int .i64 t)).setCell ⟨w.heap.size, 15, none⟩ (.slice A n c)) u2.heap.size A n c Z := ⟨nums_same R.reads.1 (fun b i hb => by
      have hne : b ≠ w.heap.size := by have := hz b hb; omega
      simp only [World.cell?]
      rw [heap_setCell_other _ _ b _ hne, heap_setCell_other _ _ b _ hne]), R.2⟩
    simpa using h

set_option maxHeartbeats 8000000 in
theorem rturn_any (s : Sh) (X : SL) (b q : Bool) (w : World) (S : Sees w s X) (F : Few X) (hb : Hid (b = true ↔ OkS X)) (hq : Hid (q = true ↔ Era.Step X.T X.Z)) :
    Calls Try.prog 25 #[s.val] w (TellS w s (trX b q X) (fun v => .tuple #[v, .bool (trB b q X)])) := by
  have T0 := hide (Tw.first S)
  have C0 := hide (rcheck_any s X b _ T0.out.sees F hb)
  have HF := hide F
  clear S F
  go_enter Try.func25, Try.ntmps25
  go_wp2_with ((with_reducible refine ld31 (.tmp 1) w.heap.size ?_ s ?_ ?_); (exact rfl); (exact T0.out.box))
  refine C0.out.mono ?_
  rintro e u1 ⟨rfl, b1⟩
  have T1 := hide (T0.out.step b1)
  clear b1 C0 T0
  cases b with
  | false =>
    have Z := hide T1.out.zero
    clear hb hq
    go_wp2_with (first | ((with_reducible refine st31 (.tmp 2) (.tmp 10) (w.heap.size + 1) ?_ noSh ?_ noSh ?_ ?_); (exact rfl); (exact rfl); (exact T1.out.res)))
    exact bodyPost_ret (Era.results_row_one rfl _ _ (w.heap.size + 1) 31 _ (0, 0) _ rfl Z.out.1 Try.underlying31 rfl (cs_info _)) rfl ⟨noSh, rfl, Z.out.2.1, Z.out.2.2⟩
  | true =>
    have HO := hide (hb.out.1 rfl)
    obtain ⟨h0, h1⟩ := T1.out.box.era
    rw [T1.out.sees.t] at h0
    have hl := T1.out.box.lt
    have CT := hide (Era.rturn_any X.T s.z.A s.z.n s.z.c u1.heap.size X.Z true q u1 T1.out.sees.z (Nat.le_refl _) (Era.yes_of HO.out.2) hq)
    have HOT : Hid (Era.turnB true q X.T = true → Era.Ok (X.T + 1) X.Z) := fun h => ok_turn HO.out.2 hq.out h
    have EZ : Hid (Era.turnZ true X.Z = X.Z) := rfl
    have EB : Hid (trB true q X = Era.turnB true q X.T) := rfl
    rw [EZ.out] at CT
    clear hb hq EZ
    generalize hB : Era.turnB true q X.T = ok at CT HOT
    have HB := hide hB
    clear hB
    go_wp2_with fail
    refine CT.out.mono ?_
    rintro e u2 ⟨A, n, c, rfl, rz, b2⟩
    generalize htT : Era.turnT true q X.T = tT
    have HT := hide htT
    clear htT
    have T2 := hide (T1.out.step b2)
    have T3 := hide (T2.out.alloc (.cells (Era.C2 tT A n c) 29))
    have Z3 : Hid (Era.Row (u2.alloc (.cells (Era.C2 tT A n c) 29)) u1.heap.size A n c X.Z) := hide (rz.alloc _)
    have E3 := hide (Era.EBox.new u2 (Era.C2 tT A n c))
    have s1 := T1.out.size
    have s2 := b2.size
    have ec := E3.out.cells
    have TT := hide (rtn_first T3.out Z3.out (by omega) E3.out (by omega) (by omega))
    obtain ⟨y4, y5⟩ := T3.out.box.era
    have f4 := T3.out.box.frozen 14
    have f5 := T3.out.box.frozen 15
    have hl3 := T3.out.box.lt
    clear b2 rz h0 h1 hl CT T1 T2 Z3 E3 T3
    cases ok with
    | false =>
      have ET : Hid (tT = X.T) := by show _ = _; rw [← HT.out]; exact turn_not HB.out
      have EX : Hid (trX true q X = X.setEra tT X.Z) := by show _ = _; rw [trX_not HB.out, ET.out]; rfl
      clear HOT ET HT HO
      go_wp2_with fail
      go_loopw [19] (fun i wr => ∃ (k : Nat), k ≤ 3 ∧ i = .int .i64 k ∧ Hid (Tn w wr s (X.setEra tT X.Z) (s.setEra tT ⟨A, n, c⟩) w.heap.size u2.heap.size tT A n c X.Z)) (fun i _ => 3 - (intOf i).toNat)
      case atStart => exact ⟨0, by omega, rfl, TT⟩
      case round =>
        obtain ⟨k, hk, rfl, TR⟩ := hrel
        clear TT y4 y5 f4 f5 hl3 ec
        by_cases hlt : k < 3
        · go_wp2
          go_roundw
          case rel => exact ⟨k + 1, by omega, by go_num, TR⟩
          case measure => simp [intOf]; omega
        · have ZT := hide TR.out.tell
          go_wp2_with (first | ((with_reducible refine ld31 (.tmp 1) w.heap.size ?_ (s.setEra tT ⟨A, n, c⟩) ?_ ?_); (exact rfl); (exact TR.out.own)) | ((with_reducible refine st31 (.tmp 2) (.tmp 37) (w.heap.size + 1) ?_ (s.setEra tT ⟨A, n, c⟩) ?_ noSh ?_ ?_); (exact rfl); (exact rfl); (exact TR.out.res)))
          exact bodyPost_ret (Era.results_row_one rfl _ _ (w.heap.size + 1) 31 _ (0, 0) _ rfl ZT.out.1 Try.underlying31 rfl (cs_info _)) rfl ⟨_, by rw [EB.out, HB.out]; rfl, by rw [EX.out]; exact ZT.out.2.1, ZT.out.2.2⟩
    | true =>
      have ET : Hid (tT = X.T + 1) := by show _ = _; rw [← HT.out]; exact turn_yes HB.out
      have EX : Hid (trX true q X = recX (X.setEra tT X.Z) (X.T - 1) 3) := by show _ = _; rw [trX_yes HB.out, ET.out]
      have HOK : Hid (Era.Ok tT X.Z) := by show Era.Ok _ _; rw [ET.out]; exact HOT.out rfl
      have ES : Hid (Era.safeV true tT = X.T - 1) := by show _ = _; rw [ET.out]; exact safe_is X.T
      clear HOT HT ET
      go_wp2_with fail
      go_loopw [19] (fun i wr => ∃ (k : Nat) (p : Sh), k ≤ 3 ∧ i = .int .i64 k ∧ Hid (Tn w wr s (recX (X.setEra tT X.Z) (X.T - 1) k) p w.heap.size u2.heap.size tT A n c X.Z)) (fun i _ => 3 - (intOf i).toNat)
      case atStart => exact ⟨0, _, by omega, rfl, TT⟩
      case round =>
        obtain ⟨k, p, hk, rfl, TR⟩ := hrel
        clear TT y4 y5 f4 f5 hl3 ec
        by_cases hlt : k < 3
        · have hi0 : (0 : Int) ≤ (k : Int) := by omega
          have hi1 : (k : Int) < 3 := by omega
          have TD := hide TR.out.drew
          have CS : Hid (Calls Try.prog 64 #[Era.V2 tT A n c] wr.drew (Drew (.int .i64 (X.T - 1)) wr.drew)) := by
            have h := Era.rsafe_any tT A n c _ X.Z true _ TD.out.rz (Nat.le_refl _) (Era.yes_of HOK.out)
            rw [ES.out] at h
            exact h
          have EP : Hid ((recX (X.setEra tT X.Z) (X.T - 1) k).pl k = X.pl k) := by show _ = _; rw [recX_pl _ _ hlt, if_neg (Nat.lt_irrefl _), setERA_pl]
          have CR : Hid (∀ uS, Hid (Tn w uS s (recX (X.setEra tT X.Z) (X.T - 1) k) p w.heap.size u2.heap.size tT A n c X.Z) → Calls Try.prog 63 #[(p.pl k).val, .int .i64 (X.T - 1)] uS (Pool.Tell2 uS (Pool.recQ true (X.pl k) (X.T - 1)) (Pool.recN true (X.pl k) (X.T - 1)))) :=
            fun uS T => by
              have r := T.out.sees.p k hlt
              rw [EP.out] at r
              exact Pool.rreclaim_any (p.pl k) (X.pl k) uS.heap.size true (X.T - 1) uS r (Nat.le_refl _) (small_of r (HF.out.p k hlt)) (Pool.yes_may (HO.out.1 k hlt))
          have EN : Hid ((recX (X.setEra tT X.Z) (X.T - 1) k).setPl k (Pool.recQ true (X.pl k) (X.T - 1)) = recX (X.setEra tT X.Z) (X.T - 1) (k + 1)) := by
            have h := recX_next (X.setEra tT X.Z) (X.T - 1) hlt
            rw [setERA_pl] at h
            exact h
          obtain ⟨q0, q1, q2, q3⟩ := TR.out.own.pool hlt
          have e0 := TR.out.era.cells
          have hlo := TR.out.own.lt
          have hre := TR.out.res.lt
          have hVD : wr.drew.heap.size = wr.heap.size := rfl
          clear HOK ES EP
          go_wp2_with fail
          go_region_with (first | (go_at_call 64; refine CS.out.mono ?_; rintro e uS ⟨rfl, bS⟩; have TS := hide (TD.out.step bS); obtain ⟨r0, r1, r2, r3⟩ := TS.out.own.pool hlt; have hS := bS.size) | (go_at_call 63; refine (CR.out _ TS).mono ?_; rintro e uR ⟨p', rfl, tR, bR⟩; have TT := hide (TS.out.step bR); obtain ⟨v0, v1, v2, v3, y0, f0, y1, f1, y2, f2, y3, f3⟩ := pool_room TT.out.own hlt))
          all_goals
            have FN := hide (TT.out.put hlt tR (by omega) (by omega))
            rw [EN.out] at FN
            clear TT TS TD tR bR bS CS CR EN q0 q1 q2 q3 r0 r1 r2 r3 y0 f0 y1 f1 y2 f2 y3 f3 e0 TR
            go_wp2
            go_roundw
            case rel => exact ⟨k + 1, _, by omega, by go_num, FN⟩
            case measure => simp [intOf]; omega
        · obtain rfl : k = 3 := by omega
          have ZT := hide TR.out.tell
          go_wp2_with (first | ((with_reducible refine ld31 (.tmp 1) w.heap.size ?_ p ?_ ?_); (exact rfl); (exact TR.out.own)) | ((with_reducible refine st31 (.tmp 2) (.tmp 37) (w.heap.size + 1) ?_ p ?_ noSh ?_ ?_); (exact rfl); (exact rfl); (exact TR.out.res)))
          exact bodyPost_ret (Era.results_row_one rfl _ _ (w.heap.size + 1) 31 _ (0, 0) _ rfl ZT.out.1 Try.underlying31 rfl (cs_info _)) rfl ⟨p, by rw [EB.out, HB.out]; rfl, by rw [EX.out]; exact ZT.out.2.1, ZT.out.2.2⟩

end Go.Proofs.Ythficfmakbblkaa

/- What End tells, the code's and the document's. -/
namespace Go.Proofs.Ythficfmakbblkaa
open Go.RowKit
open Pool (Pl PL MayBe noP noPl Drew Told4 Row)
set_option linter.unusedVariables false
set_option maxRecDepth 100000

/-- What End tells. -/
def enE (b : Bool) (X : SL) (t : Int) : Int := Era.unpE b X.Z t
def enX (b q : Bool) (X : SL) (t : Int) : SL := if enE b X t = 0 then trX true q (X.setEra (Era.unpT b X.T X.Z t) (Era.unpZ b X.Z t)) else noS
theorem end_ok {X : SL} {t : Int} (O : OkS X) (F : Few X) (h : enE true X t = 0) : Era.unpT true X.T X.Z t = X.T ∧ OkS (X.setEra (Era.unpT true X.T X.Z t) (Era.unpZ true X.Z t)) ∧ Few (X.setEra (Era.unpT true X.T X.Z t) (Era.unpZ true X.Z t)) := by
  unfold enE at h
  have e1 : Era.unpT true X.T X.Z t = X.T := by unfold Era.unpT; rw [if_pos h]
  have e2 : Era.unpZ true X.Z t = X.Z.set t.toNat (-1) := by unfold Era.unpZ; rw [if_pos h]
  rw [e1, e2]
  exact ⟨rfl, ⟨fun k hk => by rw [setERA_pl]; exact O.1 k hk, Era.ok_set O.2 _ (.inl rfl)⟩, F.m, F.l, fun k hk => by rw [setERA_pl]; exact F.p k hk, by show (X.Z.set _ _).length ≤ 200; rw [List.length_set]; exact F.z⟩
theorem end_box {w U u4 : World} {s s1 s2 : Sh} {X X2 : SL} (S : Sees w s X) (hz : w.heap.size + 2 ≤ U.heap.size) (B1 : SBox U w.heap.size s1) (R1 : SBox U (w.heap.size + 1) noSh) (bU : Below w.heap.size w U) (K1 : ∀ b, s1.Has b → w.heap.size + 2 ≤ b ∨ s.Has b) (S4 : Sees u4 s2 X2) (K4 : Kin U s1 s2) (b4 : Below U.heap.size U u4) :
    SBox u4 w.heap.size s1 ∧ SBox (u4.setRow w.heap.size s2.cs) w.heap.size s2 ∧ SBox (u4.setRow w.heap.size s2.cs) (w.heap.size + 1) noSh ∧ SBox ((u4.setRow w.heap.size s2.cs).setRow (w.heap.size + 1) s2.cs) (w.heap.size + 1) s2 ∧ Sees ((u4.setRow w.heap.size s2.cs).setRow (w.heap.size + 1) s2.cs) s2 X2 ∧ Kin w s s2 ∧ Below w.heap.size w ((u4.setRow w.heap.size s2.cs).setRow (w.heap.size + 1) s2.cs) := by
  have K : ∀ b, s2.Has b → w.heap.size + 2 ≤ b ∨ s.Has b := fun b hb => by
    rcases K4 b hb with x | x
    · exact .inl (by omega)
    · exact K1 b x
  have hn : ¬ s2.Has w.heap.size := fun hb => by
    rcases K _ hb with x | x
    · omega
    · have := S.lt x; omega
  have r := (R1.step b4).far (k := w.heap.size) (by omega) s2.cs
  obtain ⟨x1, x2, x3, x4⟩ := tell_own (below_setRow (Pool.next_call bU (by have := bU.size; omega) b4) (Nat.le_refl _) s2.cs) r S (S4.row hn s2.cs) K
  exact ⟨B1.step b4, (B1.step b4).put _, r, x1, x2, x3, x4⟩

set_option maxHeartbeats 4000000 in
theorem end_any (s : Sh) (X : SL) (b q : Bool) (t : Int) (w : World) (S : Sees w s X) (F : Few X) (hb : Hid (b = true ↔ OkS X)) (hq : Hid (q = true ↔ Era.Step X.T (Era.unpZ b X.Z t))) :
    Calls Try.prog 26 #[s.val, .int .i64 t] w (TellS w s (enX b q X t) (fun v => .tuple #[v, .int .i64 (enE b X t)])) := by
  have T0 := hide (Tw.first S)
  have C0 := hide (check_any s X b _ T0.out.sees F hb)
  have HF := hide F
  clear S F
  go_enter Try.func26, Try.ntmps26
  go_wp2_with ((with_reducible refine ld31 (.tmp 2) w.heap.size ?_ s ?_ ?_); (exact rfl); (exact T0.out.box))
  refine C0.out.mono ?_
  rintro e u1 ⟨rfl, b1⟩
  have T1 := hide (T0.out.step b1)
  clear b1 C0 T0
  cases b with
  | false =>
    have E : Hid (enE false X t = 1 ∧ enX false q X t = noS) := by
      have e : enE false X t = 1 := Era.unpE_bad (.inl rfl)
      exact ⟨e, by unfold enX; rw [e]; rfl⟩
    have Z := hide T1.out.zero
    clear hb hq
    go_wp2_with (first | ((with_reducible refine st31 (.tmp 4) (.tmp 15) (w.heap.size + 1) ?_ noSh ?_ noSh ?_ ?_); (exact rfl); (exact rfl); (exact T1.out.res)))
    exact bodyPost_ret (Era.results_row_one rfl _ _ (w.heap.size + 1) 31 _ (0, 0) _ rfl Z.out.1 Try.underlying31 rfl (cs_info _)) rfl ⟨noSh, by rw [E.out.1]; rfl, by rw [E.out.2]; exact Z.out.2.1, Z.out.2.2⟩
  | true =>
    have HO := hide (hb.out.1 rfl)
    obtain ⟨h0, h1⟩ := T1.out.box.era
    rw [T1.out.sees.t] at h0
    have hl := T1.out.box.lt
    have CT := hide (Era.unpin_any X.T s.z.A s.z.n s.z.c u1.heap.size X.Z true t u1 T1.out.sees.z (Nat.le_refl _) (Era.yes_of HO.out.2))
    have EX : Hid (enX true q X t = if enE true X t = 0 then trX true q (X.setEra (Era.unpT true X.T X.Z t) (Era.unpZ true X.Z t)) else noS) := rfl
    have EE : Hid (Era.unpE true X.Z t = enE true X t) := rfl
    have HT : Hid (enE true X t = 0 → Era.unpT true X.T X.Z t = X.T ∧ OkS (X.setEra (Era.unpT true X.T X.Z t) (Era.unpZ true X.Z t)) ∧ Few (X.setEra (Era.unpT true X.T X.Z t) (Era.unpZ true X.Z t))) := fun h => end_ok HO.out HF.out h
    rw [EE.out] at CT
    clear hb HO EE
    generalize hE : enE true X t = eT at CT EX HT
    have E0 := hide hE
    clear hE
    generalize Era.unpT true X.T X.Z t = tT at CT EX HT
    generalize Era.unpZ true X.Z t = zT at CT EX HT hq
    go_wp2_with fail
    refine CT.out.mono ?_
    rintro e u2 ⟨A, n, c, rfl, rz, b2⟩
    have T2 := hide (T1.out.step b2)
    have T3 := hide (T2.out.alloc (.cells (Era.C2 tT A n c) 29))
    have R3 : Hid (Era.Reads (u2.alloc (.cells (Era.C2 tT A n c) 29)) (u2.alloc (.cells (Era.C2 tT A n c) 29)).heap.size A n c zT) := hide (rz.alloc _).reads
    have HQ : Hid (∀ d, InA A n d → w.heap.size + 2 ≤ d) := fun d hd => by have := inA_row rz hd; have := T1.out.size; omega
    have Z := hide T3.out.zero
    have E3 := Era.EBox.cells (Era.EBox.new u2 (Era.C2 tT A n c))
    clear b2 rz h0 h1 hl CT T1 T2
    by_cases h : eT = 0
    · subst h
      rw [if_pos rfl] at EX
      obtain ⟨et, HO1, HF1⟩ := HT.out rfl
      subst et
      have G1 := hide HO1
      have G2 := hide HF1
      obtain ⟨y4, y5⟩ := T3.out.box.era
      have f4 := T3.out.box.frozen 14
      have f5 := T3.out.box.frozen 15
      have hl3 := T3.out.box.lt
      have HS := hide (T3.out.setEra (t := X.T) R3.out HQ.out)
      have CU := hide (turn_any (s.setEra X.T ⟨A, n, c⟩) (X.setEra X.T zT) true q _ HS.out.2.2.1 G2.out (Era.yes_of G1.out) hq)
      have HW := hide T3.out.was
      have hz3 := T3.out.size
      clear R3 HQ Z HO1 HF1 hq HT
      go_wp2_with (first | ((with_reducible refine ld31 (.tmp 2) w.heap.size ?_ (s.setEra X.T ⟨A, n, c⟩) ?_ ?_); (exact rfl); (exact HS.out.1)))
      refine CU.out.mono ?_
      rintro e u4 ⟨s2, rfl, S4, K4, b4⟩
      have WT := hide (Wt.first HS.out.2.2.2.2 HS.out.2.1 (by omega) S4 K4 b4)
      have ZT := hide (tell_own WT.out.bel WT.out.res HW.out WT.out.sees fun d hd => by
        rcases WT.out.kin d hd with x | x
        · exact .inl (by omega)
        · exact HS.out.2.2.2.1 d x)
      clear S4 K4 b4 CU HS y4 y5 f4 f5 hl3 E3
      go_wp2_with (first | ((with_reducible refine st31 (.tmp 9) (.tmp 33) u4.heap.size ?_ s2 ?_ noSh ?_ ?_); (exact rfl); (exact rfl); (exact heap_alloc_new _ _)) | ((with_reducible refine ld31 (.tmp 9) u4.heap.size ?_ s2 ?_ ?_); (exact rfl); (exact WT.out.own)) | ((with_reducible refine st31 (.tmp 4) (.tmp 35) (w.heap.size + 1) ?_ s2 ?_ noSh ?_ ?_); (exact rfl); (exact rfl); (exact WT.out.res)))
      exact bodyPost_ret (Era.results_row_one rfl _ _ (w.heap.size + 1) 31 _ (0, 0) _ rfl ZT.out.1 Try.underlying31 rfl (cs_info _)) rfl ⟨s2, by rw [E0.out]; rfl, by rw [EX.out]; exact ZT.out.2.1, ZT.out.2.2⟩
    · rw [if_neg h] at EX
      have hne : (eT != 0) = true := by simpa using h
      clear hq HT
      go_wp2_with (first | ((with_reducible refine st31 (.tmp 4) (.tmp 26) (w.heap.size + 1) ?_ noSh ?_ noSh ?_ ?_); (exact rfl); (exact rfl); (exact T3.out.res)))
      exact bodyPost_ret (Era.results_row_one rfl _ _ (w.heap.size + 1) 31 _ (0, 0) _ rfl Z.out.1 Try.underlying31 rfl (cs_info _)) rfl ⟨noSh, by rw [E0.out]; rfl, by rw [EX.out]; exact Z.out.2.1, Z.out.2.2⟩

set_option maxHeartbeats 4000000 in
theorem rend_any (s : Sh) (X : SL) (b q : Bool) (t : Int) (w : World) (S : Sees w s X) (F : Few X) (hb : Hid (b = true ↔ OkS X)) (hq : Hid (q = true ↔ Era.Step X.T (Era.unpZ b X.Z t))) :
    Calls Try.prog 27 #[s.val, .int .i64 t] w (TellS w s (enX b q X t) (fun v => .tuple #[v, .int .i64 (enE b X t)])) := by
  have T0 := hide (Tw.first S)
  have C0 := hide (rcheck_any s X b _ T0.out.sees F hb)
  have HF := hide F
  clear S F
  go_enter Try.func27, Try.ntmps27
  go_wp2_with ((with_reducible refine ld31 (.tmp 2) w.heap.size ?_ s ?_ ?_); (exact rfl); (exact T0.out.box))
  refine C0.out.mono ?_
  rintro e u1 ⟨rfl, b1⟩
  have T1 := hide (T0.out.step b1)
  clear b1 C0 T0
  cases b with
  | false =>
    have E : Hid (enE false X t = 1 ∧ enX false q X t = noS) := by
      have e : enE false X t = 1 := Era.unpE_bad (.inl rfl)
      exact ⟨e, by unfold enX; rw [e]; rfl⟩
    have Z := hide T1.out.zero
    clear hb hq
    go_wp2_with (first | ((with_reducible refine st31 (.tmp 4) (.tmp 11) (w.heap.size + 1) ?_ noSh ?_ noSh ?_ ?_); (exact rfl); (exact rfl); (exact T1.out.res)))
    exact bodyPost_ret (Era.results_row_one rfl _ _ (w.heap.size + 1) 31 _ (0, 0) _ rfl Z.out.1 Try.underlying31 rfl (cs_info _)) rfl ⟨noSh, by rw [E.out.1]; rfl, by rw [E.out.2]; exact Z.out.2.1, Z.out.2.2⟩
  | true =>
    have HO := hide (hb.out.1 rfl)
    obtain ⟨h0, h1⟩ := T1.out.box.era
    rw [T1.out.sees.t] at h0
    have hl := T1.out.box.lt
    have CT := hide (Era.runpin_any X.T s.z.A s.z.n s.z.c u1.heap.size X.Z true t u1 T1.out.sees.z (Nat.le_refl _) (Era.yes_of HO.out.2))
    have EX : Hid (enX true q X t = if enE true X t = 0 then trX true q (X.setEra (Era.unpT true X.T X.Z t) (Era.unpZ true X.Z t)) else noS) := rfl
    have EE : Hid (Era.unpE true X.Z t = enE true X t) := rfl
    have HT : Hid (enE true X t = 0 → Era.unpT true X.T X.Z t = X.T ∧ OkS (X.setEra (Era.unpT true X.T X.Z t) (Era.unpZ true X.Z t)) ∧ Few (X.setEra (Era.unpT true X.T X.Z t) (Era.unpZ true X.Z t))) := fun h => end_ok HO.out HF.out h
    rw [EE.out] at CT
    clear hb HO EE
    generalize hE : enE true X t = eT at CT EX HT
    have E0 := hide hE
    clear hE
    generalize Era.unpT true X.T X.Z t = tT at CT EX HT
    generalize Era.unpZ true X.Z t = zT at CT EX HT hq
    go_wp2_with fail
    refine CT.out.mono ?_
    rintro e u2 ⟨A, n, c, rfl, rz, b2⟩
    have T2 := hide (T1.out.step b2)
    have T3 := hide (T2.out.alloc (.cells (Era.C2 tT A n c) 29))
    have R3 : Hid (Era.Reads (u2.alloc (.cells (Era.C2 tT A n c) 29)) (u2.alloc (.cells (Era.C2 tT A n c) 29)).heap.size A n c zT) := hide (rz.alloc _).reads
    have HQ : Hid (∀ d, InA A n d → w.heap.size + 2 ≤ d) := fun d hd => by have := inA_row rz hd; have := T1.out.size; omega
    have Z := hide T3.out.zero
    have E3 := Era.EBox.cells (Era.EBox.new u2 (Era.C2 tT A n c))
    clear b2 rz h0 h1 hl CT T1 T2
    by_cases h : eT = 0
    · subst h
      rw [if_pos rfl] at EX
      obtain ⟨et, HO1, HF1⟩ := HT.out rfl
      subst et
      have G1 := hide HO1
      have G2 := hide HF1
      obtain ⟨y4, y5⟩ := T3.out.box.era
      have f4 := T3.out.box.frozen 14
      have f5 := T3.out.box.frozen 15
      have hl3 := T3.out.box.lt
      have HS := hide (T3.out.setEra (t := X.T) R3.out HQ.out)
      have CU := hide (rturn_any (s.setEra X.T ⟨A, n, c⟩) (X.setEra X.T zT) true q _ HS.out.2.2.1 G2.out (Era.yes_of G1.out) hq)
      have HW := hide T3.out.was
      have hz3 := T3.out.size
      clear R3 HQ Z HO1 HF1 hq HT
      go_wp2_with (first | ((with_reducible refine ld31 (.tmp 2) w.heap.size ?_ (s.setEra X.T ⟨A, n, c⟩) ?_ ?_); (exact rfl); (exact HS.out.1)))
      refine CU.out.mono ?_
      rintro e u4 ⟨s2, rfl, S4, K4, b4⟩
      have NE := hide (end_box HW.out (by simpa using hz3) HS.out.1 HS.out.2.1 HS.out.2.2.2.2 HS.out.2.2.2.1 S4 K4 b4)
      clear S4 K4 b4 CU HS y4 y5 f4 f5 hl3 E3
      go_wp2_with (first | ((with_reducible refine st31 (.tmp 2) (.tmp 28) w.heap.size ?_ s2 ?_ (s.setEra X.T ⟨A, n, c⟩) ?_ ?_); (exact rfl); (exact rfl); (exact NE.out.1)) | ((with_reducible refine ld31 (.tmp 2) w.heap.size ?_ s2 ?_ ?_); (exact rfl); (exact NE.out.2.1)) | ((with_reducible refine st31 (.tmp 4) (.tmp 30) (w.heap.size + 1) ?_ s2 ?_ noSh ?_ ?_); (exact rfl); (exact rfl); (exact NE.out.2.2.1)))
      exact bodyPost_ret (Era.results_row_one rfl _ _ (w.heap.size + 1) 31 _ (0, 0) _ rfl NE.out.2.2.2.1 Try.underlying31 rfl (cs_info _)) rfl ⟨s2, by rw [E0.out]; rfl, by rw [EX.out]; exact NE.out.2.2.2.2.1, NE.out.2.2.2.2.2⟩
    · rw [if_neg h] at EX
      have hne : (eT != 0) = true := by simpa using h
      clear hq HT
      go_wp2_with (first | ((with_reducible refine st31 (.tmp 4) (.tmp 21) (w.heap.size + 1) ?_ noSh ?_ noSh ?_ ?_); (exact rfl); (exact rfl); (exact T3.out.res)))
      exact bodyPost_ret (Era.results_row_one rfl _ _ (w.heap.size + 1) 31 _ (0, 0) _ rfl Z.out.1 Try.underlying31 rfl (cs_info _)) rfl ⟨noSh, by rw [E0.out]; rfl, by rw [EX.out]; exact Z.out.2.1, Z.out.2.2⟩

end Go.Proofs.Ythficfmakbblkaa

/- What Gen tells, the code's and the document's. -/
namespace Go.Proofs.Ythficfmakbblkaa
open Go.RowKit
open Pool (Pl PL MayBe noP noPl Drew Told4 Row)
set_option linter.unusedVariables false
set_option maxRecDepth 100000

theorem gn_bad {b : Bool} {X : SL} {which r : Int} (h : kndE b which = 1) : gnE b X which r = 1 ∧ gnG b X which r = 0 ∧ gnS b X which r = 0 := by
  have e : gnE b X which r = 1 := by unfold gnE; rw [if_neg (by rw [h]; intro x; exact absurd x.1 (by decide))]
  exact ⟨e, by unfold gnG; rw [e]; rfl, by unfold gnS; rw [e]; rfl⟩
theorem gn_ref {b : Bool} {X : SL} {which r : Int} (h : r < 1 ∨ 1125899906842624 < r) : gnE b X which r = 1 ∧ gnG b X which r = 0 ∧ gnS b X which r = 0 := by
  have e : gnE b X which r = 1 := by unfold gnE; rw [if_neg (by intro x; have := x.2.1; have := x.2.2.1; omega)]
  exact ⟨e, by unfold gnG; rw [e]; rfl, by unfold gnS; rw [e]; rfl⟩
theorem gn_far {b : Bool} {X : SL} {which r : Int} {k Y : Nat} (ha : at_ which = k) (hY : (r - 1) % 1024 = (Y : Int)) (h : (X.pl k).G.length ≤ Y) : gnE b X which r = 1 ∧ gnG b X which r = 0 ∧ gnS b X which r = 0 := by
  have e : gnE b X which r = 1 := by unfold gnE; rw [ha, if_neg (by intro x; have := x.2.2.2; omega)]
  exact ⟨e, by unfold gnG; rw [e]; rfl, by unfold gnS; rw [e]; rfl⟩
theorem gn_good {b : Bool} {X : SL} {which r : Int} {k Y : Nat} (hk : kndE b which = 0) (ha : at_ which = k) (h1 : 1 ≤ r) (h2 : r ≤ 1125899906842624) (hY : (r - 1) % 1024 = (Y : Int)) (h : Y < (X.pl k).G.length) :
    gnE b X which r = 0 ∧ gnG b X which r = (X.pl k).G.getD Y 0 ∧ gnS b X which r = (X.pl k).S.getD Y 0 := by
  have e : gnE b X which r = 0 := by unfold gnE; rw [ha, if_pos ⟨hk, h1, h2, by omega⟩]
  refine ⟨e, ?_, ?_⟩
  · unfold gnG; rw [e, if_pos rfl, ha, hY]; rfl
  · unfold gnS; rw [e, if_pos rfl, ha, hY]; rfl

set_option maxHeartbeats 4000000 in
theorem gen_any (s : Sh) (X : SL) (b : Bool) (which r : Int) (w : World) (S : Sees w s X) (F : Few X) (hb : Hid (b = true ↔ OkS X)) :
    Calls Try.prog 20 #[s.val, .int .i64 which, .int .i64 r] w (Drew (.tuple #[.int .i64 (gnG b X which r), .int .i64 (gnS b X which r), .int .i64 (gnE b X which r)]) w) := by
  have X0 := hide (SBox.new w s)
  have B0 := hide ((Below.refl w.heap.size w).alloc (Nat.le_refl _) (.cells s.cs 31))
  have C0 := hide (checkKind_any s X b which (w.alloc (.cells s.cs 31)) (S.alloc _) F hb)
  have HS := hide S
  clear S
  go_enter Try.func20, Try.ntmps20
  go_wp2_with ((with_reducible refine ld31 (.tmp 3) w.heap.size ?_ s ?_ ?_); (exact rfl); (exact X0.out))
  refine C0.out.mono ?_
  rintro e u1 ⟨rfl, b1⟩
  have X1 := hide (X0.out.step b1)
  have B1 := hide (Pool.next_call B0.out (Nat.le_refl _) b1)
  clear b1 C0 X0 B0
  rcases kind_cases b which with hk | ⟨hk, hbt, k, hk3, hw, hat⟩
  · have E := hide (gn_bad (X := X) (r := r) hk)
    rw [hk]
    clear hk hb
    go_wp2
    go_ret3
    exact ⟨by rw [E.out.1, E.out.2.1, E.out.2.2]; rfl, B1.out⟩
  by_cases hr : r < 1 ∨ 1125899906842624 < r
  · have E := hide (gn_ref (b := b) (X := X) (which := which) hr)
    have CU : Hid (∀ u, Calls Try.prog 28 #[.int .i64 r] u _) := fun u => Pool.unpack_no r u hr
    rw [hk]
    clear hk hb hr
    go_wp2_with (go_at_call 28; refine (CU.out _).mono ?_; rintro e w' ⟨rfl, rfl⟩)
    go_ret3
    exact ⟨by rw [E.out.1, E.out.2.1, E.out.2.2]; rfl, B1.out⟩
  · have r1 : 1 ≤ r := by omega
    have r2 : r ≤ 1125899906842624 := by omega
    obtain ⟨Y, hY⟩ : ∃ Y : Nat, (r - 1) % 1024 = (Y : Int) := ⟨((r - 1) % 1024).toNat, by omega⟩
    have hY1 : Y ≤ 1023 := by omega
    have CU : Hid (∀ u, Calls Try.prog 28 #[.int .i64 r] u fun e w' => e = .returned (.tuple #[.int .i64 (Y : Int), .int .i64 ((r - 1) / 1024), .int .i64 0]) ∧ u = w') := fun u => Pool.unpack_is r Y _ u r1 r2 hY rfl
    have HPL : Hid (∀ u, Calls Try.prog 49 #[.int .i64 ((k : Int) + 1)] u fun e w' => e = .returned (.int .i64 (k : Int)) ∧ u = w') := fun u => placeOf_any k u hk3
    have RK := hide ((HS.out.p k hk3).below B1.out (Nat.le_refl _))
    have LK := hide (F.p k hk3)
    obtain ⟨h0, h1, h2, h3⟩ := X1.out.pool hk3
    have hl := X1.out.lt
    have hi0 : (0 : Int) ≤ (k : Int) := by omega
    have hi1 : (k : Int) < 3 := by omega
    have lg := RK.out.g.1
    by_cases hf : (X.pl k).G.length ≤ Y
    · have E := hide (gn_far (b := b) (which := which) hat hY hf)
      have hcmp : decide ((s.pl k).n0 ≤ Y) = true := by simp; omega
      have hcmp2 : (s.pl k).n0 ≤ Y := by omega
      rw [hk, hw]
      clear hk hb hw hat hbt hr hY lg hf
      go_wp2_with (first | (go_at_call 28; refine (CU.out _).mono ?_; rintro e w' ⟨rfl, rfl⟩) | (go_at_call 49; refine (HPL.out _).mono ?_; rintro e w' ⟨rfl, rfl⟩))
      go_ret3
      exact ⟨by rw [E.out.1, E.out.2.1, E.out.2.2]; rfl, B1.out.alloc B1.out.size _⟩
    · have E := hide (gn_good (X := X) hk hat r1 r2 hY (Nat.lt_of_not_le hf))
      have hX0 : Y < (s.pl k).n0 := by omega
      have hX1 : Y < (s.pl k).n1 := by
        have h1 := RK.out.s.1
        have h2 := ((hb.out.1 hbt).1 k hk3).2.2.1
        omega
      obtain ⟨b0, o0, e0, hB0, hx0⟩ := RK.out.g.at_ hX0
      obtain ⟨b1, o1, e1, hB1, hx1⟩ := RK.out.s.at_ hX1
      generalize (X.pl k).G.getD Y 0 = vg at E hx0
      generalize (X.pl k).S.getD Y 0 = vs at E hx1
      rw [e0] at h0
      rw [e1] at h1
      have hsz := B1.out.size
      have n0 : b0 < u1.heap.size := by omega
      have n1 : b1 < u1.heap.size := by omega
      have hcmp : decide ((s.pl k).n0 ≤ Y) = false := by simp; omega
      have i0 : (0 : Int) ≤ (Y : Int) := by omega
      have i1 : (Y : Int) < ((s.pl k).n0 : Int) := by omega
      have i2 : (Y : Int) < ((s.pl k).n1 : Int) := by omega
      rw [hk, hw]
      clear hk hb hw hat hbt hr hY lg hf e0 e1 hB0 hB1 HS
      go_wp2_with (first | (go_at_call 28; refine (CU.out _).mono ?_; rintro e w' ⟨rfl, rfl⟩) | (go_at_call 49; refine (HPL.out _).mono ?_; rintro e w' ⟨rfl, rfl⟩))
      go_quiet (fail)
      go_wp2
      go_ret3
      exact ⟨by rw [E.out.1, E.out.2.1, E.out.2.2]; rfl, Pool.Below.drewN (B1.out.alloc B1.out.size _) _⟩

set_option maxHeartbeats 4000000 in
theorem rgen_any (s : Sh) (X : SL) (b : Bool) (which r : Int) (w : World) (S : Sees w s X) (F : Few X) (hb : Hid (b = true ↔ OkS X)) :
    Calls Try.prog 21 #[s.val, .int .i64 which, .int .i64 r] w (Drew (.tuple #[.int .i64 (gnG b X which r), .int .i64 (gnS b X which r), .int .i64 (gnE b X which r)]) w) := by
  have X0 := hide (SBox.new w s)
  have B0 := hide ((Below.refl w.heap.size w).alloc (Nat.le_refl _) (.cells s.cs 31))
  have C0 := hide (rcheck_any s X b (w.alloc (.cells s.cs 31)) (S.alloc _) F hb)
  have HS := hide S
  have HK : Hid (∀ u, Calls Try.prog 51 #[.int .i64 which] u fun e w' => e = .returned (.bool (decide (1 ≤ which ∧ which ≤ 3))) ∧ u = w') := fun u => rkind_any which u
  clear S
  by_cases hr : r < 1 ∨ 1125899906842624 < r
  · have ER := hide (gn_ref (b := b) (X := X) (which := which) hr)
    have CU : Hid (∀ u, Calls Try.prog 55 #[.int .i64 r] u _) := fun u => Pool.runpack_no r u hr
    clear hr
    go_enter Try.func21, Try.ntmps21
    go_wp2_with (first | (go_at_call 55; refine (CU.out _).mono ?_; rintro e w' ⟨rfl, rfl⟩) | ((with_reducible refine ld31 (.tmp 3) w.heap.size ?_ s ?_ ?_); (exact rfl); (exact X0.out)))
    refine C0.out.mono ?_
    rintro e u1 ⟨rfl, b1⟩
    have X1 := hide (X0.out.step b1)
    have B1 := hide (Pool.next_call B0.out (Nat.le_refl _) b1)
    clear b1 C0 X0 B0
    rcases kind_cases b which with hk | ⟨hk, hbt, k, hk3, hw, hat⟩
    · have E := hide (gn_bad (X := X) (r := r) hk)
      cases b with
      | false =>
        clear hk hb
        go_wp2
        go_ret3
        exact ⟨by rw [E.out.1, E.out.2.1, E.out.2.2]; rfl, B1.out⟩
      | true =>
        have hd : decide (1 ≤ which ∧ which ≤ 3) = false := by
          have : ¬ (1 ≤ which ∧ which ≤ 3) := fun h => by unfold kndE at hk; rw [if_pos ⟨rfl, h⟩] at hk; cases hk
          simpa using this
        rw [hd] at HK
        clear hk hb hd
        go_wp2_with (go_at_call 51; refine (HK.out _).mono ?_; rintro e w' ⟨rfl, rfl⟩)
        go_ret3
        exact ⟨by rw [E.out.1, E.out.2.1, E.out.2.2]; rfl, B1.out⟩
    · have hd : decide (1 ≤ which ∧ which ≤ 3) = true := by simp; omega
      rw [hd, hw] at HK
      clear hd
      rw [hw]
      subst hbt
      clear hk hb hw hat
      go_wp2_with (go_at_call 51; refine (HK.out _).mono ?_; rintro e w' ⟨rfl, rfl⟩)
      go_ret3
      exact ⟨by rw [ER.out.1, ER.out.2.1, ER.out.2.2]; rfl, B1.out⟩
  · have r1 : 1 ≤ r := by omega
    have r2 : r ≤ 1125899906842624 := by omega
    obtain ⟨Y, hY⟩ : ∃ Y : Nat, (r - 1) % 1024 = (Y : Int) := ⟨((r - 1) % 1024).toNat, by omega⟩
    have hY1 : Y ≤ 1023 := by omega
    have HYY := hide hY
    have CU : Hid (∀ u, Calls Try.prog 55 #[.int .i64 r] u fun e w' => e = .returned (.tuple #[.int .i64 (Y : Int), .int .i64 ((r - 1) / 1024), .int .i64 0]) ∧ u = w') := fun u => Pool.runpack_is r Y _ u r1 r2 hY rfl
    clear hr hY
    go_enter Try.func21, Try.ntmps21
    go_wp2_with (first | (go_at_call 55; refine (CU.out _).mono ?_; rintro e w' ⟨rfl, rfl⟩) | ((with_reducible refine ld31 (.tmp 3) w.heap.size ?_ s ?_ ?_); (exact rfl); (exact X0.out)))
    refine C0.out.mono ?_
    rintro e u1 ⟨rfl, b1⟩
    have X1 := hide (X0.out.step b1)
    have B1 := hide (Pool.next_call B0.out (Nat.le_refl _) b1)
    clear b1 C0 X0 B0
    rcases kind_cases b which with hk | ⟨hk, hbt, k, hk3, hw, hat⟩
    · have E := hide (gn_bad (X := X) (r := r) hk)
      cases b with
      | false =>
        clear hk hb
        go_wp2
        go_ret3
        exact ⟨by rw [E.out.1, E.out.2.1, E.out.2.2]; rfl, B1.out⟩
      | true =>
        have hd : decide (1 ≤ which ∧ which ≤ 3) = false := by
          have : ¬ (1 ≤ which ∧ which ≤ 3) := fun h => by unfold kndE at hk; rw [if_pos ⟨rfl, h⟩] at hk; cases hk
          simpa using this
        rw [hd] at HK
        clear hk hb hd
        go_wp2_with (go_at_call 51; refine (HK.out _).mono ?_; rintro e w' ⟨rfl, rfl⟩)
        go_ret3
        exact ⟨by rw [E.out.1, E.out.2.1, E.out.2.2]; rfl, B1.out⟩
    · have RK := hide ((HS.out.p k hk3).below B1.out (Nat.le_refl _))
      have hd : decide (1 ≤ which ∧ which ≤ 3) = true := by simp; omega
      rw [hd, hw] at HK
      clear hd
      obtain ⟨h0, h1, h2, h3⟩ := X1.out.pool hk3
      have hl := X1.out.lt
      have hi0 : (0 : Int) ≤ (k : Int) := by omega
      have hi1 : (k : Int) < 3 := by omega
      have hwk : IntKind.i64.wrap (k : Int) = (k : Int) := by rw [IntKind.wrap_i64]; omega
      have hsub : wrap64 ((k : Int) + 1 - 1) = (k : Int) := by rw [show (k : Int) + 1 - 1 = (k : Int) by omega]; unfold wrap64; omega
      have lg := RK.out.g.1
      rw [hw]
      by_cases hf : (X.pl k).G.length ≤ Y
      · have E := hide (gn_far (b := b) (which := which) hat HYY.out hf)
        have hcmp : decide ((s.pl k).n0 ≤ Y) = true := by simp; omega
        have hcmp2 : (s.pl k).n0 ≤ Y := by omega
        subst hbt
        clear hk hb hw hat lg hf
        go_wp2_with (go_at_call 51; refine (HK.out _).mono ?_; rintro e w' ⟨rfl, rfl⟩)
        go_ret3
        exact ⟨by rw [E.out.1, E.out.2.1, E.out.2.2]; rfl, B1.out⟩
      · have E := hide (gn_good (X := X) hk hat r1 r2 HYY.out (Nat.lt_of_not_le hf))
        have hX0 : Y < (s.pl k).n0 := by omega
        have hX1 : Y < (s.pl k).n1 := by
          have h1 := RK.out.s.1
          have h2 := ((hb.out.1 hbt).1 k hk3).2.2.1
          omega
        obtain ⟨b0, o0, e0, hB0, hx0⟩ := RK.out.g.at_ hX0
        obtain ⟨b1, o1, e1, hB1, hx1⟩ := RK.out.s.at_ hX1
        generalize (X.pl k).G.getD Y 0 = vg at E hx0
        generalize (X.pl k).S.getD Y 0 = vs at E hx1
        rw [e0] at h0
        rw [e1] at h1
        have hsz := B1.out.size
        have n0 : b0 < u1.heap.size := by omega
        have n1 : b1 < u1.heap.size := by omega
        have hcmp : decide ((s.pl k).n0 ≤ Y) = false := by simp; omega
        have i0 : (0 : Int) ≤ (Y : Int) := by omega
        have i1 : (Y : Int) < ((s.pl k).n0 : Int) := by omega
        have i2 : (Y : Int) < ((s.pl k).n1 : Int) := by omega
        subst hbt
        clear hk hb hw hat lg hf e0 e1 hB0 hB1 HS
        go_wp2_with (go_at_call 51; refine (HK.out _).mono ?_; rintro e w' ⟨rfl, rfl⟩)
        go_quiet (fail)
        go_wp2
        go_ret3
        exact ⟨by rw [E.out.1, E.out.2.1, E.out.2.2]; rfl, Pool.Below.drewN B1.out _⟩

end Go.Proofs.Ythficfmakbblkaa
