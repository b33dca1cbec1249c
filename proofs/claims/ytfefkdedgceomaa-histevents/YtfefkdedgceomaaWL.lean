/- Whether a history may be (the code); whether it is short; the laws' example. Conditions: not many events, lists that are not great. -/
import Derived.Test.YtfefkdedgceomaaWCw
import Derived.WalkKit
import Derived.Below
import Derived.Deep.QuietTactic
import Derived.BigQuiet
import Derived.Deep.AppendLies
import Derived.Deep.RegionHeld3
import Derived.Deep.DeepCutAuto
import Derived.Shelf.Abstract
import Derived.Laws.Rows
namespace Go.Proofs.Ytfefkdedgceomaa
open Go.RowKit Go.Maps
set_option linter.unusedVariables false
set_option maxRecDepth 100000

set_option maxHeartbeats 1000000 in
theorem check_any (sl : Sl) (L : List Ev) (w : World) (p : Evs w w.heap.size sl L) (hn : sl.n ≤ 1000) (F : ∀ i, i < L.length → FewR (L.getD i noEv).r) (hw : ∀ i, i < L.length → (Lit.int .i64 (L.getD i noEv).t).wf = true) :
    Calls Try.prog 13 #[.slice sl.A sl.n sl.c] w (Drew (.int .i64 (resE L)) w) := by
  have HP := hide p
  have HF := hide F
  have HW := hide hw
  clear p F hw
  go_enter Try.func13, Try.ntmps13
  go_wp2_with fail
  refine (calls_any sl L w HP.out hn HF.out HW.out).mono ?_
  rintro e u1 ⟨v, Z, rfl, -, -, hb⟩
  go_wp2
  go_ret
  exact ⟨rfl, hb.out⟩

/-- A history that is short, with short lists. -/
def FewE (r : RL) : Prop := r.P.length ≤ 100 ∧ r.O.length ≤ 100 ∧ r.I.length ≤ 100
def FewL (L : List Ev) (n : Nat) : Prop := (∀ i, i < L.length → FewE (L.getD i noEv).r) ∧ L.length ≤ n
theorem FewL.few {L : List Ev} {n : Nat} (h : FewL L n) : ∀ i, i < L.length → FewR (L.getD i noEv).r := fun i hi => by
  obtain ⟨h1, h2, h3⟩ := h.1 i hi
  exact ⟨by omega, by omega, by omega⟩

set_option maxHeartbeats 4000000 in
theorem few_any (sl : Sl) (L : List Ev) (most : Int) (q : Bool) (w : World) (p : Evs w w.heap.size sl L) (hn : sl.n ≤ 9223372036854775807) (hb : ∀ i, i < L.length → (L.getD i noEv).r.P.length ≤ maxLen ∧ (L.getD i noEv).r.O.length ≤ maxLen ∧ (L.getD i noEv).r.I.length ≤ maxLen) (hm : 0 ≤ most) (hq : Hid (q = true ↔ FewL L most.toNat)) :
    Calls Try.prog 10 #[.slice sl.A sl.n sl.c, .int .i64 most] w (Drew (.bool q) w) := by
  obtain ⟨A0, N, cp⟩ := sl
  have HP := hide p
  have hl : Hid (L.length = N) := p.1
  have HBD := hide hb
  dsimp only at hn ⊢
  clear p hb
  go_enter Try.func10, Try.ntmps10
  go_wp2
  go_loopw [9] (fun i wr => ∃ k : Nat, k ≤ N ∧ i = .int .i64 k ∧ Hid (∀ j, j < k → FewE (L.getD j noEv).r) ∧ Hid (Below w.heap.size w wr)) (fun i _ => N - (intOf i).toNat)
  case atStart => exact ⟨0, by omega, rfl, (fun j hj => by omega), Below.refl _ _⟩
  case round =>
    obtain ⟨k, hk, rfl, HS, HB⟩ := hrel
    by_cases hlt : k < N
    · have HKL : Hid (k < L.length) := by have := hl.out; show _ < _; omega
      obtain ⟨b, off, z, e, hb, LI0, RS0⟩ := (HP.out.below HB.out (Nat.le_refl _)).at_ hlt
      dsimp only at e
      subst e
      obtain ⟨x, hx⟩ : ∃ x, Hid (L.getD k noEv = x) := ⟨_, rfl⟩
      rw [hx.out] at LI0 RS0
      have l1 := RS0.1.len
      have l2 := RS0.2.1.len
      have l3 := RS0.2.2.len
      have lb := HBD.out k HKL.out
      rw [hx.out, ← l1, ← l2, ← l3] at lb
      obtain ⟨lb1, lb2, lb3⟩ := lb
      unfold maxLen at lb1 lb2 lb3
      have LI := hide LI0
      have MD := hide (made wr zero45 (ec x z) 45)
      clear LI0 RS0
      have c9 : ((wr.alloc (.cells zero45 45)).setRow wr.heap.size (ec x z)).cell? ⟨wr.heap.size, 9, none⟩ = some (.slice z.P.A z.P.n z.P.c) := MD.out.1.cells 9
      have c10 : ((wr.alloc (.cells zero45 45)).setRow wr.heap.size (ec x z)).cell? ⟨wr.heap.size, 10, none⟩ = some (.slice z.O.A z.O.n z.O.c) := MD.out.1.cells 10
      have c11 : ((wr.alloc (.cells zero45 45)).setRow wr.heap.size (ec x z)).cell? ⟨wr.heap.size, 11, none⟩ = some (.slice z.I.A z.I.n z.I.c) := MD.out.1.cells 11
      by_cases g1 : z.P.n ≤ 100
      case neg =>
        have t1 : decide ((z.P.n : Int) > 100) = true := by simp; omega
        have t1' : decide ((100 : Int) < (z.P.n : Int)) = true := by simp; omega
        have HN : Hid (q = false) := by
          show _ = _
          cases q
          · rfl
          · exact absurd ((hq.out.1 rfl).1 k HKL.out) (by rw [hx.out]; unfold FewE; omega)
        clear hq
        go_wp2_with (first | ((with_reducible refine ld45 (.tmp 11) b (off + k * 12) ?_ ?_ x z ?_ ?_); (exact rfl); (exact rfl); (exact LI.out)) | ((with_reducible refine st45 (.tmp 6) (.tmp 12) wr.heap.size ?_ x z ?_ zero45 ?_ rfl ?_); (exact rfl); (exact rfl); (exact Bx.new wr zero45 45)))
        go_ret
        exact ⟨by rw [HN.out]; rfl, HB.out.trans (MD.out.2.mono HB.out.size)⟩
      have t1 : decide ((z.P.n : Int) > 100) = false := by simp; omega
      have t1' : decide ((100 : Int) < (z.P.n : Int)) = false := by simp; omega
      by_cases g2 : z.O.n ≤ 100
      case neg =>
        have t2 : decide ((z.O.n : Int) > 100) = true := by simp; omega
        have t2' : decide ((100 : Int) < (z.O.n : Int)) = true := by simp; omega
        have HN : Hid (q = false) := by
          show _ = _
          cases q
          · rfl
          · exact absurd ((hq.out.1 rfl).1 k HKL.out) (by rw [hx.out]; unfold FewE; omega)
        clear hq
        go_wp2_with (first | ((with_reducible refine ld45 (.tmp 11) b (off + k * 12) ?_ ?_ x z ?_ ?_); (exact rfl); (exact rfl); (exact LI.out)) | ((with_reducible refine st45 (.tmp 6) (.tmp 12) wr.heap.size ?_ x z ?_ zero45 ?_ rfl ?_); (exact rfl); (exact rfl); (exact Bx.new wr zero45 45)))
        go_ret
        exact ⟨by rw [HN.out]; rfl, HB.out.trans (MD.out.2.mono HB.out.size)⟩
      have t2 : decide ((z.O.n : Int) > 100) = false := by simp; omega
      have t2' : decide ((100 : Int) < (z.O.n : Int)) = false := by simp; omega
      by_cases g3 : z.I.n ≤ 100
      case neg =>
        have t3 : decide ((z.I.n : Int) > 100) = true := by simp; omega
        have t3' : decide ((100 : Int) < (z.I.n : Int)) = true := by simp; omega
        have HN : Hid (q = false) := by
          show _ = _
          cases q
          · rfl
          · exact absurd ((hq.out.1 rfl).1 k HKL.out) (by rw [hx.out]; unfold FewE; omega)
        clear hq
        go_wp2_with (first | ((with_reducible refine ld45 (.tmp 11) b (off + k * 12) ?_ ?_ x z ?_ ?_); (exact rfl); (exact rfl); (exact LI.out)) | ((with_reducible refine st45 (.tmp 6) (.tmp 12) wr.heap.size ?_ x z ?_ zero45 ?_ rfl ?_); (exact rfl); (exact rfl); (exact Bx.new wr zero45 45)))
        go_ret
        exact ⟨by rw [HN.out]; rfl, HB.out.trans (MD.out.2.mono HB.out.size)⟩
      have t3 : decide ((z.I.n : Int) > 100) = false := by simp; omega
      have t3' : decide ((100 : Int) < (z.I.n : Int)) = false := by simp; omega
      have HS' : Hid (∀ j, j < k + 1 → FewE (L.getD j noEv).r) := fun j hj => by
        by_cases ej : j = k
        · subst ej; rw [hx.out]; exact ⟨by omega, by omega, by omega⟩
        · exact HS.out j (by omega)
      have HB' := hide (HB.out.trans (MD.out.2.mono HB.out.size))
      go_wp2_with (first | ((with_reducible refine ld45 (.tmp 11) b (off + k * 12) ?_ ?_ x z ?_ ?_); (exact rfl); (exact rfl); (exact LI.out)) | ((with_reducible refine st45 (.tmp 6) (.tmp 12) wr.heap.size ?_ x z ?_ zero45 ?_ rfl ?_); (exact rfl); (exact rfl); (exact Bx.new wr zero45 45)))
      go_roundw
      case rel => exact ⟨k + 1, by omega, by go_num, HS', HB'⟩
      case measure => simp [intOf]; omega
    · obtain rfl : N = k := by omega
      have HQ : Hid (decide ((N : Int) ≤ most) = q) := by
        show _ = _
        rw [Bool.eq_iff_iff, decide_eq_true_eq, hq.out]
        have h1 := hl.out
        have h2 := HS.out
        constructor
        · intro h; exact ⟨fun i hi => h2 i (by omega), by omega⟩
        · intro h; have := h.2; omega
      have tq := HQ.out
      go_wp2
      go_ret
      exact ⟨rfl, HB.out⟩

def e1 : Ev := ⟨1, false, noO, noR⟩
def e2 : Ev := ⟨2, false, noO, noR⟩
def e3 : Ev := ⟨1, true, noO, noR⟩
def liveL : List Ev := [e1, e2, e3]
abbrev arr36 : Array Value := #[.int .i64 1, .bool false, .int .i64 0, .int .i64 0, .int .i64 0, .int .i64 0, .int .i64 0, .int .i64 0, .int .i64 0, .slice none 0 0, .slice none 0 0, .slice none 0 0, .int .i64 2, .bool false, .int .i64 0, .int .i64 0, .int .i64 0, .int .i64 0, .int .i64 0, .int .i64 0, .int .i64 0, .slice none 0 0, .slice none 0 0, .slice none 0 0, .int .i64 1, .bool true, .int .i64 0, .int .i64 0, .int .i64 0, .int .i64 0, .int .i64 0, .int .i64 0, .int .i64 0, .slice none 0 0, .slice none 0 0, .slice none 0 0]
theorem arr_at (i j : Nat) (hi : i < 3) (hj : j < 12) : arr36[i * 12 + j]? = (ec (liveL.getD i noEv) noS3)[j]? := by
  match i, hi with
  | 0, _ => match j, hj with
    | 0, _ | 1, _ | 2, _ | 3, _ | 4, _ | 5, _ | 6, _ | 7, _ | 8, _ | 9, _ | 10, _ | 11, _ => rfl
  | 1, _ => match j, hj with
    | 0, _ | 1, _ | 2, _ | 3, _ | 4, _ | 5, _ | 6, _ | 7, _ | 8, _ | 9, _ | 10, _ | 11, _ => rfl
  | 2, _ => match j, hj with
    | 0, _ | 1, _ | 2, _ | 3, _ | 4, _ | 5, _ | 6, _ | 7, _ | 8, _ | 9, _ | 10, _ | 11, _ => rfl
theorem live_evs (w : World) : Evs (w.alloc (.cells arr36 45)) (w.alloc (.cells arr36 45)).heap.size ⟨some ⟨w.heap.size, 0, none⟩, 3, 3⟩ liveL := by
  refine ⟨rfl, (fun h => by cases h), fun _ => ⟨w.heap.size, 0, rfl, by simp, fun i hi => ⟨noS3, fun j v hv => ?_, ?_⟩⟩⟩
  · have hj : j < 12 := (List.getElem?_eq_some_iff.1 hv).1
    rw [Nat.zero_add, cell_of_row _ w.heap.size _ _ 45 (0, 0) (heap_alloc_new w _), arr_at i j hi hj]
    simpa using hv
  · have : (liveL.getD i noEv).r = noR := by
      match i, hi with
      | 0, _ | 1, _ | 2, _ => rfl
    rw [this]
    exact RSee.nil _ _
theorem live_may : May liveL := by
  have h0 : May ([] : List Ev) := May.nil
  have h1 : May ([] ++ [e1]) := (may_snoc _ _).2 ⟨h0, .inl ⟨fun i h => absurd h.1 (by simp [calls_nil]), by decide, by decide, rfl, rfl⟩⟩
  have c1 : calls ([] ++ [e1]) = [⟨1, noO, 0, -1, noR⟩] := by decide
  have h2 : May (([] ++ [e1]) ++ [e2]) := (may_snoc _ _).2 ⟨h1, .inl ⟨fun i h => by
    rw [c1] at h
    obtain ⟨a, b, _⟩ := h
    obtain rfl : i = 0 := by simp at a; omega
    exact absurd b (by decide), by decide, by decide, rfl, rfl⟩⟩
  have c2 : calls (([] ++ [e1]) ++ [e2]) = [⟨1, noO, 0, -1, noR⟩, ⟨2, noO, 1, -1, noR⟩] := by decide
  exact (may_snoc (([] ++ [e1]) ++ [e2]) e3).2 ⟨h2, .inr ⟨0, by rw [c2]; exact ⟨by simp, rfl, rfl⟩, rfl, by rw [c2]; rfl⟩⟩
theorem live_calls : resC liveL = [⟨1, noO, 0, 2, noR⟩, ⟨2, noO, 1, -1, noR⟩] := by rw [resC_yes live_may]; decide

end Go.Proofs.Ytfefkdedgceomaa
