/- How many calls are pending: the code and the document. Conditions: not many. -/
import Derived.Test.YtfefkdedgceomaaWF
import Derived.WalkKit
import Derived.Below
import Derived.Deep.QuietTactic
import Derived.BigQuiet
import Derived.Deep.AppendLies
import Derived.Deep.RegionHeld3
import Derived.Deep.DeepCutAuto
import Derived.Shelf.Abstract
import Derived.Laws.Rows
namespace Go.Proofs.Ytfefkdedgceomaa
open Go.RowKit
set_option linter.unusedVariables false
set_option maxRecDepth 100000

abbrev zero39 : Array Value := #[.int .i64 0, .int .i64 0, .int .i64 0, .int .i64 0, .int .i64 0, .int .i64 0, .int .i64 0, .int .i64 0, .int .i64 0, .int .i64 0, .slice none 0 0, .slice none 0 0, .slice none 0 0]
theorem made (u : World) (cs ds : Array Value) (t : TypeId) : Bx ((u.alloc (.cells cs t)).setRow u.heap.size ds) u.heap.size ds t ∧ Below u.heap.size u ((u.alloc (.cells cs t)).setRow u.heap.size ds) :=
  ⟨(Bx.new u cs t).put ds, row_below ((Below.refl _ _).alloc (Nat.le_refl _) _) (Nat.le_refl _) _⟩
/-- How many calls are pending. -/
def pendN (C : List Cl) : Nat := (C.filter fun c => decide (c.e < 0)).length
theorem pend_step {C : List Cl} {k : Nat} (h : k < C.length) : pendN (C.take (k + 1)) = pendN (C.take k) + (if (C.getD k noCl).e < 0 then 1 else 0) := by
  unfold pendN
  rw [List.take_add_one, List.getElem?_eq_getElem h, List.filter_append, List.length_append]
  have e : C.getD k noCl = C[k] := by simp [List.getD_eq_getElem?_getD, h]
  rw [e]
  by_cases x : C[k].e < 0 <;> simp [x]
theorem pend_le (C : List Cl) : pendN C ≤ C.length := List.length_filter_le _ _

set_option maxHeartbeats 4000000 in
theorem pend20 (s : Sl) (C : List Cl) (w : World) (p : Cls w w.heap.size s C) (hn : s.n ≤ 1000) : Calls Try.prog 20 #[.slice s.A s.n s.c] w (Drew (.int .i64 (pendN C : Nat)) w) := by
  obtain ⟨A, n, cp⟩ := s
  have PC := hide p
  have hl : Hid (C.length = n) := p.1
  dsimp only at hn ⊢
  clear p
  go_enter Try.func20, Try.ntmps20
  go_wp2
  go_loopw [3, 8] (fun m i wr => ∃ k m' : Nat, k ≤ n ∧ i = .int .i64 k ∧ m = .int .i64 m' ∧ m' = pendN (C.take k) ∧ Hid (Below w.heap.size w wr)) (fun _ i _ => n - (intOf i).toNat)
  case atStart => exact ⟨0, 0, by omega, rfl, rfl, by simp [pendN], Below.refl _ _⟩
  case round =>
    obtain ⟨k, m, hk, rfl, rfl, hm, HB⟩ := hrel
    have hmk : m ≤ 1000 := by have := pend_le (C.take k); simp at this; omega
    have HM := hide hm
    clear hm
    by_cases hlt : k < n
    · obtain ⟨b, off, z, e, hb, LI0, _⟩ := (PC.out.below HB.out (Nat.le_refl _)).at_ hlt
      dsimp only at e
      subst e
      have hl' := hl.out
      obtain ⟨c, hc⟩ : ∃ c, C.getD k noCl = c := ⟨_, rfl⟩
      rw [hc] at LI0
      have LI := hide LI0
      have MD := hide (made wr zero39 (cc c z) 39)
      clear LI0
      by_cases x : c.e < 0
      · have T1 : Hid (decide (c.e < 0) = true) := by show _ = _; simpa using x
        have HP : Hid (pendN (C.take (k + 1)) = pendN (C.take k) + 1) := by show _ = _; rw [pend_step (by omega), hc]; rw [if_pos x]
        have t7 : decide (c.e < 0) = true := T1.out
        clear x hc
        clear t7
        go_wp2_with (first | ((with_reducible refine ld39 (.tmp 10) b (off + k * 13) ?_ ?_ c z ?_ ?_); (exact rfl); (exact rfl); (exact LI.out)) | ((with_reducible refine st39 (.tmp 5) (.tmp 11) wr.heap.size ?_ c z ?_ zero39 ?_ rfl ?_); (exact rfl); (exact rfl); (exact Bx.new wr zero39 39)) | ((with_reducible refine ld39 (.tmp 5) wr.heap.size 0 ?_ ?_ c z ?_ ?_); (exact rfl); (exact rfl); (exact MD.out.1.lies)))
        refine (pending_any c z true _ T1).mono ?_
        rintro e u1 ⟨rfl, hb⟩
        have HB' := hide (HB.out.trans (((MD.out.2).trans (hb.mono MD.out.2.size)).mono HB.out.size))
        clear hb
        go_wp2
        go_roundw
        case rel => exact ⟨k + 1, m + 1, by omega, by go_num, by go_num, by rw [HP.out]; have := HM.out; omega, HB'⟩
        case measure => simp [intOf]; omega
      · have T1 : Hid (decide (c.e < 0) = false) := by show _ = _; simpa using x
        have HP : Hid (pendN (C.take (k + 1)) = pendN (C.take k) + 0) := by show _ = _; rw [pend_step (by omega), hc]; rw [if_neg x]
        have t7 : decide (c.e < 0) = false := T1.out
        clear x hc
        clear t7
        go_wp2_with (first | ((with_reducible refine ld39 (.tmp 10) b (off + k * 13) ?_ ?_ c z ?_ ?_); (exact rfl); (exact rfl); (exact LI.out)) | ((with_reducible refine st39 (.tmp 5) (.tmp 11) wr.heap.size ?_ c z ?_ zero39 ?_ rfl ?_); (exact rfl); (exact rfl); (exact Bx.new wr zero39 39)) | ((with_reducible refine ld39 (.tmp 5) wr.heap.size 0 ?_ ?_ c z ?_ ?_); (exact rfl); (exact rfl); (exact MD.out.1.lies)))
        refine (pending_any c z false _ T1).mono ?_
        rintro e u1 ⟨rfl, hb⟩
        have HB' := hide (HB.out.trans (((MD.out.2).trans (hb.mono MD.out.2.size)).mono HB.out.size))
        clear hb
        go_wp2
        go_roundw
        case rel => exact ⟨k + 1, m, by omega, by go_num, rfl, by rw [HP.out]; have := HM.out; omega, HB'⟩
        case measure => simp [intOf]; omega
    · obtain rfl : n = k := by omega
      have HT : Hid (m = pendN C) := by
        show _ = _
        rw [HM.out, List.take_of_length_le (by rw [hl.out]; omega)]
      go_wp2
      go_ret
      exact ⟨by rw [HT.out]; rfl, HB.out⟩

set_option maxHeartbeats 4000000 in
theorem pend21 (s : Sl) (C : List Cl) (w : World) (p : Cls w w.heap.size s C) (hn : s.n ≤ 1000) : Calls Try.prog 21 #[.slice s.A s.n s.c] w (Drew (.int .i64 (pendN C : Nat)) w) := by
  obtain ⟨A, n, cp⟩ := s
  have PC := hide p
  have hl : Hid (C.length = n) := p.1
  dsimp only at hn ⊢
  clear p
  go_enter Try.func21, Try.ntmps21
  go_wp2
  go_loopw [3, 8] (fun m i wr => ∃ k m' : Nat, k ≤ n ∧ i = .int .i64 k ∧ m = .int .i64 m' ∧ m' = pendN (C.take k) ∧ Hid (Below w.heap.size w wr)) (fun _ i _ => n - (intOf i).toNat)
  case atStart => exact ⟨0, 0, by omega, rfl, rfl, by simp [pendN], Below.refl _ _⟩
  case round =>
    obtain ⟨k, m, hk, rfl, rfl, hm, HB⟩ := hrel
    have hmk : m ≤ 1000 := by have := pend_le (C.take k); simp at this; omega
    have HM := hide hm
    clear hm
    by_cases hlt : k < n
    · obtain ⟨b, off, z, e, hb, LI0, _⟩ := (PC.out.below HB.out (Nat.le_refl _)).at_ hlt
      dsimp only at e
      subst e
      have hl' := hl.out
      obtain ⟨c, hc⟩ : ∃ c, C.getD k noCl = c := ⟨_, rfl⟩
      rw [hc] at LI0
      have LI := hide LI0
      have MD := hide (made wr zero39 (cc c z) 39)
      clear LI0
      by_cases x : c.e < 0
      · have T1 : Hid (decide (c.e < 0) = true) := by show _ = _; simpa using x
        have HP : Hid (pendN (C.take (k + 1)) = pendN (C.take k) + 1) := by show _ = _; rw [pend_step (by omega), hc]; rw [if_pos x]
        have t7 : decide (c.e < 0) = true := T1.out
        clear x hc
        have c7 : ((wr.alloc (.cells zero39 39)).setRow wr.heap.size (cc c z)).cell? ⟨wr.heap.size, 7, none⟩ = some (.int .i64 c.e) := MD.out.1.c7
        go_wp2_with (first | ((with_reducible refine ld39 (.tmp 10) b (off + k * 13) ?_ ?_ c z ?_ ?_); (exact rfl); (exact rfl); (exact LI.out)) | ((with_reducible refine st39 (.tmp 5) (.tmp 11) wr.heap.size ?_ c z ?_ zero39 ?_ rfl ?_); (exact rfl); (exact rfl); (exact Bx.new wr zero39 39)))
        have HB' := hide (HB.out.trans (MD.out.2.mono HB.out.size))
        go_roundw
        case rel => exact ⟨k + 1, m + 1, by omega, by go_num, by go_num, by rw [HP.out]; have := HM.out; omega, HB'⟩
        case measure => simp [intOf]; omega
      · have T1 : Hid (decide (c.e < 0) = false) := by show _ = _; simpa using x
        have HP : Hid (pendN (C.take (k + 1)) = pendN (C.take k) + 0) := by show _ = _; rw [pend_step (by omega), hc]; rw [if_neg x]
        have t7 : decide (c.e < 0) = false := T1.out
        clear x hc
        have c7 : ((wr.alloc (.cells zero39 39)).setRow wr.heap.size (cc c z)).cell? ⟨wr.heap.size, 7, none⟩ = some (.int .i64 c.e) := MD.out.1.c7
        go_wp2_with (first | ((with_reducible refine ld39 (.tmp 10) b (off + k * 13) ?_ ?_ c z ?_ ?_); (exact rfl); (exact rfl); (exact LI.out)) | ((with_reducible refine st39 (.tmp 5) (.tmp 11) wr.heap.size ?_ c z ?_ zero39 ?_ rfl ?_); (exact rfl); (exact rfl); (exact Bx.new wr zero39 39)))
        have HB' := hide (HB.out.trans (MD.out.2.mono HB.out.size))
        go_roundw
        case rel => exact ⟨k + 1, m, by omega, by go_num, rfl, by rw [HP.out]; have := HM.out; omega, HB'⟩
        case measure => simp [intOf]; omega
    · obtain rfl : n = k := by omega
      have HT : Hid (m = pendN C) := by
        show _ = _
        rw [HM.out, List.take_of_length_le (by rw [hl.out]; omega)]
      go_wp2
      go_ret
      exact ⟨by rw [HT.out]; rfl, HB.out⟩

end Go.Proofs.Ytfefkdedgceomaa
