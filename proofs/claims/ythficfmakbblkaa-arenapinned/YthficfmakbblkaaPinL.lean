/- What ArenaPinned's walk begins with. -/
import Derived.Test.YthficfmakbblkaaPinW
namespace Go.Proofs.Ythficfmakbblkaa
open Go.RowKit
open Pool (Pl PL MayBe noP noPl Drew Told4 Row upd ints)
set_option linter.unusedVariables false
set_option maxRecDepth 100000

theorem info52 : (Try.prog.info? 52).map (fun i => (i.zero, i.size, i.bytes)) = some (some (.slice none 0 0), 1, 24) := by kernel_rfl
theorem info4 : (Try.prog.info? 4).map (fun i => (i.zero, i.size, i.bytes)) = some (some (.bool false), 1, 1) := by kernel_rfl
theorem make_heads (n : Nat) (hn : n ≤ 6) : ∃ Z : Array Value, Hid (Z = heads (fun _ => noSl) n) ∧ ∀ w : World, (Instr.makeSlice 50 (.int .i64 (n : Int)) (.int .i64 (n : Int))).run Try.prog w = .ok (.slice (some ⟨w.heap.size, 0, none⟩) n n) (w.alloc (.cells Z 52)) := by
  obtain ⟨i0, hi0, hz0, hz1, hz2⟩ := info_parts info52
  refine ⟨_, rfl, fun w => ?_⟩
  rw [Era.make_rows 50 52 i0 (.slice none 0 0) Try.underlying50 hi0 hz0 n (by rw [hz2]; omega) (by omega) w, hz1, Nat.mul_one]
  congr 3
  rw [show (Value.slice none 0 0).cells = #[Value.slice none 0 0] from rfl]
  apply Array.toList_inj.1
  rw [toList_madeCells_one]
  unfold heads
  apply List.ext_getElem?
  intro j
  by_cases hj : j < n <;> simp [hj, Sl.val, noSl]
theorem make_bools (n : Nat) (hn : n ≤ 6) : ∃ Z : Array Value, Hid (Z = bools (List.replicate n false)) ∧ ∀ w : World, (Instr.makeSlice 51 (.int .i64 (n : Int)) (.int .i64 (n : Int))).run Try.prog w = .ok (.slice (some ⟨w.heap.size, 0, none⟩) n n) (w.alloc (.cells Z 4)) := by
  obtain ⟨i0, hi0, hz0, hz1, hz2⟩ := info_parts info4
  refine ⟨_, rfl, fun w => ?_⟩
  rw [Era.make_rows 51 4 i0 (.bool false) Try.underlying51 hi0 hz0 n (by rw [hz2]; omega) (by omega) w, hz1, Nat.mul_one]
  congr 3
  rw [show (Value.bool false).cells = #[Value.bool false] from rfl]
  apply Array.toList_inj.1
  rw [toList_madeCells_one]
  unfold bools
  simp
/-- At the start nobody is pinned. -/
theorem inv_new {n e p i j : Int} {t : Nat} (h : nwOk n e p i j (t : Int)) : Inv (nwX n e p i j (t : Int)) (List.replicate t false) ((List.range t).map fun _ => ([] : List (Int × Int))) [] ∧ (nwX n e p i j (t : Int)).Z.length = t := by
  have hX := (nw_yes h).2
  obtain ⟨⟨⟨a1, a2⟩, ⟨b1, b2⟩, ⟨c1, c2⟩, _⟩, t1, t2⟩ := h
  have hF := few_nw n e p i j (t : Int)
  rw [hX] at hF ⊢
  simp only [Int.toNat_natCast] at hF ⊢
  refine ⟨⟨⟨three (P := fun k => MayBe ((nX n.toNat e.toNat p.toNat (List.replicate t (-1)) 3).pl k)) (Pool.new_good (by omega) (by omega)).1 (Pool.new_good (by omega) (by omega)).1 (Pool.new_good (by omega) (by omega)).1, ⟨by simp [nX], by simp [nX]⟩, ⟨by simp [nX]; omega, by simp [nX]; omega⟩, fun z hz => .inl (List.eq_of_mem_replicate hz)⟩, hF, by simp [nX], by simp [nX], fun i hi => ?_, fun i hi hp => ?_, fun p hp => (by cases hp), by simp⟩, by simp [nX]⟩
  · have hi' : i < t := by simpa [nX] using hi
    simp [nX, List.getD_eq_getElem?_getD, hi']
  · have hi' : i < t := by simpa [nX] using hi
    simp [List.getD_eq_getElem?_getD, hi'] at hp
theorem few_none {u : World} {s : Sh} (S : Sees u s noS) : s.z.n = 0 := by have := S.z.len; simpa [noS] using this.symm

/-- What stands as the steps begin. -/
theorem pn_first {w u : World} {h n : Nat} {s : Sh} {X : SL} {Z9 Z10 : Array Value} (T : St w u h s X) (h9 : Z9 = heads (fun _ => noSl) n) (h10 : Z10 = bools (List.replicate n false)) :
    Pn w ((u.alloc (.cells Z9 52)).alloc (.cells Z10 4)) h u.heap.size (u.heap.size + 1) n s X (List.replicate n false) (fun _ => noSl) (fun _ => []) := by
  have hs : ∀ b, u.heap.size ≤ b → ¬ s.Has b := fun b hb hn => by have := T.sees.lt hn; omega
  have hg := T.bel.size
  exact ⟨(T.alloc _).alloc _, by rw [← h9]; exact heap_alloc2_old u _ _, by rw [← h10]; exact heap_alloc2_new u _ _, ⟨fun i hi => World.ownsRow_nil _ _ _ _, fun i j _ _ _ a b ha => (by cases ha)⟩, hs _ (Nat.le_refl _), hs _ (by omega), fun i hi a ha => (by cases ha), hg, by omega⟩

/-- The numbers of a step. -/
theorem quo_run (N q : Nat) (hN : N ≤ 9223372036854775807) (hq : N / 6 = q) : ∀ u : World, (binOp .quo 3 (.int .i64 (N : Int)) (.int .i64 6)).run Try.prog u = .ok (.int .i64 (q : Int)) u := by
  intro u
  have h1 : (N : Int).tdiv 6 = (q : Int) := by
    rw [Int.tdiv_eq_ediv_of_nonneg (by omega), ← hq]; rfl
  have h2 : IntKind.i64.wrap (q : Int) = (q : Int) := by rw [IntKind.wrap_i64]; omega
  clear hq
  go_simp
theorem rem_run (N m r : Nat) (hm : m ≠ 0) (hm2 : m ≤ 200) (hr : N % m = r) : ∀ u : World, (binOp .rem 3 (.int .i64 (N : Int)) (.int .i64 (m : Int))).run Try.prog u = .ok (.int .i64 (r : Int)) u := by
  intro u
  have h0 : ((m : Int) == 0) = false := by simp; omega
  have h1 : (N : Int).tmod (m : Int) = (r : Int) := by
    rw [Int.tmod_eq_emod_of_nonneg (by omega), ← hr]; rfl
  have h3 : N % m < m := Nat.mod_lt _ (by omega)
  have h2 : IntKind.i64.wrap (r : Int) = (r : Int) := by rw [IntKind.wrap_i64]; omega
  clear hr h3
  go_simp
theorem step_nums (NV TN : Nat) (h1 : 1 ≤ TN) (h6 : TN ≤ 6) (hN : (NV : Int) ≤ 9223372036854775807) : ∃ q t c m : Nat, wrap64 ((NV : Int) / 6) = (q : Int) ∧ (q : Int).tmod (TN : Int) = (t : Int) ∧ (q : Int).tmod 3 = (c : Int) ∧ (NV : Int).tmod 6 = (m : Int) ∧ (NV : Int) % 6 = (m : Int) ∧
    t < TN ∧ c < 3 ∧ m < 6 ∧ wrap64 ((c : Int) + 1) = (c : Int) + 1 ∧ q ≤ 9223372036854775807 := by
  have htn : NV / 6 % TN < TN := Nat.mod_lt _ (by omega)
  refine ⟨NV / 6, NV / 6 % TN, NV / 6 % 3, NV % 6, ?_, ?_, ?_, ?_, ?_, htn, by omega, by omega, ?_, by omega⟩
  · unfold wrap64; omega
  · rw [Int.tmod_eq_emod_of_nonneg (by omega), ← Int.natCast_emod]
  · rw [Int.tmod_eq_emod_of_nonneg (by omega)]; omega
  · rw [Int.tmod_eq_emod_of_nonneg (by omega)]; omega
  · omega
  · unfold wrap64; omega
end Go.Proofs.Ythficfmakbblkaa
