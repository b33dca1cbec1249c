/- An operation with 0 where its kind does not look (line's Plain); it comes to the same. No condition. -/
import Derived.Test.YtiiadkjiofkonaaGreatAB2
import Derived.WalkKit
import Derived.Below
import Derived.Deep.QuietTactic
import Derived.BigQuiet
import Derived.Deep.AppendLies
import Derived.Deep.RegionHeld3
import Derived.Deep.DeepCutAuto
import Derived.Shelf.Abstract
namespace Go.Proofs.YtiiadkjiofkonaaGreat
open Go.RowKit
set_option linter.unusedVariables false
set_option maxRecDepth 100000

def plainR (o : O5) : O5 × Bool :=
  if o.k = 1 then (⟨o.k, 0, 0, 0, 0⟩, true)
  else if o.k = 2 ∨ o.k = 9 then (⟨o.k, o.a, o.b, 0, 0⟩, true)
  else if o.k = 3 ∨ o.k = 6 ∨ o.k = 7 ∨ o.k = 8 then (⟨o.k, o.a, 0, 0, 0⟩, true)
  else if o.k = 4 then (⟨o.k, o.a, 0, o.q, o.v⟩, true)
  else if o.k = 5 then (⟨o.k, o.a, 0, o.q, 0⟩, true)
  else (noO, false)
theorem plain_kind {o p : O5} (h : plainR o = (p, true)) : p.k = o.k := by
  unfold plainR at h
  split at h
  · simp only [Prod.mk.injEq, and_true] at h; subst h; rfl
  split at h
  · simp only [Prod.mk.injEq, and_true] at h; subst h; rfl
  split at h
  · simp only [Prod.mk.injEq, and_true] at h; subst h; rfl
  split at h
  · simp only [Prod.mk.injEq, and_true] at h; subst h; rfl
  split at h
  · simp only [Prod.mk.injEq, and_true] at h; subst h; rfl
  simp at h
theorem plain_in (c3 c4 : Int) (G : GL) {o p : O5} (h : plainR o = (p, true)) : inR c3 c4 G p = inR c3 c4 G o := by
  obtain ⟨k, a, b, q, v⟩ := o
  unfold plainR at h
  simp only at h
  by_cases h1 : k = 1
  · subst h1; simp at h; subst h; simp [inR]
  by_cases h2 : k = 2
  · subst h2; simp at h; subst h; simp [inR]
  by_cases h3 : k = 3
  · subst h3; simp at h; subst h; simp [inR]
  by_cases h4 : k = 4
  · subst h4; simp at h; subst h; simp [inR]
  by_cases h5 : k = 5
  · subst h5; simp at h; subst h; simp [inR]
  by_cases h6 : k = 6
  · subst h6; simp at h; subst h; simp [inR]
  by_cases h7 : k = 7
  · subst h7; simp at h; subst h; simp [inR]
  by_cases h8 : k = 8
  · subst h8; simp at h; subst h; simp [inR]
  by_cases h9 : k = 9
  · subst h9; simp at h; subst h; simp [inR]
  simp [h1, h2, h3, h4, h5, h6, h7, h8, h9] at h
theorem plain_do (c3 c4 : Int) (G : GL) {o p : O5} (h : plainR o = (p, true)) : doR c3 c4 G p = doR c3 c4 G o := by
  unfold doR; rw [plain_in c3 c4 G h]
theorem plain_takes (c3 c4 : Int) (G : GL) {o p : O5} (h : plainR o = (p, true)) : takesR c3 c4 G p = takesR c3 c4 G o := by
  have hi := plain_in c3 c4 G h
  have hk := plain_kind h
  unfold takesR
  rw [hi, hk]
  by_cases h4 : o.k = 4
  · have h' := h
    unfold plainR at h'
    simp [h4] at h'
    subst h'
    rfl
  · simp [h4]
/-- No such kind: nothing is done. -/
theorem not_plain {o p : O5} (c3 c4 : Int) (G : GL) (h : plainR o = (p, false)) : doR c3 c4 G o = (G, ⟨1, 0, [], [], []⟩) ∧ takesR c3 c4 G o = 0 := by
  unfold plainR at h
  have hi : inR c3 c4 G o = (G, ⟨1, 0, [], [], []⟩) := by
    unfold inR
    split at h
    · simp at h
    split at h
    · simp at h
    split at h
    · simp at h
    split at h
    · simp at h
    split at h
    · simp at h
    rename_i h1 h2 h3 h4 h5
    rw [if_neg h1, if_neg (by omega), if_neg (by omega), if_neg h4, if_neg h5, if_neg (by omega), if_neg (by omega), if_neg (by omega), if_neg (by omega)]
  constructor
  · unfold doR; rw [hi]; simp
  · unfold takesR; rw [hi]; simp
/-- What is not done leaves the graph; so does what only reads. -/
theorem do_fails (c3 c4 : Int) (G : GL) (o : O5) (h : (doR c3 c4 G o).2.er ≠ 0) : (doR c3 c4 G o).1 = G := by
  have h' : (inR c3 c4 G o).2.er ≠ 0 := h
  unfold doR; exact if_neg h'
theorem do_reads (c3 c4 : Int) (G : GL) (o : O5) (h : o.k = 6 ∨ o.k = 7) : (doR c3 c4 G o).1 = G := by
  have hi : (inR c3 c4 G o).1 = G := by
    unfold inR
    rcases h with h | h <;> simp [h]
  show (if (inR c3 c4 G o).2.er = 0 then (inR c3 c4 G o).1 else G) = G
  rw [hi]; split <;> rfl

set_option maxHeartbeats 4000000 in
theorem plain_any (o p : O5) (t : Bool) (w : World) (h : Hid (plainR o = (p, t))) :
    Calls Tryz.prog 25 #[.agg (oc o)] w fun e w' => e = .returned (.tuple #[.agg (oc p), .bool t]) ∧ Below w.heap.size w w' := by
  obtain ⟨k, a, b, q, v⟩ := o
  by_cases x1 : k = 1
  case pos =>
    subst x1
    have hp : p = ⟨1, 0, 0, 0, 0⟩ := by have h' : (plainR ⟨1, a, b, q, v⟩).1 = p := congrArg Prod.fst h.out; rw [← h']; simp [plainR]
    have ht : t = true := by have h' : (plainR ⟨1, a, b, q, v⟩).2 = t := congrArg Prod.snd h.out; rw [← h']; simp [plainR]
    subst hp ht
    clear h
    obtain ⟨W, hW⟩ : ∃ W, Hid ((w.alloc (.cells (oc ⟨1, a, b, q, v⟩) 29)).alloc (.cells (#[.int .i64 0, .int .i64 0, .int .i64 0, .int .i64 0, .int .i64 0]) 29) = W) := ⟨_, rfl⟩
    have BW : Hid (Below w.heap.size w W) := by show Below _ _ _; rw [← hW.out]; exact (((Below.refl _ _).alloc (Nat.le_refl _) _).alloc (by simp) _)
    have HA : Hid (Bx W (w.heap.size) (oc ⟨1, a, b, q, v⟩) 29) := by
      have h := ((Bx.new w (oc ⟨1, a, b, q, v⟩) 29).alloc (.cells (#[.int .i64 0, .int .i64 0, .int .i64 0, .int .i64 0, .int .i64 0]) 29))
      show Bx _ _ _ _
      rw [← hW.out]
      simpa using h
    have HB : Hid (Bx W (w.heap.size + 1) (#[.int .i64 0, .int .i64 0, .int .i64 0, .int .i64 0, .int .i64 0]) 29) := by
      have h := (Bx.new (w.alloc (.cells (oc ⟨1, a, b, q, v⟩) 29)) (#[.int .i64 0, .int .i64 0, .int .i64 0, .int .i64 0, .int .i64 0]) 29)
      show Bx _ _ _ _
      rw [← hW.out]
      simpa using h
    go_enter Tryz.func25, Tryz.ntmps25
    go_upto_region 1 with fail
    have hW' := hW.out
    rw [hW']
    clear hW hW'
    have a0 : W.cell? ⟨w.heap.size, 0, none⟩ = some (.int .i64 (1)) := HA.out.cells 0
    have a1 : W.cell? ⟨w.heap.size, 1, none⟩ = some (.int .i64 a) := HA.out.cells 1
    have a2 : W.cell? ⟨w.heap.size, 2, none⟩ = some (.int .i64 b) := HA.out.cells 2
    have a3 : W.cell? ⟨w.heap.size, 3, none⟩ = some (.int .i64 q) := HA.out.cells 3
    have a4 : W.cell? ⟨w.heap.size, 4, none⟩ = some (.int .i64 v) := HA.out.cells 4
    go_wp2_with (((with_reducible refine stO (.tmp 2) (.tmp 10) (w.heap.size + 1) ?_ ⟨1, 0, 0, 0, 0⟩ ?_ (#[.int .i64 0, .int .i64 0, .int .i64 0, .int .i64 0, .int .i64 0]) ?_ ?_ ?_); (exact rfl); (exact rfl); (exact HB.out); (exact rfl)))
    exact bodyPost_ret (row_two rfl _ _ (w.heap.size + 1) 29 (oc ⟨1, 0, 0, 0, 0⟩) (0, 0) _ rfl (HB.out.put _) Tryz.underlying29 rfl asize29) rfl ⟨rfl, row_below BW.out (by omega) _⟩
  have t1 : (k == 1) = false := by simpa using x1
  by_cases x2 : k = 2
  case pos =>
    subst x2
    have hp : p = ⟨2, a, b, 0, 0⟩ := by have h' : (plainR ⟨2, a, b, q, v⟩).1 = p := congrArg Prod.fst h.out; rw [← h']; simp [plainR]
    have ht : t = true := by have h' : (plainR ⟨2, a, b, q, v⟩).2 = t := congrArg Prod.snd h.out; rw [← h']; simp [plainR]
    subst hp ht
    clear h
    obtain ⟨W, hW⟩ : ∃ W, Hid ((w.alloc (.cells (oc ⟨2, a, b, q, v⟩) 29)).alloc (.cells (#[.int .i64 0, .int .i64 0, .int .i64 0, .int .i64 0, .int .i64 0]) 29) = W) := ⟨_, rfl⟩
    have BW : Hid (Below w.heap.size w W) := by show Below _ _ _; rw [← hW.out]; exact (((Below.refl _ _).alloc (Nat.le_refl _) _).alloc (by simp) _)
    have HA : Hid (Bx W (w.heap.size) (oc ⟨2, a, b, q, v⟩) 29) := by
      have h := ((Bx.new w (oc ⟨2, a, b, q, v⟩) 29).alloc (.cells (#[.int .i64 0, .int .i64 0, .int .i64 0, .int .i64 0, .int .i64 0]) 29))
      show Bx _ _ _ _
      rw [← hW.out]
      simpa using h
    have HB : Hid (Bx W (w.heap.size + 1) (#[.int .i64 0, .int .i64 0, .int .i64 0, .int .i64 0, .int .i64 0]) 29) := by
      have h := (Bx.new (w.alloc (.cells (oc ⟨2, a, b, q, v⟩) 29)) (#[.int .i64 0, .int .i64 0, .int .i64 0, .int .i64 0, .int .i64 0]) 29)
      show Bx _ _ _ _
      rw [← hW.out]
      simpa using h
    go_enter Tryz.func25, Tryz.ntmps25
    go_upto_region 1 with fail
    have hW' := hW.out
    rw [hW']
    clear hW hW'
    have a0 : W.cell? ⟨w.heap.size, 0, none⟩ = some (.int .i64 (2)) := HA.out.cells 0
    have a1 : W.cell? ⟨w.heap.size, 1, none⟩ = some (.int .i64 a) := HA.out.cells 1
    have a2 : W.cell? ⟨w.heap.size, 2, none⟩ = some (.int .i64 b) := HA.out.cells 2
    have a3 : W.cell? ⟨w.heap.size, 3, none⟩ = some (.int .i64 q) := HA.out.cells 3
    have a4 : W.cell? ⟨w.heap.size, 4, none⟩ = some (.int .i64 v) := HA.out.cells 4
    go_wp2_with (((with_reducible refine stO (.tmp 2) (.tmp 20) (w.heap.size + 1) ?_ ⟨2, a, b, 0, 0⟩ ?_ (#[.int .i64 0, .int .i64 0, .int .i64 0, .int .i64 0, .int .i64 0]) ?_ ?_ ?_); (exact rfl); (exact rfl); (exact HB.out); (exact rfl)))
    exact bodyPost_ret (row_two rfl _ _ (w.heap.size + 1) 29 (oc ⟨2, a, b, 0, 0⟩) (0, 0) _ rfl (HB.out.put _) Tryz.underlying29 rfl asize29) rfl ⟨rfl, row_below BW.out (by omega) _⟩
  have t2 : (k == 2) = false := by simpa using x2
  by_cases x3 : k = 3
  case pos =>
    subst x3
    have hp : p = ⟨3, a, 0, 0, 0⟩ := by have h' : (plainR ⟨3, a, b, q, v⟩).1 = p := congrArg Prod.fst h.out; rw [← h']; simp [plainR]
    have ht : t = true := by have h' : (plainR ⟨3, a, b, q, v⟩).2 = t := congrArg Prod.snd h.out; rw [← h']; simp [plainR]
    subst hp ht
    clear h
    obtain ⟨W, hW⟩ : ∃ W, Hid ((w.alloc (.cells (oc ⟨3, a, b, q, v⟩) 29)).alloc (.cells (#[.int .i64 0, .int .i64 0, .int .i64 0, .int .i64 0, .int .i64 0]) 29) = W) := ⟨_, rfl⟩
    have BW : Hid (Below w.heap.size w W) := by show Below _ _ _; rw [← hW.out]; exact (((Below.refl _ _).alloc (Nat.le_refl _) _).alloc (by simp) _)
    have HA : Hid (Bx W (w.heap.size) (oc ⟨3, a, b, q, v⟩) 29) := by
      have h := ((Bx.new w (oc ⟨3, a, b, q, v⟩) 29).alloc (.cells (#[.int .i64 0, .int .i64 0, .int .i64 0, .int .i64 0, .int .i64 0]) 29))
      show Bx _ _ _ _
      rw [← hW.out]
      simpa using h
    have HB : Hid (Bx W (w.heap.size + 1) (#[.int .i64 0, .int .i64 0, .int .i64 0, .int .i64 0, .int .i64 0]) 29) := by
      have h := (Bx.new (w.alloc (.cells (oc ⟨3, a, b, q, v⟩) 29)) (#[.int .i64 0, .int .i64 0, .int .i64 0, .int .i64 0, .int .i64 0]) 29)
      show Bx _ _ _ _
      rw [← hW.out]
      simpa using h
    go_enter Tryz.func25, Tryz.ntmps25
    go_upto_region 1 with fail
    have hW' := hW.out
    rw [hW']
    clear hW hW'
    have a0 : W.cell? ⟨w.heap.size, 0, none⟩ = some (.int .i64 (3)) := HA.out.cells 0
    have a1 : W.cell? ⟨w.heap.size, 1, none⟩ = some (.int .i64 a) := HA.out.cells 1
    have a2 : W.cell? ⟨w.heap.size, 2, none⟩ = some (.int .i64 b) := HA.out.cells 2
    have a3 : W.cell? ⟨w.heap.size, 3, none⟩ = some (.int .i64 q) := HA.out.cells 3
    have a4 : W.cell? ⟨w.heap.size, 4, none⟩ = some (.int .i64 v) := HA.out.cells 4
    go_wp2_with (((with_reducible refine stO (.tmp 2) (.tmp 30) (w.heap.size + 1) ?_ ⟨3, a, 0, 0, 0⟩ ?_ (#[.int .i64 0, .int .i64 0, .int .i64 0, .int .i64 0, .int .i64 0]) ?_ ?_ ?_); (exact rfl); (exact rfl); (exact HB.out); (exact rfl)))
    exact bodyPost_ret (row_two rfl _ _ (w.heap.size + 1) 29 (oc ⟨3, a, 0, 0, 0⟩) (0, 0) _ rfl (HB.out.put _) Tryz.underlying29 rfl asize29) rfl ⟨rfl, row_below BW.out (by omega) _⟩
  have t3 : (k == 3) = false := by simpa using x3
  by_cases x4 : k = 4
  case pos =>
    subst x4
    have hp : p = ⟨4, a, 0, q, v⟩ := by have h' : (plainR ⟨4, a, b, q, v⟩).1 = p := congrArg Prod.fst h.out; rw [← h']; simp [plainR]
    have ht : t = true := by have h' : (plainR ⟨4, a, b, q, v⟩).2 = t := congrArg Prod.snd h.out; rw [← h']; simp [plainR]
    subst hp ht
    clear h
    obtain ⟨W, hW⟩ : ∃ W, Hid ((w.alloc (.cells (oc ⟨4, a, b, q, v⟩) 29)).alloc (.cells (#[.int .i64 0, .int .i64 0, .int .i64 0, .int .i64 0, .int .i64 0]) 29) = W) := ⟨_, rfl⟩
    have BW : Hid (Below w.heap.size w W) := by show Below _ _ _; rw [← hW.out]; exact (((Below.refl _ _).alloc (Nat.le_refl _) _).alloc (by simp) _)
    have HA : Hid (Bx W (w.heap.size) (oc ⟨4, a, b, q, v⟩) 29) := by
      have h := ((Bx.new w (oc ⟨4, a, b, q, v⟩) 29).alloc (.cells (#[.int .i64 0, .int .i64 0, .int .i64 0, .int .i64 0, .int .i64 0]) 29))
      show Bx _ _ _ _
      rw [← hW.out]
      simpa using h
    have HB : Hid (Bx W (w.heap.size + 1) (#[.int .i64 0, .int .i64 0, .int .i64 0, .int .i64 0, .int .i64 0]) 29) := by
      have h := (Bx.new (w.alloc (.cells (oc ⟨4, a, b, q, v⟩) 29)) (#[.int .i64 0, .int .i64 0, .int .i64 0, .int .i64 0, .int .i64 0]) 29)
      show Bx _ _ _ _
      rw [← hW.out]
      simpa using h
    go_enter Tryz.func25, Tryz.ntmps25
    go_upto_region 1 with fail
    have hW' := hW.out
    rw [hW']
    clear hW hW'
    have a0 : W.cell? ⟨w.heap.size, 0, none⟩ = some (.int .i64 (4)) := HA.out.cells 0
    have a1 : W.cell? ⟨w.heap.size, 1, none⟩ = some (.int .i64 a) := HA.out.cells 1
    have a2 : W.cell? ⟨w.heap.size, 2, none⟩ = some (.int .i64 b) := HA.out.cells 2
    have a3 : W.cell? ⟨w.heap.size, 3, none⟩ = some (.int .i64 q) := HA.out.cells 3
    have a4 : W.cell? ⟨w.heap.size, 4, none⟩ = some (.int .i64 v) := HA.out.cells 4
    go_wp2_with (((with_reducible refine stO (.tmp 2) (.tmp 41) (w.heap.size + 1) ?_ ⟨4, a, 0, q, v⟩ ?_ (#[.int .i64 0, .int .i64 0, .int .i64 0, .int .i64 0, .int .i64 0]) ?_ ?_ ?_); (exact rfl); (exact rfl); (exact HB.out); (exact rfl)))
    exact bodyPost_ret (row_two rfl _ _ (w.heap.size + 1) 29 (oc ⟨4, a, 0, q, v⟩) (0, 0) _ rfl (HB.out.put _) Tryz.underlying29 rfl asize29) rfl ⟨rfl, row_below BW.out (by omega) _⟩
  have t4 : (k == 4) = false := by simpa using x4
  by_cases x5 : k = 5
  case pos =>
    subst x5
    have hp : p = ⟨5, a, 0, q, 0⟩ := by have h' : (plainR ⟨5, a, b, q, v⟩).1 = p := congrArg Prod.fst h.out; rw [← h']; simp [plainR]
    have ht : t = true := by have h' : (plainR ⟨5, a, b, q, v⟩).2 = t := congrArg Prod.snd h.out; rw [← h']; simp [plainR]
    subst hp ht
    clear h
    obtain ⟨W, hW⟩ : ∃ W, Hid ((w.alloc (.cells (oc ⟨5, a, b, q, v⟩) 29)).alloc (.cells (#[.int .i64 0, .int .i64 0, .int .i64 0, .int .i64 0, .int .i64 0]) 29) = W) := ⟨_, rfl⟩
    have BW : Hid (Below w.heap.size w W) := by show Below _ _ _; rw [← hW.out]; exact (((Below.refl _ _).alloc (Nat.le_refl _) _).alloc (by simp) _)
    have HA : Hid (Bx W (w.heap.size) (oc ⟨5, a, b, q, v⟩) 29) := by
      have h := ((Bx.new w (oc ⟨5, a, b, q, v⟩) 29).alloc (.cells (#[.int .i64 0, .int .i64 0, .int .i64 0, .int .i64 0, .int .i64 0]) 29))
      show Bx _ _ _ _
      rw [← hW.out]
      simpa using h
    have HB : Hid (Bx W (w.heap.size + 1) (#[.int .i64 0, .int .i64 0, .int .i64 0, .int .i64 0, .int .i64 0]) 29) := by
      have h := (Bx.new (w.alloc (.cells (oc ⟨5, a, b, q, v⟩) 29)) (#[.int .i64 0, .int .i64 0, .int .i64 0, .int .i64 0, .int .i64 0]) 29)
      show Bx _ _ _ _
      rw [← hW.out]
      simpa using h
    go_enter Tryz.func25, Tryz.ntmps25
    go_upto_region 1 with fail
    have hW' := hW.out
    rw [hW']
    clear hW hW'
    have a0 : W.cell? ⟨w.heap.size, 0, none⟩ = some (.int .i64 (5)) := HA.out.cells 0
    have a1 : W.cell? ⟨w.heap.size, 1, none⟩ = some (.int .i64 a) := HA.out.cells 1
    have a2 : W.cell? ⟨w.heap.size, 2, none⟩ = some (.int .i64 b) := HA.out.cells 2
    have a3 : W.cell? ⟨w.heap.size, 3, none⟩ = some (.int .i64 q) := HA.out.cells 3
    have a4 : W.cell? ⟨w.heap.size, 4, none⟩ = some (.int .i64 v) := HA.out.cells 4
    go_wp2_with (((with_reducible refine stO (.tmp 2) (.tmp 50) (w.heap.size + 1) ?_ ⟨5, a, 0, q, 0⟩ ?_ (#[.int .i64 0, .int .i64 0, .int .i64 0, .int .i64 0, .int .i64 0]) ?_ ?_ ?_); (exact rfl); (exact rfl); (exact HB.out); (exact rfl)))
    exact bodyPost_ret (row_two rfl _ _ (w.heap.size + 1) 29 (oc ⟨5, a, 0, q, 0⟩) (0, 0) _ rfl (HB.out.put _) Tryz.underlying29 rfl asize29) rfl ⟨rfl, row_below BW.out (by omega) _⟩
  have t5 : (k == 5) = false := by simpa using x5
  by_cases x6 : k = 6
  case pos =>
    subst x6
    have hp : p = ⟨6, a, 0, 0, 0⟩ := by have h' : (plainR ⟨6, a, b, q, v⟩).1 = p := congrArg Prod.fst h.out; rw [← h']; simp [plainR]
    have ht : t = true := by have h' : (plainR ⟨6, a, b, q, v⟩).2 = t := congrArg Prod.snd h.out; rw [← h']; simp [plainR]
    subst hp ht
    clear h
    obtain ⟨W, hW⟩ : ∃ W, Hid ((w.alloc (.cells (oc ⟨6, a, b, q, v⟩) 29)).alloc (.cells (#[.int .i64 0, .int .i64 0, .int .i64 0, .int .i64 0, .int .i64 0]) 29) = W) := ⟨_, rfl⟩
    have BW : Hid (Below w.heap.size w W) := by show Below _ _ _; rw [← hW.out]; exact (((Below.refl _ _).alloc (Nat.le_refl _) _).alloc (by simp) _)
    have HA : Hid (Bx W (w.heap.size) (oc ⟨6, a, b, q, v⟩) 29) := by
      have h := ((Bx.new w (oc ⟨6, a, b, q, v⟩) 29).alloc (.cells (#[.int .i64 0, .int .i64 0, .int .i64 0, .int .i64 0, .int .i64 0]) 29))
      show Bx _ _ _ _
      rw [← hW.out]
      simpa using h
    have HB : Hid (Bx W (w.heap.size + 1) (#[.int .i64 0, .int .i64 0, .int .i64 0, .int .i64 0, .int .i64 0]) 29) := by
      have h := (Bx.new (w.alloc (.cells (oc ⟨6, a, b, q, v⟩) 29)) (#[.int .i64 0, .int .i64 0, .int .i64 0, .int .i64 0, .int .i64 0]) 29)
      show Bx _ _ _ _
      rw [← hW.out]
      simpa using h
    go_enter Tryz.func25, Tryz.ntmps25
    go_upto_region 1 with fail
    have hW' := hW.out
    rw [hW']
    clear hW hW'
    have a0 : W.cell? ⟨w.heap.size, 0, none⟩ = some (.int .i64 (6)) := HA.out.cells 0
    have a1 : W.cell? ⟨w.heap.size, 1, none⟩ = some (.int .i64 a) := HA.out.cells 1
    have a2 : W.cell? ⟨w.heap.size, 2, none⟩ = some (.int .i64 b) := HA.out.cells 2
    have a3 : W.cell? ⟨w.heap.size, 3, none⟩ = some (.int .i64 q) := HA.out.cells 3
    have a4 : W.cell? ⟨w.heap.size, 4, none⟩ = some (.int .i64 v) := HA.out.cells 4
    go_wp2_with (((with_reducible refine stO (.tmp 2) (.tmp 30) (w.heap.size + 1) ?_ ⟨6, a, 0, 0, 0⟩ ?_ (#[.int .i64 0, .int .i64 0, .int .i64 0, .int .i64 0, .int .i64 0]) ?_ ?_ ?_); (exact rfl); (exact rfl); (exact HB.out); (exact rfl)))
    exact bodyPost_ret (row_two rfl _ _ (w.heap.size + 1) 29 (oc ⟨6, a, 0, 0, 0⟩) (0, 0) _ rfl (HB.out.put _) Tryz.underlying29 rfl asize29) rfl ⟨rfl, row_below BW.out (by omega) _⟩
  have t6 : (k == 6) = false := by simpa using x6
  by_cases x7 : k = 7
  case pos =>
    subst x7
    have hp : p = ⟨7, a, 0, 0, 0⟩ := by have h' : (plainR ⟨7, a, b, q, v⟩).1 = p := congrArg Prod.fst h.out; rw [← h']; simp [plainR]
    have ht : t = true := by have h' : (plainR ⟨7, a, b, q, v⟩).2 = t := congrArg Prod.snd h.out; rw [← h']; simp [plainR]
    subst hp ht
    clear h
    obtain ⟨W, hW⟩ : ∃ W, Hid ((w.alloc (.cells (oc ⟨7, a, b, q, v⟩) 29)).alloc (.cells (#[.int .i64 0, .int .i64 0, .int .i64 0, .int .i64 0, .int .i64 0]) 29) = W) := ⟨_, rfl⟩
    have BW : Hid (Below w.heap.size w W) := by show Below _ _ _; rw [← hW.out]; exact (((Below.refl _ _).alloc (Nat.le_refl _) _).alloc (by simp) _)
    have HA : Hid (Bx W (w.heap.size) (oc ⟨7, a, b, q, v⟩) 29) := by
      have h := ((Bx.new w (oc ⟨7, a, b, q, v⟩) 29).alloc (.cells (#[.int .i64 0, .int .i64 0, .int .i64 0, .int .i64 0, .int .i64 0]) 29))
      show Bx _ _ _ _
      rw [← hW.out]
      simpa using h
    have HB : Hid (Bx W (w.heap.size + 1) (#[.int .i64 0, .int .i64 0, .int .i64 0, .int .i64 0, .int .i64 0]) 29) := by
      have h := (Bx.new (w.alloc (.cells (oc ⟨7, a, b, q, v⟩) 29)) (#[.int .i64 0, .int .i64 0, .int .i64 0, .int .i64 0, .int .i64 0]) 29)
      show Bx _ _ _ _
      rw [← hW.out]
      simpa using h
    go_enter Tryz.func25, Tryz.ntmps25
    go_upto_region 1 with fail
    have hW' := hW.out
    rw [hW']
    clear hW hW'
    have a0 : W.cell? ⟨w.heap.size, 0, none⟩ = some (.int .i64 (7)) := HA.out.cells 0
    have a1 : W.cell? ⟨w.heap.size, 1, none⟩ = some (.int .i64 a) := HA.out.cells 1
    have a2 : W.cell? ⟨w.heap.size, 2, none⟩ = some (.int .i64 b) := HA.out.cells 2
    have a3 : W.cell? ⟨w.heap.size, 3, none⟩ = some (.int .i64 q) := HA.out.cells 3
    have a4 : W.cell? ⟨w.heap.size, 4, none⟩ = some (.int .i64 v) := HA.out.cells 4
    go_wp2_with (((with_reducible refine stO (.tmp 2) (.tmp 30) (w.heap.size + 1) ?_ ⟨7, a, 0, 0, 0⟩ ?_ (#[.int .i64 0, .int .i64 0, .int .i64 0, .int .i64 0, .int .i64 0]) ?_ ?_ ?_); (exact rfl); (exact rfl); (exact HB.out); (exact rfl)))
    exact bodyPost_ret (row_two rfl _ _ (w.heap.size + 1) 29 (oc ⟨7, a, 0, 0, 0⟩) (0, 0) _ rfl (HB.out.put _) Tryz.underlying29 rfl asize29) rfl ⟨rfl, row_below BW.out (by omega) _⟩
  have t7 : (k == 7) = false := by simpa using x7
  by_cases x8 : k = 8
  case pos =>
    subst x8
    have hp : p = ⟨8, a, 0, 0, 0⟩ := by have h' : (plainR ⟨8, a, b, q, v⟩).1 = p := congrArg Prod.fst h.out; rw [← h']; simp [plainR]
    have ht : t = true := by have h' : (plainR ⟨8, a, b, q, v⟩).2 = t := congrArg Prod.snd h.out; rw [← h']; simp [plainR]
    subst hp ht
    clear h
    obtain ⟨W, hW⟩ : ∃ W, Hid ((w.alloc (.cells (oc ⟨8, a, b, q, v⟩) 29)).alloc (.cells (#[.int .i64 0, .int .i64 0, .int .i64 0, .int .i64 0, .int .i64 0]) 29) = W) := ⟨_, rfl⟩
    have BW : Hid (Below w.heap.size w W) := by show Below _ _ _; rw [← hW.out]; exact (((Below.refl _ _).alloc (Nat.le_refl _) _).alloc (by simp) _)
    have HA : Hid (Bx W (w.heap.size) (oc ⟨8, a, b, q, v⟩) 29) := by
      have h := ((Bx.new w (oc ⟨8, a, b, q, v⟩) 29).alloc (.cells (#[.int .i64 0, .int .i64 0, .int .i64 0, .int .i64 0, .int .i64 0]) 29))
      show Bx _ _ _ _
      rw [← hW.out]
      simpa using h
    have HB : Hid (Bx W (w.heap.size + 1) (#[.int .i64 0, .int .i64 0, .int .i64 0, .int .i64 0, .int .i64 0]) 29) := by
      have h := (Bx.new (w.alloc (.cells (oc ⟨8, a, b, q, v⟩) 29)) (#[.int .i64 0, .int .i64 0, .int .i64 0, .int .i64 0, .int .i64 0]) 29)
      show Bx _ _ _ _
      rw [← hW.out]
      simpa using h
    go_enter Tryz.func25, Tryz.ntmps25
    go_upto_region 1 with fail
    have hW' := hW.out
    rw [hW']
    clear hW hW'
    have a0 : W.cell? ⟨w.heap.size, 0, none⟩ = some (.int .i64 (8)) := HA.out.cells 0
    have a1 : W.cell? ⟨w.heap.size, 1, none⟩ = some (.int .i64 a) := HA.out.cells 1
    have a2 : W.cell? ⟨w.heap.size, 2, none⟩ = some (.int .i64 b) := HA.out.cells 2
    have a3 : W.cell? ⟨w.heap.size, 3, none⟩ = some (.int .i64 q) := HA.out.cells 3
    have a4 : W.cell? ⟨w.heap.size, 4, none⟩ = some (.int .i64 v) := HA.out.cells 4
    go_wp2_with (((with_reducible refine stO (.tmp 2) (.tmp 30) (w.heap.size + 1) ?_ ⟨8, a, 0, 0, 0⟩ ?_ (#[.int .i64 0, .int .i64 0, .int .i64 0, .int .i64 0, .int .i64 0]) ?_ ?_ ?_); (exact rfl); (exact rfl); (exact HB.out); (exact rfl)))
    exact bodyPost_ret (row_two rfl _ _ (w.heap.size + 1) 29 (oc ⟨8, a, 0, 0, 0⟩) (0, 0) _ rfl (HB.out.put _) Tryz.underlying29 rfl asize29) rfl ⟨rfl, row_below BW.out (by omega) _⟩
  have t8 : (k == 8) = false := by simpa using x8
  by_cases x9 : k = 9
  case pos =>
    subst x9
    have hp : p = ⟨9, a, b, 0, 0⟩ := by have h' : (plainR ⟨9, a, b, q, v⟩).1 = p := congrArg Prod.fst h.out; rw [← h']; simp [plainR]
    have ht : t = true := by have h' : (plainR ⟨9, a, b, q, v⟩).2 = t := congrArg Prod.snd h.out; rw [← h']; simp [plainR]
    subst hp ht
    clear h
    obtain ⟨W, hW⟩ : ∃ W, Hid ((w.alloc (.cells (oc ⟨9, a, b, q, v⟩) 29)).alloc (.cells (#[.int .i64 0, .int .i64 0, .int .i64 0, .int .i64 0, .int .i64 0]) 29) = W) := ⟨_, rfl⟩
    have BW : Hid (Below w.heap.size w W) := by show Below _ _ _; rw [← hW.out]; exact (((Below.refl _ _).alloc (Nat.le_refl _) _).alloc (by simp) _)
    have HA : Hid (Bx W (w.heap.size) (oc ⟨9, a, b, q, v⟩) 29) := by
      have h := ((Bx.new w (oc ⟨9, a, b, q, v⟩) 29).alloc (.cells (#[.int .i64 0, .int .i64 0, .int .i64 0, .int .i64 0, .int .i64 0]) 29))
      show Bx _ _ _ _
      rw [← hW.out]
      simpa using h
    have HB : Hid (Bx W (w.heap.size + 1) (#[.int .i64 0, .int .i64 0, .int .i64 0, .int .i64 0, .int .i64 0]) 29) := by
      have h := (Bx.new (w.alloc (.cells (oc ⟨9, a, b, q, v⟩) 29)) (#[.int .i64 0, .int .i64 0, .int .i64 0, .int .i64 0, .int .i64 0]) 29)
      show Bx _ _ _ _
      rw [← hW.out]
      simpa using h
    go_enter Tryz.func25, Tryz.ntmps25
    go_upto_region 1 with fail
    have hW' := hW.out
    rw [hW']
    clear hW hW'
    have a0 : W.cell? ⟨w.heap.size, 0, none⟩ = some (.int .i64 (9)) := HA.out.cells 0
    have a1 : W.cell? ⟨w.heap.size, 1, none⟩ = some (.int .i64 a) := HA.out.cells 1
    have a2 : W.cell? ⟨w.heap.size, 2, none⟩ = some (.int .i64 b) := HA.out.cells 2
    have a3 : W.cell? ⟨w.heap.size, 3, none⟩ = some (.int .i64 q) := HA.out.cells 3
    have a4 : W.cell? ⟨w.heap.size, 4, none⟩ = some (.int .i64 v) := HA.out.cells 4
    go_wp2_with (((with_reducible refine stO (.tmp 2) (.tmp 20) (w.heap.size + 1) ?_ ⟨9, a, b, 0, 0⟩ ?_ (#[.int .i64 0, .int .i64 0, .int .i64 0, .int .i64 0, .int .i64 0]) ?_ ?_ ?_); (exact rfl); (exact rfl); (exact HB.out); (exact rfl)))
    exact bodyPost_ret (row_two rfl _ _ (w.heap.size + 1) 29 (oc ⟨9, a, b, 0, 0⟩) (0, 0) _ rfl (HB.out.put _) Tryz.underlying29 rfl asize29) rfl ⟨rfl, row_below BW.out (by omega) _⟩
  have t9 : (k == 9) = false := by simpa using x9
  have hp : p = ⟨0, 0, 0, 0, 0⟩ := by have h' : (plainR ⟨k, a, b, q, v⟩).1 = p := congrArg Prod.fst h.out; rw [← h']; simp [plainR, x1, x2, x3, x4, x5, x6, x7, x8, x9, noO]
  have ht : t = false := by have h' : (plainR ⟨k, a, b, q, v⟩).2 = t := congrArg Prod.snd h.out; rw [← h']; simp [plainR, x1, x2, x3, x4, x5, x6, x7, x8, x9]
  subst hp ht
  clear h
  clear x1 x2 x3 x4 x5 x6 x7 x8 x9
  obtain ⟨W, hW⟩ : ∃ W, Hid ((w.alloc (.cells (oc ⟨k, a, b, q, v⟩) 29)).alloc (.cells (#[.int .i64 0, .int .i64 0, .int .i64 0, .int .i64 0, .int .i64 0]) 29) = W) := ⟨_, rfl⟩
  have BW : Hid (Below w.heap.size w W) := by show Below _ _ _; rw [← hW.out]; exact (((Below.refl _ _).alloc (Nat.le_refl _) _).alloc (by simp) _)
  have HA : Hid (Bx W (w.heap.size) (oc ⟨k, a, b, q, v⟩) 29) := by
    have h := ((Bx.new w (oc ⟨k, a, b, q, v⟩) 29).alloc (.cells (#[.int .i64 0, .int .i64 0, .int .i64 0, .int .i64 0, .int .i64 0]) 29))
    show Bx _ _ _ _
    rw [← hW.out]
    simpa using h
  have HB : Hid (Bx W (w.heap.size + 1) (#[.int .i64 0, .int .i64 0, .int .i64 0, .int .i64 0, .int .i64 0]) 29) := by
    have h := (Bx.new (w.alloc (.cells (oc ⟨k, a, b, q, v⟩) 29)) (#[.int .i64 0, .int .i64 0, .int .i64 0, .int .i64 0, .int .i64 0]) 29)
    show Bx _ _ _ _
    rw [← hW.out]
    simpa using h
  go_enter Tryz.func25, Tryz.ntmps25
  go_upto_region 1 with fail
  have hW' := hW.out
  rw [hW']
  clear hW hW'
  have a0 : W.cell? ⟨w.heap.size, 0, none⟩ = some (.int .i64 (k)) := HA.out.cells 0
  have a1 : W.cell? ⟨w.heap.size, 1, none⟩ = some (.int .i64 a) := HA.out.cells 1
  have a2 : W.cell? ⟨w.heap.size, 2, none⟩ = some (.int .i64 b) := HA.out.cells 2
  have a3 : W.cell? ⟨w.heap.size, 3, none⟩ = some (.int .i64 q) := HA.out.cells 3
  have a4 : W.cell? ⟨w.heap.size, 4, none⟩ = some (.int .i64 v) := HA.out.cells 4
  go_wp2_with (((with_reducible refine stO (.tmp 2) (.tmp 51) (w.heap.size + 1) ?_ ⟨0, 0, 0, 0, 0⟩ ?_ (#[.int .i64 0, .int .i64 0, .int .i64 0, .int .i64 0, .int .i64 0]) ?_ ?_ ?_); (exact rfl); (exact rfl); (exact HB.out); (exact rfl)))
  exact bodyPost_ret (row_two rfl _ _ (w.heap.size + 1) 29 (oc ⟨0, 0, 0, 0, 0⟩) (0, 0) _ rfl (HB.out.put _) Tryz.underlying29 rfl asize29) rfl ⟨rfl, row_below BW.out (by omega) _⟩

end Go.Proofs.YtiiadkjiofkonaaGreat
