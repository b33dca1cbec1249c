/- The laws' example. -/
import Derived.Test.YtfefkdedgceomaaWL
import Derived.WalkKit
import Derived.Below
import Derived.Deep.QuietTactic
import Derived.BigQuiet
import Derived.Deep.AppendLies
import Derived.Deep.RegionHeld3
import Derived.Deep.DeepCutAuto
import Derived.Shelf.Abstract
import Derived.Laws.Rows
namespace Go.Proofs.Ytfefkdedgceomaa
open Go.RowKit Go.Maps
set_option linter.unusedVariables false
set_option maxRecDepth 100000

theorem live_cells {u : World} {B n c : Nat} {A : Option Addr} {Z : List CZ} (O : Own u B ⟨A, n, c⟩ Z) (E : Z.map (·.1) = [⟨1, noO, 0, 2, noR⟩, ⟨2, noO, 1, -1, noR⟩]) :
    n = 2 ∧ ∃ g, A = some ⟨g, 0, none⟩ ∧ u.cell? ⟨g, 6, none⟩ = some (.int .i64 0) ∧ u.cell? ⟨g, 7, none⟩ = some (.int .i64 2) ∧ u.cell? ⟨g, 19, none⟩ = some (.int .i64 1) ∧ u.cell? ⟨g, 20, none⟩ = some (.int .i64 (-1)) := by
  have hl : Z.length = 2 := by have := congrArg List.length E; simpa using this
  have h0 : (Z.getD 0 noCZ).1 = ⟨1, noO, 0, 2, noR⟩ := by rw [← getD_map Z 0 (by omega), E]; rfl
  have h1 : (Z.getD 1 noCZ).1 = ⟨2, noO, 1, -1, noR⟩ := by rw [← getD_map Z 1 (by omega), E]; rfl
  obtain ⟨g, eA, _, _, L0⟩ := O.at_ (k := 0) (by omega)
  obtain ⟨g', eA', _, _, L1⟩ := O.at_ (k := 1) (by omega)
  dsimp only at eA eA'
  rw [eA] at eA'
  simp only [Option.some.injEq, Addr.mk.injEq, and_true] at eA'
  subst eA'
  rw [h0] at L0
  rw [h1] at L1
  exact ⟨O.many.trans hl, g, eA, L0.c6, L0.c7, L1.c6, L1.c7⟩
set_option maxHeartbeats 4000000 in
theorem live_any (w : World) : Calls Try.prog 9 #[] w (Drew (.bool true) w) := by
  have HC := hide (calls_any ⟨some ⟨w.heap.size, 0, none⟩, 3, 3⟩ liveL (w.alloc (.cells arr36 45)) (live_evs w) (by show 3 ≤ 1000; omega) (fun i hi => by
    have : (liveL.getD i noEv).r = noR := by
      match i, hi with
      | 0, _ | 1, _ | 2, _ => rfl
    rw [this]; exact FewR.nil) (fun i hi => by
      match i, hi with
      | 0, _ | 1, _ | 2, _ => rfl))
  go_enter Try.func9, Try.ntmps9
  go_wp2_with fail
  refine HC.out.mono ?_
  rintro e u1 ⟨⟨A, n, c⟩, Z, rfl, O, E, hb⟩
  have E1 : Hid (resE liveL = 0) := resE_yes live_may
  have E2 : Hid (Z.map (·.1) = [⟨1, noO, 0, 2, noR⟩, ⟨2, noO, 1, -1, noR⟩]) := E.out.trans live_calls
  have HB : Hid (Below w.heap.size w u1) := ((Below.refl _ _).alloc (Nat.le_refl _) _).trans (hb.out.mono (by simp))
  obtain ⟨h2, g, eA, c6, c7, c19, c20⟩ := live_cells O.out E2.out
  subst h2 eA
  rw [E1.out]
  clear E E2 O hb HC
  go_wp2
  go_ret
  exact ⟨rfl, HB.out⟩

end Go.Proofs.Ytfefkdedgceomaa
