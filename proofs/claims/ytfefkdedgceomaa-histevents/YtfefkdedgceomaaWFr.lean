/- A result's own copy. -/
import Derived.Test.YtfefkdedgceomaaWF
import Derived.WalkKit
import Derived.Below
import Derived.Deep.QuietTactic
import Derived.BigQuiet
import Derived.Deep.AppendLies
import Derived.Deep.RegionHeld3
import Derived.Deep.DeepCutAuto
import Derived.Shelf.Abstract
import Derived.Laws.Rows
namespace Go.Proofs.Ytfefkdedgceomaa
open Go.RowKit
set_option linter.unusedVariables false
set_option maxRecDepth 100000

set_option maxHeartbeats 8000000 in
theorem fresh_any (r : RL) (s : S3) (w : World) (p : RSee w w.heap.size s r) (F : FewR r) :
    Calls Try.prog 25 #[.agg (rc r s)] w fun e w' => ∃ s', e = .returned (.agg (rc r s')) ∧ Hid (RSee w' w'.heap.size s' r) ∧ Hid (∀ b, HasR s' b → w.heap.size ≤ b) ∧ Hid (Below w.heap.size w w') := by
  obtain ⟨W, hW⟩ : ∃ W, Hid ((w.alloc (.cells (rc r s) 37)).alloc (.cells (rc noR noS3) 37) = W) := ⟨_, rfl⟩
  have BW : Hid (Below w.heap.size w W) := by show Below _ _ _; rw [← hW.out]; exact (((Below.refl _ _).alloc (Nat.le_refl _) _).alloc (by simp) _)
  have HA : Hid (Bx W (w.heap.size) (rc r s) 37) := by
    have h := ((Bx.new w (rc r s) 37).alloc (.cells (rc noR noS3) 37))
    show Bx _ _ _ _
    rw [← hW.out]
    simpa using h
  have HB : Hid (Bx W (w.heap.size + 1) (rc noR noS3) 37) := by
    have h := (Bx.new (w.alloc (.cells (rc r s) 37)) (rc noR noS3) 37)
    show Bx _ _ _ _
    rw [← hW.out]
    simpa using h
  have HZ : Hid (W.heap.size = w.heap.size + 2) := by show _ = _; rw [← hW.out]; simp
  have S1 := hide (p.step BW.out)
  have fP : Hid (s.P.n ≤ 1000) := by have := p.1.len; have := F.P; show _ ≤ _; omega
  have fO : Hid (s.O.n ≤ 1000) := by have := p.2.1.len; have := F.O; show _ ≤ _; omega
  have fI : Hid (s.I.n ≤ 1000) := by have := p.2.2.len; have := F.I; show _ ≤ _; omega
  have HF := hide F
  clear p F
  go_enter Try.func25, Try.ntmps25
  go_upto_region 1 with fail
  have hW' := hW.out
  have HB' : Hid (Bx W (w.heap.size + 1) (rc noR noS3) 37) := HB
  rw [show #[Value.int IntKind.i64 0, Value.int IntKind.i64 0, Value.slice none 0 0, Value.slice none 0 0, Value.slice none 0 0] = rc noR noS3 from rfl, hW']
  clear hW hW' HB
  have D0 := hide ((Below.refl W.heap.size W).drew)
  have S0 := hide (S1.out.step D0.out)
  have a2 : W.cell? ⟨w.heap.size, 2, none⟩ = some (.slice s.P.A s.P.n s.P.c) := HA.out.cells 2
  have a3 : W.cell? ⟨w.heap.size, 3, none⟩ = some (.slice s.O.A s.O.n s.O.c) := HA.out.cells 3
  have a4 : W.cell? ⟨w.heap.size, 4, none⟩ = some (.slice s.I.A s.I.n s.I.c) := HA.out.cells 4
  have C1 := hide (cloneP_any s.P.A s.P.n s.P.c r.P W.drew S0.out.1.1 S0.out.1.2 fP.out)
  have CE : Hid (∀ u A n c, Kx W u s A n c → Calls Try.prog 34 #[.slice A n c] u fun e u' => ∃ A' n' c', e = .returned (.slice A' n' c') ∧ Kt W u u' s r A n c A' n' c') := kx_call S1.out fO.out fI.out
  have KB0 := hide (Kb.start HA.out HB'.out HZ.out)
  go_region_with (first | (go_at_call 33; refine C1.out.mono ?_; rintro e v1 ⟨A1, n1, c1, rfl, z1, r1, b1⟩; have B1 := hide (D0.out.trans b1); have T1 := hide (clone_told r1 D0.out); have KB1 := hide (KB0.out.step B1.out); have a13 := KB1.out.a3; have a14 := KB1.out.a4; clear r1 b1 z1) | (go_at_call 34; refine (CE.out _ _ _ _ ?_).mono ?_; (exact Kx.o B1.out); rintro e v2 ⟨A2, n2, c2, rfl, k2⟩; have X2 := hide k2; have B2 := hide (B1.out.trans (k2.bel.mono B1.out.size)); have KB2 := hide (KB1.out.step (k2.bel)); have a24 := KB2.out.a4; clear k2) | (go_at_call 34; refine (CE.out _ _ _ _ ?_).mono ?_; (exact Kx.i B2.out); rintro e v3 ⟨A3, n3, c3, rfl, k3⟩; have X3 := hide k3; have B3 := hide (B2.out.trans (k3.bel.mono B2.out.size)); have KB3 := hide (KB2.out.step (k3.bel)); have y2 := KB3.out.a2; have y3 := KB3.out.a3; have y4 := KB3.out.a4; have f2 := KB3.out.fr 2; have f3 := KB3.out.fr 3; have f4 := KB3.out.fr 4; clear k3))
  all_goals (have R : Hid (RSee v3 v3.heap.size ⟨⟨A1, n1, c1⟩, ⟨A2, n2, c2⟩, ⟨A3, n3, c3⟩⟩ r) := fresh_reads T1.out.1 X2.out X3.out S1.out B1.out B2.out HF.out)
  all_goals (have hs : Hid (∀ b, HasR ⟨⟨A1, n1, c1⟩, ⟨A2, n2, c2⟩, ⟨A3, n3, c3⟩⟩ b → w.heap.size + 2 ≤ b) := by rw [← HZ.out]; exact fresh_has T1.out.2 X2.out X3.out)
  all_goals (have HU := hide (fresh_end KB3.out.A KB3.out.B (BW.out.trans (B3.out.mono BW.out.size)) R.out hs.out _ rfl))
  all_goals (go_wp2_with (first | ((with_reducible refine ld37 (.tmp 1) w.heap.size 0 ?_ ?_ r ⟨⟨A1, n1, c1⟩, ⟨A2, n2, c2⟩, ⟨A3, n3, c3⟩⟩ ?_ ?_); (exact rfl); (exact rfl); (exact HU.out.1.lies)) | ((with_reducible refine st37 (.tmp 2) (.tmp 15) (w.heap.size + 1) ?_ r ⟨⟨A1, n1, c1⟩, ⟨A2, n2, c2⟩, ⟨A3, n3, c3⟩⟩ ?_ (rc noR noS3) ?_ rfl ?_); (exact rfl); (exact rfl); (exact HU.out.2.1))))
  all_goals (exact bodyPost_ret (results_cell_row rfl _ _ (w.heap.size + 1) 37 _ (0, 0) _ rfl (HU.out.2.1.put _) Try.underlying37 rfl size37) rfl ⟨_, rfl, HU.out.2.2.2, (fun b hb => by have := hs.out b hb; omega), HU.out.2.2.1⟩)

end Go.Proofs.Ytfefkdedgceomaa
