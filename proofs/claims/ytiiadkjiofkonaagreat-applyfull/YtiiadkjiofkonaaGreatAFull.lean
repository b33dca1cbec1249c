/- What an operation comes to is not that it is full; whether its own result fits it, and whether that it is full does. Conditions: a small graph. -/
import Derived.Test.YtiiadkjiofkonaaGreatAB4
import Derived.Test.YtiiadkjiofkonaaGreatAB5
import Derived.WalkKit
import Derived.Below
import Derived.Deep.QuietTactic
import Derived.BigQuiet
import Derived.Deep.AppendLies
import Derived.Deep.RegionHeld3
import Derived.Deep.DeepCutAuto
import Derived.Shelf.Abstract
namespace Go.Proofs.YtiiadkjiofkonaaGreat
open Go.RowKit
set_option linter.unusedVariables false
set_option maxRecDepth 100000

theorem do_not_full (c3 c4 : Int) (G : GL) (o : O5) : (doR c3 c4 G o).2.er ≠ 3 := by
  show (inR c3 c4 G o).2.er ≠ 3
  unfold inR
  split
  · unfold addR; split <;> simp
  split
  · unfold linkR; split
    · simp
    · split <;> simp
  split
  · unfold cutR; split <;> simp
  split
  · unfold setR; split <;> simp
  split
  · unfold delR; split <;> simp
  split
  · unfold getR; split <;> simp
  split
  · unfold nearR; split <;> simp
  split
  · unfold dropR; split <;> simp
  split
  · unfold fuseR; split
    · simp
    · split <;> simp
  simp
theorem fits_own (c0 c1 c2 c3 c4 : Int) (v : Gv) (G R : GL) (o : O5) (r : RL) (z : S3) (w : World) (S : Sees w w.heap.size v G) (F : Few 140 G) (hwf : (Lit.int .i64 o.k).wf = true) (SR : RSee w w.heap.size z r) (MR : Most r) (hD : Hid (doR c3 c4 G o = (R, r))) :
    Calls Tryz.prog 18 #[.agg (fc c0 c1 c2 c3 c4), .agg (gc v), .agg (oc o), .agg (rc r z)] w fun e w' => ∃ v', e = .returned (.tuple #[.agg (gc v'), .bool true]) ∧ Hid (Has w' w.heap.size v' R) ∧ Hid (Below w.heap.size w w') := by
  obtain ⟨f, hf⟩ := bool_of (r = full)
  refine (fits_any11 c0 c1 c2 c3 c4 v G o r z true f w S F hwf SR MR ⟨fun _ => by rw [hD.out], fun _ => rfl⟩ hf).mono ?_
  rintro e u ⟨v', rfl, hm, hb⟩
  rw [hD.out] at hm
  exact ⟨v', rfl, hm, hb⟩
theorem fits_full (c0 c1 c2 c3 c4 : Int) (v : Gv) (G : GL) (o : O5) (b : Bool) (w : World) (S : Sees w w.heap.size v G) (F : Few 140 G) (hwf : (Lit.int .i64 o.k).wf = true) (hb : Hid ((takesR c3 c4 G o != 0) = b)) :
    Calls Tryz.prog 18 #[.agg (fc c0 c1 c2 c3 c4), .agg (gc v), .agg (oc o), .agg (rc full noS3)] w fun e w' => ∃ v', e = .returned (.tuple #[.agg (gc v'), .bool b]) ∧ Hid (Has w' w.heap.size v' G) ∧ Hid (Below w.heap.size w w') := by
  refine (fits_any11 c0 c1 c2 c3 c4 v G o full noS3 false true w S F hwf (RSee.nil _ _) Most.full ⟨fun h => (by cases h), fun h => absurd (show (doR c3 c4 G o).2.er = 3 by rw [← h]; rfl) (do_not_full c3 c4 G o)⟩ ⟨fun _ => rfl, fun _ => rfl⟩).mono ?_
  rintro e u ⟨v', rfl, hm, hb'⟩
  have h := hb.out
  subst h
  exact ⟨v', rfl, hm, hb'⟩

end Go.Proofs.YtiiadkjiofkonaaGreat
