/- Whether two results, and two calls, are the same: the code and the document. Conditions: lists that are not great. -/
import Derived.Test.YtfefkdedgceomaaWEq
import Derived.WalkKit
import Derived.Below
import Derived.Deep.QuietTactic
import Derived.BigQuiet
import Derived.Deep.AppendLies
import Derived.Deep.RegionHeld3
import Derived.Deep.DeepCutAuto
import Derived.Shelf.Abstract
namespace Go.Proofs.Ytfefkdedgceomaa
open Go.RowKit
set_option linter.unusedVariables false
set_option maxRecDepth 100000

/-- Lists that are not great. -/
structure FewR (r : RL) : Prop where
  P : r.P.length ≤ 1000
  O : r.O.length ≤ 1000
  I : r.I.length ≤ 1000
/-- Lists that a memory can hold. -/
structure MostR (r : RL) : Prop where
  P : r.P.length ≤ 9223372036854775807
  O : r.O.length ≤ 9223372036854775807
  I : r.I.length ≤ 9223372036854775807
theorem FewR.most {r : RL} (F : FewR r) : MostR r := ⟨by have := F.P; omega, by have := F.O; omega, by have := F.I; omega⟩
theorem FewR.nil : FewR noR := ⟨by simp [noR], by simp [noR], by simp [noR]⟩
theorem few_P {u : World} {B : Nat} {s : S3} {r : RL} (S : RSee u B s r) (F : MostR r) : s.P.n ≤ 9223372036854775807 := by have := S.1.len; have := F.P; omega
theorem few_O {u : World} {B : Nat} {s : S3} {r : RL} (S : RSee u B s r) (F : MostR r) : s.O.n ≤ 9223372036854775807 := by have := S.2.1.len; have := F.O; omega
theorem few_I {u : World} {B : Nat} {s : S3} {r : RL} (S : RSee u B s r) (F : MostR r) : s.I.n ≤ 9223372036854775807 := by have := S.2.2.len; have := F.I; omega

set_option maxHeartbeats 2000000 in
theorem same30 (r r' : RL) (s s' : S3) (q : Bool) (w : World) (p : RSee w w.heap.size s r) (p' : RSee w w.heap.size s' r') (F : MostR r) (F' : MostR r') (hq : Hid (q = true ↔ r = r')) :
    Calls Try.prog 30 #[.agg (rc r s), .agg (rc r' s')] w (Drew (.bool q) w) := by
  obtain ⟨W, hW⟩ : ∃ W, Hid ((w.alloc (.cells (rc r s) 37)).alloc (.cells (rc r' s') 37) = W) := ⟨_, rfl⟩
  have BW : Hid (Below w.heap.size w W) := by show Below _ _ _; rw [← hW.out]; exact (((Below.refl _ _).alloc (Nat.le_refl _) _).alloc (by simp) _)
  have HA : Hid (Bx W (w.heap.size) (rc r s) 37) := by
    have h := ((Bx.new w (rc r s) 37).alloc (.cells (rc r' s') 37))
    show Bx _ _ _ _
    rw [← hW.out]
    simpa using h
  have HB : Hid (Bx W (w.heap.size + 1) (rc r' s') 37) := by
    have h := (Bx.new (w.alloc (.cells (rc r s) 37)) (rc r' s') 37)
    show Bx _ _ _ _
    rw [← hW.out]
    simpa using h
  have S1 := hide (p.step BW.out)
  have S2 := hide (p'.step BW.out)
  have F1 := hide F
  have F2 := hide F'
  clear p p' F F'
  by_cases x0 : r.er = r'.er
  case neg =>
    have hres : Hid (q = false) := by show _ = _; cases q; rfl; exact absurd (congrArg RL.er (hq.out.1 rfl)) x0
    have t0 : (r.er == r'.er) = false := by simpa using x0
    clear x0 hq
    have a0 : ((w.alloc (.cells (rc r s) 37)).alloc (.cells (rc r' s') 37)).cell? ⟨w.heap.size, 0, none⟩ = some (.int .i64 r.er) := by rw [hW.out]; exact HA.out.cells 0
    have b0 : ((w.alloc (.cells (rc r s) 37)).alloc (.cells (rc r' s') 37)).cell? ⟨w.heap.size + 1, 0, none⟩ = some (.int .i64 r'.er) := by rw [hW.out]; exact HB.out.cells 0
    go_enter Try.func30, Try.ntmps30
    go_wp2
    go_ret
    exact ⟨by rw [hres.out]; rfl, by rw [hW.out]; exact BW.out⟩
  have t0 : (r.er == r'.er) = true := by simpa using x0
  have e0 := hide x0
  clear x0
  by_cases x1 : r.id = r'.id
  case neg =>
    have hres : Hid (q = false) := by show _ = _; cases q; rfl; exact absurd (congrArg RL.id (hq.out.1 rfl)) x1
    have t1 : (r.id == r'.id) = false := by simpa using x1
    clear x1 hq
    have a0 : ((w.alloc (.cells (rc r s) 37)).alloc (.cells (rc r' s') 37)).cell? ⟨w.heap.size, 0, none⟩ = some (.int .i64 r.er) := by rw [hW.out]; exact HA.out.cells 0
    have b0 : ((w.alloc (.cells (rc r s) 37)).alloc (.cells (rc r' s') 37)).cell? ⟨w.heap.size + 1, 0, none⟩ = some (.int .i64 r'.er) := by rw [hW.out]; exact HB.out.cells 0
    have a1 : ((w.alloc (.cells (rc r s) 37)).alloc (.cells (rc r' s') 37)).cell? ⟨w.heap.size, 1, none⟩ = some (.int .i64 r.id) := by rw [hW.out]; exact HA.out.cells 1
    have b1 : ((w.alloc (.cells (rc r s) 37)).alloc (.cells (rc r' s') 37)).cell? ⟨w.heap.size + 1, 1, none⟩ = some (.int .i64 r'.id) := by rw [hW.out]; exact HB.out.cells 1
    go_enter Try.func30, Try.ntmps30
    go_wp2
    go_ret
    exact ⟨by rw [hres.out]; rfl, by rw [hW.out]; exact BW.out⟩
  have t1 : (r.id == r'.id) = true := by simpa using x1
  have e1 := hide x1
  clear x1
  by_cases x2 : r.P = r'.P
  case neg =>
    have hres : Hid (q = false) := by show _ = _; cases q; rfl; exact absurd (congrArg RL.P (hq.out.1 rfl)) x2
    have e2 := hide x2
    clear x2 hq
    have a0 : ((w.alloc (.cells (rc r s) 37)).alloc (.cells (rc r' s') 37)).cell? ⟨w.heap.size, 0, none⟩ = some (.int .i64 r.er) := by rw [hW.out]; exact HA.out.cells 0
    have b0 : ((w.alloc (.cells (rc r s) 37)).alloc (.cells (rc r' s') 37)).cell? ⟨w.heap.size + 1, 0, none⟩ = some (.int .i64 r'.er) := by rw [hW.out]; exact HB.out.cells 0
    have a1 : ((w.alloc (.cells (rc r s) 37)).alloc (.cells (rc r' s') 37)).cell? ⟨w.heap.size, 1, none⟩ = some (.int .i64 r.id) := by rw [hW.out]; exact HA.out.cells 1
    have b1 : ((w.alloc (.cells (rc r s) 37)).alloc (.cells (rc r' s') 37)).cell? ⟨w.heap.size + 1, 1, none⟩ = some (.int .i64 r'.id) := by rw [hW.out]; exact HB.out.cells 1
    have a2 : ((w.alloc (.cells (rc r s) 37)).alloc (.cells (rc r' s') 37)).cell? ⟨w.heap.size, 2, none⟩ = some (.slice s.P.A s.P.n s.P.c) := by rw [hW.out]; exact HA.out.cells 2
    have b2 : ((w.alloc (.cells (rc r s) 37)).alloc (.cells (rc r' s') 37)).cell? ⟨w.heap.size + 1, 2, none⟩ = some (.slice s'.P.A s'.P.n s'.P.c) := by rw [hW.out]; exact HB.out.cells 2
    go_enter Try.func30, Try.ntmps30
    go_wp2_with fail
    have hW' := hW.out
    rw [hW']
    clear hW hW'
    clear a0 b0 a1 b1 a2 b2
    refine (eqP_ne s.P s'.P _ _ r.P r'.P _ S1.out.1 S2.out.1 (few_P S1.out F1.out) (few_P S2.out F2.out) e2).mono ?_
    rintro e u2 ⟨rfl, hb⟩
    have HA := hide (HA.out.step hb)
    have HB := hide (HB.out.step hb)
    have S1 := hide (S1.out.step hb)
    have S2 := hide (S2.out.step hb)
    have BW := hide (BW.out.trans (hb.mono BW.out.size))
    clear hb
    go_wp2
    go_ret
    exact ⟨by rw [hres.out]; rfl, BW.out⟩
  have e2 := hide x2
  clear x2
  by_cases x3 : r.O = r'.O
  case neg =>
    have hres : Hid (q = false) := by show _ = _; cases q; rfl; exact absurd (congrArg RL.O (hq.out.1 rfl)) x3
    have e3 := hide x3
    clear x3 hq
    have a0 : ((w.alloc (.cells (rc r s) 37)).alloc (.cells (rc r' s') 37)).cell? ⟨w.heap.size, 0, none⟩ = some (.int .i64 r.er) := by rw [hW.out]; exact HA.out.cells 0
    have b0 : ((w.alloc (.cells (rc r s) 37)).alloc (.cells (rc r' s') 37)).cell? ⟨w.heap.size + 1, 0, none⟩ = some (.int .i64 r'.er) := by rw [hW.out]; exact HB.out.cells 0
    have a1 : ((w.alloc (.cells (rc r s) 37)).alloc (.cells (rc r' s') 37)).cell? ⟨w.heap.size, 1, none⟩ = some (.int .i64 r.id) := by rw [hW.out]; exact HA.out.cells 1
    have b1 : ((w.alloc (.cells (rc r s) 37)).alloc (.cells (rc r' s') 37)).cell? ⟨w.heap.size + 1, 1, none⟩ = some (.int .i64 r'.id) := by rw [hW.out]; exact HB.out.cells 1
    have a2 : ((w.alloc (.cells (rc r s) 37)).alloc (.cells (rc r' s') 37)).cell? ⟨w.heap.size, 2, none⟩ = some (.slice s.P.A s.P.n s.P.c) := by rw [hW.out]; exact HA.out.cells 2
    have b2 : ((w.alloc (.cells (rc r s) 37)).alloc (.cells (rc r' s') 37)).cell? ⟨w.heap.size + 1, 2, none⟩ = some (.slice s'.P.A s'.P.n s'.P.c) := by rw [hW.out]; exact HB.out.cells 2
    go_enter Try.func30, Try.ntmps30
    go_wp2_with fail
    have hW' := hW.out
    rw [hW']
    clear hW hW'
    clear a0 b0 a1 b1 a2 b2
    refine (eqP_eq s.P s'.P _ _ r.P r'.P _ S1.out.1 S2.out.1 (few_P S1.out F1.out) (few_P S2.out F2.out) e2).mono ?_
    rintro e u2 ⟨rfl, hb⟩
    have HA := hide (HA.out.step hb)
    have HB := hide (HB.out.step hb)
    have S1 := hide (S1.out.step hb)
    have S2 := hide (S2.out.step hb)
    have BW := hide (BW.out.trans (hb.mono BW.out.size))
    clear hb
    have a3 : u2.cell? ⟨w.heap.size, 3, none⟩ = some (.slice s.O.A s.O.n s.O.c) := HA.out.cells 3
    have b3 : u2.cell? ⟨w.heap.size + 1, 3, none⟩ = some (.slice s'.O.A s'.O.n s'.O.c) := HB.out.cells 3
    go_wp2_with fail
    clear a3 b3
    refine (eqE_ne s.O s'.O _ _ r.O r'.O _ S1.out.2.1 S2.out.2.1 (few_O S1.out F1.out) (few_O S2.out F2.out) e3).mono ?_
    rintro e u3 ⟨rfl, hb⟩
    have HA := hide (HA.out.step hb)
    have HB := hide (HB.out.step hb)
    have S1 := hide (S1.out.step hb)
    have S2 := hide (S2.out.step hb)
    have BW := hide (BW.out.trans (hb.mono BW.out.size))
    clear hb
    go_wp2
    go_ret
    exact ⟨by rw [hres.out]; rfl, BW.out⟩
  have e3 := hide x3
  clear x3
  by_cases x4 : r.I = r'.I
  case neg =>
    have hres : Hid (q = false) := by show _ = _; cases q; rfl; exact absurd (congrArg RL.I (hq.out.1 rfl)) x4
    have e4 := hide x4
    clear x4 hq
    have a0 : ((w.alloc (.cells (rc r s) 37)).alloc (.cells (rc r' s') 37)).cell? ⟨w.heap.size, 0, none⟩ = some (.int .i64 r.er) := by rw [hW.out]; exact HA.out.cells 0
    have b0 : ((w.alloc (.cells (rc r s) 37)).alloc (.cells (rc r' s') 37)).cell? ⟨w.heap.size + 1, 0, none⟩ = some (.int .i64 r'.er) := by rw [hW.out]; exact HB.out.cells 0
    have a1 : ((w.alloc (.cells (rc r s) 37)).alloc (.cells (rc r' s') 37)).cell? ⟨w.heap.size, 1, none⟩ = some (.int .i64 r.id) := by rw [hW.out]; exact HA.out.cells 1
    have b1 : ((w.alloc (.cells (rc r s) 37)).alloc (.cells (rc r' s') 37)).cell? ⟨w.heap.size + 1, 1, none⟩ = some (.int .i64 r'.id) := by rw [hW.out]; exact HB.out.cells 1
    have a2 : ((w.alloc (.cells (rc r s) 37)).alloc (.cells (rc r' s') 37)).cell? ⟨w.heap.size, 2, none⟩ = some (.slice s.P.A s.P.n s.P.c) := by rw [hW.out]; exact HA.out.cells 2
    have b2 : ((w.alloc (.cells (rc r s) 37)).alloc (.cells (rc r' s') 37)).cell? ⟨w.heap.size + 1, 2, none⟩ = some (.slice s'.P.A s'.P.n s'.P.c) := by rw [hW.out]; exact HB.out.cells 2
    go_enter Try.func30, Try.ntmps30
    go_wp2_with fail
    have hW' := hW.out
    rw [hW']
    clear hW hW'
    clear a0 b0 a1 b1 a2 b2
    refine (eqP_eq s.P s'.P _ _ r.P r'.P _ S1.out.1 S2.out.1 (few_P S1.out F1.out) (few_P S2.out F2.out) e2).mono ?_
    rintro e u2 ⟨rfl, hb⟩
    have HA := hide (HA.out.step hb)
    have HB := hide (HB.out.step hb)
    have S1 := hide (S1.out.step hb)
    have S2 := hide (S2.out.step hb)
    have BW := hide (BW.out.trans (hb.mono BW.out.size))
    clear hb
    have a3 : u2.cell? ⟨w.heap.size, 3, none⟩ = some (.slice s.O.A s.O.n s.O.c) := HA.out.cells 3
    have b3 : u2.cell? ⟨w.heap.size + 1, 3, none⟩ = some (.slice s'.O.A s'.O.n s'.O.c) := HB.out.cells 3
    go_wp2_with fail
    clear a3 b3
    refine (eqE_eq s.O s'.O _ _ r.O r'.O _ S1.out.2.1 S2.out.2.1 (few_O S1.out F1.out) (few_O S2.out F2.out) e3).mono ?_
    rintro e u3 ⟨rfl, hb⟩
    have HA := hide (HA.out.step hb)
    have HB := hide (HB.out.step hb)
    have S1 := hide (S1.out.step hb)
    have S2 := hide (S2.out.step hb)
    have BW := hide (BW.out.trans (hb.mono BW.out.size))
    clear hb
    have a4 : u3.cell? ⟨w.heap.size, 4, none⟩ = some (.slice s.I.A s.I.n s.I.c) := HA.out.cells 4
    have b4 : u3.cell? ⟨w.heap.size + 1, 4, none⟩ = some (.slice s'.I.A s'.I.n s'.I.c) := HB.out.cells 4
    go_wp2_with fail
    clear a4 b4
    refine (eqE_ne s.I s'.I _ _ r.I r'.I _ S1.out.2.2 S2.out.2.2 (few_I S1.out F1.out) (few_I S2.out F2.out) e4).mono ?_
    rintro e u4 ⟨rfl, hb⟩
    have HA := hide (HA.out.step hb)
    have HB := hide (HB.out.step hb)
    have S1 := hide (S1.out.step hb)
    have S2 := hide (S2.out.step hb)
    have BW := hide (BW.out.trans (hb.mono BW.out.size))
    clear hb
    go_wp2
    go_ret
    exact ⟨by rw [hres.out]; rfl, BW.out⟩
  have e4 := hide x4
  clear x4
  have hres : Hid (q = true) := hq.out.2 (by cases r; cases r'; simp only [RL.mk.injEq]; exact ⟨e0.out, e1.out, e2.out, e3.out, e4.out⟩)
  clear hq
  have a0 : ((w.alloc (.cells (rc r s) 37)).alloc (.cells (rc r' s') 37)).cell? ⟨w.heap.size, 0, none⟩ = some (.int .i64 r.er) := by rw [hW.out]; exact HA.out.cells 0
  have b0 : ((w.alloc (.cells (rc r s) 37)).alloc (.cells (rc r' s') 37)).cell? ⟨w.heap.size + 1, 0, none⟩ = some (.int .i64 r'.er) := by rw [hW.out]; exact HB.out.cells 0
  have a1 : ((w.alloc (.cells (rc r s) 37)).alloc (.cells (rc r' s') 37)).cell? ⟨w.heap.size, 1, none⟩ = some (.int .i64 r.id) := by rw [hW.out]; exact HA.out.cells 1
  have b1 : ((w.alloc (.cells (rc r s) 37)).alloc (.cells (rc r' s') 37)).cell? ⟨w.heap.size + 1, 1, none⟩ = some (.int .i64 r'.id) := by rw [hW.out]; exact HB.out.cells 1
  have a2 : ((w.alloc (.cells (rc r s) 37)).alloc (.cells (rc r' s') 37)).cell? ⟨w.heap.size, 2, none⟩ = some (.slice s.P.A s.P.n s.P.c) := by rw [hW.out]; exact HA.out.cells 2
  have b2 : ((w.alloc (.cells (rc r s) 37)).alloc (.cells (rc r' s') 37)).cell? ⟨w.heap.size + 1, 2, none⟩ = some (.slice s'.P.A s'.P.n s'.P.c) := by rw [hW.out]; exact HB.out.cells 2
  go_enter Try.func30, Try.ntmps30
  go_wp2_with fail
  have hW' := hW.out
  rw [hW']
  clear hW hW'
  clear a0 b0 a1 b1 a2 b2
  refine (eqP_eq s.P s'.P _ _ r.P r'.P _ S1.out.1 S2.out.1 (few_P S1.out F1.out) (few_P S2.out F2.out) e2).mono ?_
  rintro e u2 ⟨rfl, hb⟩
  have HA := hide (HA.out.step hb)
  have HB := hide (HB.out.step hb)
  have S1 := hide (S1.out.step hb)
  have S2 := hide (S2.out.step hb)
  have BW := hide (BW.out.trans (hb.mono BW.out.size))
  clear hb
  have a3 : u2.cell? ⟨w.heap.size, 3, none⟩ = some (.slice s.O.A s.O.n s.O.c) := HA.out.cells 3
  have b3 : u2.cell? ⟨w.heap.size + 1, 3, none⟩ = some (.slice s'.O.A s'.O.n s'.O.c) := HB.out.cells 3
  go_wp2_with fail
  clear a3 b3
  refine (eqE_eq s.O s'.O _ _ r.O r'.O _ S1.out.2.1 S2.out.2.1 (few_O S1.out F1.out) (few_O S2.out F2.out) e3).mono ?_
  rintro e u3 ⟨rfl, hb⟩
  have HA := hide (HA.out.step hb)
  have HB := hide (HB.out.step hb)
  have S1 := hide (S1.out.step hb)
  have S2 := hide (S2.out.step hb)
  have BW := hide (BW.out.trans (hb.mono BW.out.size))
  clear hb
  have a4 : u3.cell? ⟨w.heap.size, 4, none⟩ = some (.slice s.I.A s.I.n s.I.c) := HA.out.cells 4
  have b4 : u3.cell? ⟨w.heap.size + 1, 4, none⟩ = some (.slice s'.I.A s'.I.n s'.I.c) := HB.out.cells 4
  go_wp2_with fail
  clear a4 b4
  refine (eqE_eq s.I s'.I _ _ r.I r'.I _ S1.out.2.2 S2.out.2.2 (few_I S1.out F1.out) (few_I S2.out F2.out) e4).mono ?_
  rintro e u4 ⟨rfl, hb⟩
  have HA := hide (HA.out.step hb)
  have HB := hide (HB.out.step hb)
  have S1 := hide (S1.out.step hb)
  have S2 := hide (S2.out.step hb)
  have BW := hide (BW.out.trans (hb.mono BW.out.size))
  clear hb
  go_wp2
  go_ret
  exact ⟨by rw [hres.out]; rfl, BW.out⟩

set_option maxHeartbeats 2000000 in
theorem same22 (r r' : RL) (s s' : S3) (q : Bool) (w : World) (p : RSee w w.heap.size s r) (p' : RSee w w.heap.size s' r') (F : MostR r) (F' : MostR r') (hq : Hid (q = true ↔ r = r')) :
    Calls Try.prog 22 #[.agg (rc r s), .agg (rc r' s')] w (Drew (.bool q) w) := by
  obtain ⟨W, hW⟩ : ∃ W, Hid ((w.alloc (.cells (rc r s) 37)).alloc (.cells (rc r' s') 37) = W) := ⟨_, rfl⟩
  have BW : Hid (Below w.heap.size w W) := by show Below _ _ _; rw [← hW.out]; exact (((Below.refl _ _).alloc (Nat.le_refl _) _).alloc (by simp) _)
  have HA : Hid (Bx W (w.heap.size) (rc r s) 37) := by
    have h := ((Bx.new w (rc r s) 37).alloc (.cells (rc r' s') 37))
    show Bx _ _ _ _
    rw [← hW.out]
    simpa using h
  have HB : Hid (Bx W (w.heap.size + 1) (rc r' s') 37) := by
    have h := (Bx.new (w.alloc (.cells (rc r s) 37)) (rc r' s') 37)
    show Bx _ _ _ _
    rw [← hW.out]
    simpa using h
  have S1 := hide (p.step BW.out)
  have S2 := hide (p'.step BW.out)
  have F1 := hide F
  have F2 := hide F'
  clear p p' F F'
  by_cases x0 : r.er = r'.er
  case neg =>
    have hres : Hid (q = false) := by show _ = _; cases q; rfl; exact absurd (congrArg RL.er (hq.out.1 rfl)) x0
    have t0 : (r.er == r'.er) = false := by simpa using x0
    clear x0 hq
    have a0 : ((w.alloc (.cells (rc r s) 37)).alloc (.cells (rc r' s') 37)).cell? ⟨w.heap.size, 0, none⟩ = some (.int .i64 r.er) := by rw [hW.out]; exact HA.out.cells 0
    have b0 : ((w.alloc (.cells (rc r s) 37)).alloc (.cells (rc r' s') 37)).cell? ⟨w.heap.size + 1, 0, none⟩ = some (.int .i64 r'.er) := by rw [hW.out]; exact HB.out.cells 0
    go_enter Try.func22, Try.ntmps22
    go_wp2
    go_ret
    exact ⟨by rw [hres.out]; rfl, by rw [hW.out]; exact BW.out⟩
  have t0 : (r.er == r'.er) = true := by simpa using x0
  have e0 := hide x0
  clear x0
  by_cases x1 : r.id = r'.id
  case neg =>
    have hres : Hid (q = false) := by show _ = _; cases q; rfl; exact absurd (congrArg RL.id (hq.out.1 rfl)) x1
    have t1 : (r.id == r'.id) = false := by simpa using x1
    clear x1 hq
    have a0 : ((w.alloc (.cells (rc r s) 37)).alloc (.cells (rc r' s') 37)).cell? ⟨w.heap.size, 0, none⟩ = some (.int .i64 r.er) := by rw [hW.out]; exact HA.out.cells 0
    have b0 : ((w.alloc (.cells (rc r s) 37)).alloc (.cells (rc r' s') 37)).cell? ⟨w.heap.size + 1, 0, none⟩ = some (.int .i64 r'.er) := by rw [hW.out]; exact HB.out.cells 0
    have a1 : ((w.alloc (.cells (rc r s) 37)).alloc (.cells (rc r' s') 37)).cell? ⟨w.heap.size, 1, none⟩ = some (.int .i64 r.id) := by rw [hW.out]; exact HA.out.cells 1
    have b1 : ((w.alloc (.cells (rc r s) 37)).alloc (.cells (rc r' s') 37)).cell? ⟨w.heap.size + 1, 1, none⟩ = some (.int .i64 r'.id) := by rw [hW.out]; exact HB.out.cells 1
    go_enter Try.func22, Try.ntmps22
    go_wp2
    go_ret
    exact ⟨by rw [hres.out]; rfl, by rw [hW.out]; exact BW.out⟩
  have t1 : (r.id == r'.id) = true := by simpa using x1
  have e1 := hide x1
  clear x1
  by_cases x2 : r.P = r'.P
  case neg =>
    have hres : Hid (q = false) := by show _ = _; cases q; rfl; exact absurd (congrArg RL.P (hq.out.1 rfl)) x2
    have e2 := hide x2
    clear x2 hq
    have a0 : ((w.alloc (.cells (rc r s) 37)).alloc (.cells (rc r' s') 37)).cell? ⟨w.heap.size, 0, none⟩ = some (.int .i64 r.er) := by rw [hW.out]; exact HA.out.cells 0
    have b0 : ((w.alloc (.cells (rc r s) 37)).alloc (.cells (rc r' s') 37)).cell? ⟨w.heap.size + 1, 0, none⟩ = some (.int .i64 r'.er) := by rw [hW.out]; exact HB.out.cells 0
    have a1 : ((w.alloc (.cells (rc r s) 37)).alloc (.cells (rc r' s') 37)).cell? ⟨w.heap.size, 1, none⟩ = some (.int .i64 r.id) := by rw [hW.out]; exact HA.out.cells 1
    have b1 : ((w.alloc (.cells (rc r s) 37)).alloc (.cells (rc r' s') 37)).cell? ⟨w.heap.size + 1, 1, none⟩ = some (.int .i64 r'.id) := by rw [hW.out]; exact HB.out.cells 1
    have a2 : ((w.alloc (.cells (rc r s) 37)).alloc (.cells (rc r' s') 37)).cell? ⟨w.heap.size, 2, none⟩ = some (.slice s.P.A s.P.n s.P.c) := by rw [hW.out]; exact HA.out.cells 2
    have b2 : ((w.alloc (.cells (rc r s) 37)).alloc (.cells (rc r' s') 37)).cell? ⟨w.heap.size + 1, 2, none⟩ = some (.slice s'.P.A s'.P.n s'.P.c) := by rw [hW.out]; exact HB.out.cells 2
    go_enter Try.func22, Try.ntmps22
    go_wp2_with fail
    have hW' := hW.out
    rw [hW']
    clear hW hW'
    clear a0 b0 a1 b1 a2 b2
    refine (eqP_ne s.P s'.P _ _ r.P r'.P _ S1.out.1 S2.out.1 (few_P S1.out F1.out) (few_P S2.out F2.out) e2).mono ?_
    rintro e u2 ⟨rfl, hb⟩
    have HA := hide (HA.out.step hb)
    have HB := hide (HB.out.step hb)
    have S1 := hide (S1.out.step hb)
    have S2 := hide (S2.out.step hb)
    have BW := hide (BW.out.trans (hb.mono BW.out.size))
    clear hb
    go_wp2
    go_ret
    exact ⟨by rw [hres.out]; rfl, BW.out⟩
  have e2 := hide x2
  clear x2
  by_cases x3 : r.O = r'.O
  case neg =>
    have hres : Hid (q = false) := by show _ = _; cases q; rfl; exact absurd (congrArg RL.O (hq.out.1 rfl)) x3
    have e3 := hide x3
    clear x3 hq
    have a0 : ((w.alloc (.cells (rc r s) 37)).alloc (.cells (rc r' s') 37)).cell? ⟨w.heap.size, 0, none⟩ = some (.int .i64 r.er) := by rw [hW.out]; exact HA.out.cells 0
    have b0 : ((w.alloc (.cells (rc r s) 37)).alloc (.cells (rc r' s') 37)).cell? ⟨w.heap.size + 1, 0, none⟩ = some (.int .i64 r'.er) := by rw [hW.out]; exact HB.out.cells 0
    have a1 : ((w.alloc (.cells (rc r s) 37)).alloc (.cells (rc r' s') 37)).cell? ⟨w.heap.size, 1, none⟩ = some (.int .i64 r.id) := by rw [hW.out]; exact HA.out.cells 1
    have b1 : ((w.alloc (.cells (rc r s) 37)).alloc (.cells (rc r' s') 37)).cell? ⟨w.heap.size + 1, 1, none⟩ = some (.int .i64 r'.id) := by rw [hW.out]; exact HB.out.cells 1
    have a2 : ((w.alloc (.cells (rc r s) 37)).alloc (.cells (rc r' s') 37)).cell? ⟨w.heap.size, 2, none⟩ = some (.slice s.P.A s.P.n s.P.c) := by rw [hW.out]; exact HA.out.cells 2
    have b2 : ((w.alloc (.cells (rc r s) 37)).alloc (.cells (rc r' s') 37)).cell? ⟨w.heap.size + 1, 2, none⟩ = some (.slice s'.P.A s'.P.n s'.P.c) := by rw [hW.out]; exact HB.out.cells 2
    go_enter Try.func22, Try.ntmps22
    go_wp2_with fail
    have hW' := hW.out
    rw [hW']
    clear hW hW'
    clear a0 b0 a1 b1 a2 b2
    refine (eqP_eq s.P s'.P _ _ r.P r'.P _ S1.out.1 S2.out.1 (few_P S1.out F1.out) (few_P S2.out F2.out) e2).mono ?_
    rintro e u2 ⟨rfl, hb⟩
    have HA := hide (HA.out.step hb)
    have HB := hide (HB.out.step hb)
    have S1 := hide (S1.out.step hb)
    have S2 := hide (S2.out.step hb)
    have BW := hide (BW.out.trans (hb.mono BW.out.size))
    clear hb
    have a3 : u2.cell? ⟨w.heap.size, 3, none⟩ = some (.slice s.O.A s.O.n s.O.c) := HA.out.cells 3
    have b3 : u2.cell? ⟨w.heap.size + 1, 3, none⟩ = some (.slice s'.O.A s'.O.n s'.O.c) := HB.out.cells 3
    go_wp2_with fail
    clear a3 b3
    refine (eqE_ne s.O s'.O _ _ r.O r'.O _ S1.out.2.1 S2.out.2.1 (few_O S1.out F1.out) (few_O S2.out F2.out) e3).mono ?_
    rintro e u3 ⟨rfl, hb⟩
    have HA := hide (HA.out.step hb)
    have HB := hide (HB.out.step hb)
    have S1 := hide (S1.out.step hb)
    have S2 := hide (S2.out.step hb)
    have BW := hide (BW.out.trans (hb.mono BW.out.size))
    clear hb
    go_wp2
    go_ret
    exact ⟨by rw [hres.out]; rfl, BW.out⟩
  have e3 := hide x3
  clear x3
  by_cases x4 : r.I = r'.I
  case neg =>
    have hres : Hid (q = false) := by show _ = _; cases q; rfl; exact absurd (congrArg RL.I (hq.out.1 rfl)) x4
    have e4 := hide x4
    clear x4 hq
    have a0 : ((w.alloc (.cells (rc r s) 37)).alloc (.cells (rc r' s') 37)).cell? ⟨w.heap.size, 0, none⟩ = some (.int .i64 r.er) := by rw [hW.out]; exact HA.out.cells 0
    have b0 : ((w.alloc (.cells (rc r s) 37)).alloc (.cells (rc r' s') 37)).cell? ⟨w.heap.size + 1, 0, none⟩ = some (.int .i64 r'.er) := by rw [hW.out]; exact HB.out.cells 0
    have a1 : ((w.alloc (.cells (rc r s) 37)).alloc (.cells (rc r' s') 37)).cell? ⟨w.heap.size, 1, none⟩ = some (.int .i64 r.id) := by rw [hW.out]; exact HA.out.cells 1
    have b1 : ((w.alloc (.cells (rc r s) 37)).alloc (.cells (rc r' s') 37)).cell? ⟨w.heap.size + 1, 1, none⟩ = some (.int .i64 r'.id) := by rw [hW.out]; exact HB.out.cells 1
    have a2 : ((w.alloc (.cells (rc r s) 37)).alloc (.cells (rc r' s') 37)).cell? ⟨w.heap.size, 2, none⟩ = some (.slice s.P.A s.P.n s.P.c) := by rw [hW.out]; exact HA.out.cells 2
    have b2 : ((w.alloc (.cells (rc r s) 37)).alloc (.cells (rc r' s') 37)).cell? ⟨w.heap.size + 1, 2, none⟩ = some (.slice s'.P.A s'.P.n s'.P.c) := by rw [hW.out]; exact HB.out.cells 2
    go_enter Try.func22, Try.ntmps22
    go_wp2_with fail
    have hW' := hW.out
    rw [hW']
    clear hW hW'
    clear a0 b0 a1 b1 a2 b2
    refine (eqP_eq s.P s'.P _ _ r.P r'.P _ S1.out.1 S2.out.1 (few_P S1.out F1.out) (few_P S2.out F2.out) e2).mono ?_
    rintro e u2 ⟨rfl, hb⟩
    have HA := hide (HA.out.step hb)
    have HB := hide (HB.out.step hb)
    have S1 := hide (S1.out.step hb)
    have S2 := hide (S2.out.step hb)
    have BW := hide (BW.out.trans (hb.mono BW.out.size))
    clear hb
    have a3 : u2.cell? ⟨w.heap.size, 3, none⟩ = some (.slice s.O.A s.O.n s.O.c) := HA.out.cells 3
    have b3 : u2.cell? ⟨w.heap.size + 1, 3, none⟩ = some (.slice s'.O.A s'.O.n s'.O.c) := HB.out.cells 3
    go_wp2_with fail
    clear a3 b3
    refine (eqE_eq s.O s'.O _ _ r.O r'.O _ S1.out.2.1 S2.out.2.1 (few_O S1.out F1.out) (few_O S2.out F2.out) e3).mono ?_
    rintro e u3 ⟨rfl, hb⟩
    have HA := hide (HA.out.step hb)
    have HB := hide (HB.out.step hb)
    have S1 := hide (S1.out.step hb)
    have S2 := hide (S2.out.step hb)
    have BW := hide (BW.out.trans (hb.mono BW.out.size))
    clear hb
    have a4 : u3.cell? ⟨w.heap.size, 4, none⟩ = some (.slice s.I.A s.I.n s.I.c) := HA.out.cells 4
    have b4 : u3.cell? ⟨w.heap.size + 1, 4, none⟩ = some (.slice s'.I.A s'.I.n s'.I.c) := HB.out.cells 4
    go_wp2_with fail
    clear a4 b4
    refine (eqE_ne s.I s'.I _ _ r.I r'.I _ S1.out.2.2 S2.out.2.2 (few_I S1.out F1.out) (few_I S2.out F2.out) e4).mono ?_
    rintro e u4 ⟨rfl, hb⟩
    have HA := hide (HA.out.step hb)
    have HB := hide (HB.out.step hb)
    have S1 := hide (S1.out.step hb)
    have S2 := hide (S2.out.step hb)
    have BW := hide (BW.out.trans (hb.mono BW.out.size))
    clear hb
    go_wp2
    go_ret
    exact ⟨by rw [hres.out]; rfl, BW.out⟩
  have e4 := hide x4
  clear x4
  have hres : Hid (q = true) := hq.out.2 (by cases r; cases r'; simp only [RL.mk.injEq]; exact ⟨e0.out, e1.out, e2.out, e3.out, e4.out⟩)
  clear hq
  have a0 : ((w.alloc (.cells (rc r s) 37)).alloc (.cells (rc r' s') 37)).cell? ⟨w.heap.size, 0, none⟩ = some (.int .i64 r.er) := by rw [hW.out]; exact HA.out.cells 0
  have b0 : ((w.alloc (.cells (rc r s) 37)).alloc (.cells (rc r' s') 37)).cell? ⟨w.heap.size + 1, 0, none⟩ = some (.int .i64 r'.er) := by rw [hW.out]; exact HB.out.cells 0
  have a1 : ((w.alloc (.cells (rc r s) 37)).alloc (.cells (rc r' s') 37)).cell? ⟨w.heap.size, 1, none⟩ = some (.int .i64 r.id) := by rw [hW.out]; exact HA.out.cells 1
  have b1 : ((w.alloc (.cells (rc r s) 37)).alloc (.cells (rc r' s') 37)).cell? ⟨w.heap.size + 1, 1, none⟩ = some (.int .i64 r'.id) := by rw [hW.out]; exact HB.out.cells 1
  have a2 : ((w.alloc (.cells (rc r s) 37)).alloc (.cells (rc r' s') 37)).cell? ⟨w.heap.size, 2, none⟩ = some (.slice s.P.A s.P.n s.P.c) := by rw [hW.out]; exact HA.out.cells 2
  have b2 : ((w.alloc (.cells (rc r s) 37)).alloc (.cells (rc r' s') 37)).cell? ⟨w.heap.size + 1, 2, none⟩ = some (.slice s'.P.A s'.P.n s'.P.c) := by rw [hW.out]; exact HB.out.cells 2
  go_enter Try.func22, Try.ntmps22
  go_wp2_with fail
  have hW' := hW.out
  rw [hW']
  clear hW hW'
  clear a0 b0 a1 b1 a2 b2
  refine (eqP_eq s.P s'.P _ _ r.P r'.P _ S1.out.1 S2.out.1 (few_P S1.out F1.out) (few_P S2.out F2.out) e2).mono ?_
  rintro e u2 ⟨rfl, hb⟩
  have HA := hide (HA.out.step hb)
  have HB := hide (HB.out.step hb)
  have S1 := hide (S1.out.step hb)
  have S2 := hide (S2.out.step hb)
  have BW := hide (BW.out.trans (hb.mono BW.out.size))
  clear hb
  have a3 : u2.cell? ⟨w.heap.size, 3, none⟩ = some (.slice s.O.A s.O.n s.O.c) := HA.out.cells 3
  have b3 : u2.cell? ⟨w.heap.size + 1, 3, none⟩ = some (.slice s'.O.A s'.O.n s'.O.c) := HB.out.cells 3
  go_wp2_with fail
  clear a3 b3
  refine (eqE_eq s.O s'.O _ _ r.O r'.O _ S1.out.2.1 S2.out.2.1 (few_O S1.out F1.out) (few_O S2.out F2.out) e3).mono ?_
  rintro e u3 ⟨rfl, hb⟩
  have HA := hide (HA.out.step hb)
  have HB := hide (HB.out.step hb)
  have S1 := hide (S1.out.step hb)
  have S2 := hide (S2.out.step hb)
  have BW := hide (BW.out.trans (hb.mono BW.out.size))
  clear hb
  have a4 : u3.cell? ⟨w.heap.size, 4, none⟩ = some (.slice s.I.A s.I.n s.I.c) := HA.out.cells 4
  have b4 : u3.cell? ⟨w.heap.size + 1, 4, none⟩ = some (.slice s'.I.A s'.I.n s'.I.c) := HB.out.cells 4
  go_wp2_with fail
  clear a4 b4
  refine (eqE_eq s.I s'.I _ _ r.I r'.I _ S1.out.2.2 S2.out.2.2 (few_I S1.out F1.out) (few_I S2.out F2.out) e4).mono ?_
  rintro e u4 ⟨rfl, hb⟩
  have HA := hide (HA.out.step hb)
  have HB := hide (HB.out.step hb)
  have S1 := hide (S1.out.step hb)
  have S2 := hide (S2.out.step hb)
  have BW := hide (BW.out.trans (hb.mono BW.out.size))
  clear hb
  go_wp2
  go_ret
  exact ⟨by rw [hres.out]; rfl, BW.out⟩

set_option maxHeartbeats 2000000 in
theorem same28 (r r' : RL) (s s' : S3) (q : Bool) (w : World) (p : RSee w w.heap.size s r) (p' : RSee w w.heap.size s' r') (F : MostR r) (F' : MostR r') (hq : Hid (q = true ↔ r = r')) :
    Calls Try.prog 28 #[.agg (rc r s), .agg (rc r' s')] w (Drew (.bool q) w) := by
  obtain ⟨W, hW⟩ : ∃ W, Hid ((w.alloc (.cells (rc r s) 37)).alloc (.cells (rc r' s') 37) = W) := ⟨_, rfl⟩
  have BW : Hid (Below w.heap.size w W) := by show Below _ _ _; rw [← hW.out]; exact (((Below.refl _ _).alloc (Nat.le_refl _) _).alloc (by simp) _)
  have HA : Hid (Bx W (w.heap.size) (rc r s) 37) := by
    have h := ((Bx.new w (rc r s) 37).alloc (.cells (rc r' s') 37))
    show Bx _ _ _ _
    rw [← hW.out]
    simpa using h
  have HB : Hid (Bx W (w.heap.size + 1) (rc r' s') 37) := by
    have h := (Bx.new (w.alloc (.cells (rc r s) 37)) (rc r' s') 37)
    show Bx _ _ _ _
    rw [← hW.out]
    simpa using h
  have S1 := hide (p.step BW.out)
  have S2 := hide (p'.step BW.out)
  have F1 := hide F
  have F2 := hide F'
  clear p p' F F'
  by_cases x0 : r.er = r'.er
  case neg =>
    have hres : Hid (q = false) := by show _ = _; cases q; rfl; exact absurd (congrArg RL.er (hq.out.1 rfl)) x0
    have t0 : (r.er == r'.er) = false := by simpa using x0
    clear x0 hq
    have a0 : ((w.alloc (.cells (rc r s) 37)).alloc (.cells (rc r' s') 37)).cell? ⟨w.heap.size, 0, none⟩ = some (.int .i64 r.er) := by rw [hW.out]; exact HA.out.cells 0
    have b0 : ((w.alloc (.cells (rc r s) 37)).alloc (.cells (rc r' s') 37)).cell? ⟨w.heap.size + 1, 0, none⟩ = some (.int .i64 r'.er) := by rw [hW.out]; exact HB.out.cells 0
    go_enter Try.func28, Try.ntmps28
    go_wp2
    go_ret
    exact ⟨by rw [hres.out]; rfl, by rw [hW.out]; exact BW.out⟩
  have t0 : (r.er == r'.er) = true := by simpa using x0
  have e0 := hide x0
  clear x0
  by_cases x1 : r.id = r'.id
  case neg =>
    have hres : Hid (q = false) := by show _ = _; cases q; rfl; exact absurd (congrArg RL.id (hq.out.1 rfl)) x1
    have t1 : (r.id == r'.id) = false := by simpa using x1
    clear x1 hq
    have a0 : ((w.alloc (.cells (rc r s) 37)).alloc (.cells (rc r' s') 37)).cell? ⟨w.heap.size, 0, none⟩ = some (.int .i64 r.er) := by rw [hW.out]; exact HA.out.cells 0
    have b0 : ((w.alloc (.cells (rc r s) 37)).alloc (.cells (rc r' s') 37)).cell? ⟨w.heap.size + 1, 0, none⟩ = some (.int .i64 r'.er) := by rw [hW.out]; exact HB.out.cells 0
    have a1 : ((w.alloc (.cells (rc r s) 37)).alloc (.cells (rc r' s') 37)).cell? ⟨w.heap.size, 1, none⟩ = some (.int .i64 r.id) := by rw [hW.out]; exact HA.out.cells 1
    have b1 : ((w.alloc (.cells (rc r s) 37)).alloc (.cells (rc r' s') 37)).cell? ⟨w.heap.size + 1, 1, none⟩ = some (.int .i64 r'.id) := by rw [hW.out]; exact HB.out.cells 1
    go_enter Try.func28, Try.ntmps28
    go_wp2
    go_ret
    exact ⟨by rw [hres.out]; rfl, by rw [hW.out]; exact BW.out⟩
  have t1 : (r.id == r'.id) = true := by simpa using x1
  have e1 := hide x1
  clear x1
  by_cases x2 : r.P = r'.P
  case neg =>
    have hres : Hid (q = false) := by show _ = _; cases q; rfl; exact absurd (congrArg RL.P (hq.out.1 rfl)) x2
    have e2 := hide x2
    clear x2 hq
    have a0 : ((w.alloc (.cells (rc r s) 37)).alloc (.cells (rc r' s') 37)).cell? ⟨w.heap.size, 0, none⟩ = some (.int .i64 r.er) := by rw [hW.out]; exact HA.out.cells 0
    have b0 : ((w.alloc (.cells (rc r s) 37)).alloc (.cells (rc r' s') 37)).cell? ⟨w.heap.size + 1, 0, none⟩ = some (.int .i64 r'.er) := by rw [hW.out]; exact HB.out.cells 0
    have a1 : ((w.alloc (.cells (rc r s) 37)).alloc (.cells (rc r' s') 37)).cell? ⟨w.heap.size, 1, none⟩ = some (.int .i64 r.id) := by rw [hW.out]; exact HA.out.cells 1
    have b1 : ((w.alloc (.cells (rc r s) 37)).alloc (.cells (rc r' s') 37)).cell? ⟨w.heap.size + 1, 1, none⟩ = some (.int .i64 r'.id) := by rw [hW.out]; exact HB.out.cells 1
    have a2 : ((w.alloc (.cells (rc r s) 37)).alloc (.cells (rc r' s') 37)).cell? ⟨w.heap.size, 2, none⟩ = some (.slice s.P.A s.P.n s.P.c) := by rw [hW.out]; exact HA.out.cells 2
    have b2 : ((w.alloc (.cells (rc r s) 37)).alloc (.cells (rc r' s') 37)).cell? ⟨w.heap.size + 1, 2, none⟩ = some (.slice s'.P.A s'.P.n s'.P.c) := by rw [hW.out]; exact HB.out.cells 2
    go_enter Try.func28, Try.ntmps28
    go_wp2_with fail
    have hW' := hW.out
    rw [hW']
    clear hW hW'
    clear a0 b0 a1 b1 a2 b2
    refine (sameP_ne s.P s'.P _ _ r.P r'.P _ S1.out.1 S2.out.1 (few_P S1.out F1.out) (few_P S2.out F2.out) e2).mono ?_
    rintro e u2 ⟨rfl, hb⟩
    have HA := hide (HA.out.step hb)
    have HB := hide (HB.out.step hb)
    have S1 := hide (S1.out.step hb)
    have S2 := hide (S2.out.step hb)
    have BW := hide (BW.out.trans (hb.mono BW.out.size))
    clear hb
    go_wp2
    go_ret
    exact ⟨by rw [hres.out]; rfl, BW.out⟩
  have e2 := hide x2
  clear x2
  by_cases x3 : r.O = r'.O
  case neg =>
    have hres : Hid (q = false) := by show _ = _; cases q; rfl; exact absurd (congrArg RL.O (hq.out.1 rfl)) x3
    have e3 := hide x3
    clear x3 hq
    have a0 : ((w.alloc (.cells (rc r s) 37)).alloc (.cells (rc r' s') 37)).cell? ⟨w.heap.size, 0, none⟩ = some (.int .i64 r.er) := by rw [hW.out]; exact HA.out.cells 0
    have b0 : ((w.alloc (.cells (rc r s) 37)).alloc (.cells (rc r' s') 37)).cell? ⟨w.heap.size + 1, 0, none⟩ = some (.int .i64 r'.er) := by rw [hW.out]; exact HB.out.cells 0
    have a1 : ((w.alloc (.cells (rc r s) 37)).alloc (.cells (rc r' s') 37)).cell? ⟨w.heap.size, 1, none⟩ = some (.int .i64 r.id) := by rw [hW.out]; exact HA.out.cells 1
    have b1 : ((w.alloc (.cells (rc r s) 37)).alloc (.cells (rc r' s') 37)).cell? ⟨w.heap.size + 1, 1, none⟩ = some (.int .i64 r'.id) := by rw [hW.out]; exact HB.out.cells 1
    have a2 : ((w.alloc (.cells (rc r s) 37)).alloc (.cells (rc r' s') 37)).cell? ⟨w.heap.size, 2, none⟩ = some (.slice s.P.A s.P.n s.P.c) := by rw [hW.out]; exact HA.out.cells 2
    have b2 : ((w.alloc (.cells (rc r s) 37)).alloc (.cells (rc r' s') 37)).cell? ⟨w.heap.size + 1, 2, none⟩ = some (.slice s'.P.A s'.P.n s'.P.c) := by rw [hW.out]; exact HB.out.cells 2
    go_enter Try.func28, Try.ntmps28
    go_wp2_with fail
    have hW' := hW.out
    rw [hW']
    clear hW hW'
    clear a0 b0 a1 b1 a2 b2
    refine (sameP_eq s.P s'.P _ _ r.P r'.P _ S1.out.1 S2.out.1 (few_P S1.out F1.out) (few_P S2.out F2.out) e2).mono ?_
    rintro e u2 ⟨rfl, hb⟩
    have HA := hide (HA.out.step hb)
    have HB := hide (HB.out.step hb)
    have S1 := hide (S1.out.step hb)
    have S2 := hide (S2.out.step hb)
    have BW := hide (BW.out.trans (hb.mono BW.out.size))
    clear hb
    have a3 : u2.cell? ⟨w.heap.size, 3, none⟩ = some (.slice s.O.A s.O.n s.O.c) := HA.out.cells 3
    have b3 : u2.cell? ⟨w.heap.size + 1, 3, none⟩ = some (.slice s'.O.A s'.O.n s'.O.c) := HB.out.cells 3
    go_wp2_with fail
    clear a3 b3
    refine (sameE_ne s.O s'.O _ _ r.O r'.O _ S1.out.2.1 S2.out.2.1 (few_O S1.out F1.out) (few_O S2.out F2.out) e3).mono ?_
    rintro e u3 ⟨rfl, hb⟩
    have HA := hide (HA.out.step hb)
    have HB := hide (HB.out.step hb)
    have S1 := hide (S1.out.step hb)
    have S2 := hide (S2.out.step hb)
    have BW := hide (BW.out.trans (hb.mono BW.out.size))
    clear hb
    go_wp2
    go_ret
    exact ⟨by rw [hres.out]; rfl, BW.out⟩
  have e3 := hide x3
  clear x3
  by_cases x4 : r.I = r'.I
  case neg =>
    have hres : Hid (q = false) := by show _ = _; cases q; rfl; exact absurd (congrArg RL.I (hq.out.1 rfl)) x4
    have e4 := hide x4
    clear x4 hq
    have a0 : ((w.alloc (.cells (rc r s) 37)).alloc (.cells (rc r' s') 37)).cell? ⟨w.heap.size, 0, none⟩ = some (.int .i64 r.er) := by rw [hW.out]; exact HA.out.cells 0
    have b0 : ((w.alloc (.cells (rc r s) 37)).alloc (.cells (rc r' s') 37)).cell? ⟨w.heap.size + 1, 0, none⟩ = some (.int .i64 r'.er) := by rw [hW.out]; exact HB.out.cells 0
    have a1 : ((w.alloc (.cells (rc r s) 37)).alloc (.cells (rc r' s') 37)).cell? ⟨w.heap.size, 1, none⟩ = some (.int .i64 r.id) := by rw [hW.out]; exact HA.out.cells 1
    have b1 : ((w.alloc (.cells (rc r s) 37)).alloc (.cells (rc r' s') 37)).cell? ⟨w.heap.size + 1, 1, none⟩ = some (.int .i64 r'.id) := by rw [hW.out]; exact HB.out.cells 1
    have a2 : ((w.alloc (.cells (rc r s) 37)).alloc (.cells (rc r' s') 37)).cell? ⟨w.heap.size, 2, none⟩ = some (.slice s.P.A s.P.n s.P.c) := by rw [hW.out]; exact HA.out.cells 2
    have b2 : ((w.alloc (.cells (rc r s) 37)).alloc (.cells (rc r' s') 37)).cell? ⟨w.heap.size + 1, 2, none⟩ = some (.slice s'.P.A s'.P.n s'.P.c) := by rw [hW.out]; exact HB.out.cells 2
    go_enter Try.func28, Try.ntmps28
    go_wp2_with fail
    have hW' := hW.out
    rw [hW']
    clear hW hW'
    clear a0 b0 a1 b1 a2 b2
    refine (sameP_eq s.P s'.P _ _ r.P r'.P _ S1.out.1 S2.out.1 (few_P S1.out F1.out) (few_P S2.out F2.out) e2).mono ?_
    rintro e u2 ⟨rfl, hb⟩
    have HA := hide (HA.out.step hb)
    have HB := hide (HB.out.step hb)
    have S1 := hide (S1.out.step hb)
    have S2 := hide (S2.out.step hb)
    have BW := hide (BW.out.trans (hb.mono BW.out.size))
    clear hb
    have a3 : u2.cell? ⟨w.heap.size, 3, none⟩ = some (.slice s.O.A s.O.n s.O.c) := HA.out.cells 3
    have b3 : u2.cell? ⟨w.heap.size + 1, 3, none⟩ = some (.slice s'.O.A s'.O.n s'.O.c) := HB.out.cells 3
    go_wp2_with fail
    clear a3 b3
    refine (sameE_eq s.O s'.O _ _ r.O r'.O _ S1.out.2.1 S2.out.2.1 (few_O S1.out F1.out) (few_O S2.out F2.out) e3).mono ?_
    rintro e u3 ⟨rfl, hb⟩
    have HA := hide (HA.out.step hb)
    have HB := hide (HB.out.step hb)
    have S1 := hide (S1.out.step hb)
    have S2 := hide (S2.out.step hb)
    have BW := hide (BW.out.trans (hb.mono BW.out.size))
    clear hb
    have a4 : u3.cell? ⟨w.heap.size, 4, none⟩ = some (.slice s.I.A s.I.n s.I.c) := HA.out.cells 4
    have b4 : u3.cell? ⟨w.heap.size + 1, 4, none⟩ = some (.slice s'.I.A s'.I.n s'.I.c) := HB.out.cells 4
    go_wp2_with fail
    clear a4 b4
    refine (sameE_ne s.I s'.I _ _ r.I r'.I _ S1.out.2.2 S2.out.2.2 (few_I S1.out F1.out) (few_I S2.out F2.out) e4).mono ?_
    rintro e u4 ⟨rfl, hb⟩
    have HA := hide (HA.out.step hb)
    have HB := hide (HB.out.step hb)
    have S1 := hide (S1.out.step hb)
    have S2 := hide (S2.out.step hb)
    have BW := hide (BW.out.trans (hb.mono BW.out.size))
    clear hb
    go_wp2
    go_ret
    exact ⟨by rw [hres.out]; rfl, BW.out⟩
  have e4 := hide x4
  clear x4
  have hres : Hid (q = true) := hq.out.2 (by cases r; cases r'; simp only [RL.mk.injEq]; exact ⟨e0.out, e1.out, e2.out, e3.out, e4.out⟩)
  clear hq
  have a0 : ((w.alloc (.cells (rc r s) 37)).alloc (.cells (rc r' s') 37)).cell? ⟨w.heap.size, 0, none⟩ = some (.int .i64 r.er) := by rw [hW.out]; exact HA.out.cells 0
  have b0 : ((w.alloc (.cells (rc r s) 37)).alloc (.cells (rc r' s') 37)).cell? ⟨w.heap.size + 1, 0, none⟩ = some (.int .i64 r'.er) := by rw [hW.out]; exact HB.out.cells 0
  have a1 : ((w.alloc (.cells (rc r s) 37)).alloc (.cells (rc r' s') 37)).cell? ⟨w.heap.size, 1, none⟩ = some (.int .i64 r.id) := by rw [hW.out]; exact HA.out.cells 1
  have b1 : ((w.alloc (.cells (rc r s) 37)).alloc (.cells (rc r' s') 37)).cell? ⟨w.heap.size + 1, 1, none⟩ = some (.int .i64 r'.id) := by rw [hW.out]; exact HB.out.cells 1
  have a2 : ((w.alloc (.cells (rc r s) 37)).alloc (.cells (rc r' s') 37)).cell? ⟨w.heap.size, 2, none⟩ = some (.slice s.P.A s.P.n s.P.c) := by rw [hW.out]; exact HA.out.cells 2
  have b2 : ((w.alloc (.cells (rc r s) 37)).alloc (.cells (rc r' s') 37)).cell? ⟨w.heap.size + 1, 2, none⟩ = some (.slice s'.P.A s'.P.n s'.P.c) := by rw [hW.out]; exact HB.out.cells 2
  go_enter Try.func28, Try.ntmps28
  go_wp2_with fail
  have hW' := hW.out
  rw [hW']
  clear hW hW'
  clear a0 b0 a1 b1 a2 b2
  refine (sameP_eq s.P s'.P _ _ r.P r'.P _ S1.out.1 S2.out.1 (few_P S1.out F1.out) (few_P S2.out F2.out) e2).mono ?_
  rintro e u2 ⟨rfl, hb⟩
  have HA := hide (HA.out.step hb)
  have HB := hide (HB.out.step hb)
  have S1 := hide (S1.out.step hb)
  have S2 := hide (S2.out.step hb)
  have BW := hide (BW.out.trans (hb.mono BW.out.size))
  clear hb
  have a3 : u2.cell? ⟨w.heap.size, 3, none⟩ = some (.slice s.O.A s.O.n s.O.c) := HA.out.cells 3
  have b3 : u2.cell? ⟨w.heap.size + 1, 3, none⟩ = some (.slice s'.O.A s'.O.n s'.O.c) := HB.out.cells 3
  go_wp2_with fail
  clear a3 b3
  refine (sameE_eq s.O s'.O _ _ r.O r'.O _ S1.out.2.1 S2.out.2.1 (few_O S1.out F1.out) (few_O S2.out F2.out) e3).mono ?_
  rintro e u3 ⟨rfl, hb⟩
  have HA := hide (HA.out.step hb)
  have HB := hide (HB.out.step hb)
  have S1 := hide (S1.out.step hb)
  have S2 := hide (S2.out.step hb)
  have BW := hide (BW.out.trans (hb.mono BW.out.size))
  clear hb
  have a4 : u3.cell? ⟨w.heap.size, 4, none⟩ = some (.slice s.I.A s.I.n s.I.c) := HA.out.cells 4
  have b4 : u3.cell? ⟨w.heap.size + 1, 4, none⟩ = some (.slice s'.I.A s'.I.n s'.I.c) := HB.out.cells 4
  go_wp2_with fail
  clear a4 b4
  refine (sameE_eq s.I s'.I _ _ r.I r'.I _ S1.out.2.2 S2.out.2.2 (few_I S1.out F1.out) (few_I S2.out F2.out) e4).mono ?_
  rintro e u4 ⟨rfl, hb⟩
  have HA := hide (HA.out.step hb)
  have HB := hide (HB.out.step hb)
  have S1 := hide (S1.out.step hb)
  have S2 := hide (S2.out.step hb)
  have BW := hide (BW.out.trans (hb.mono BW.out.size))
  clear hb
  go_wp2
  go_ret
  exact ⟨by rw [hres.out]; rfl, BW.out⟩

set_option maxHeartbeats 2000000 in
theorem csame18 (c c' : Cl) (s s' : S3) (q : Bool) (w : World) (p : RSee w w.heap.size s c.r) (p' : RSee w w.heap.size s' c'.r) (F : MostR c.r) (F' : MostR c'.r) (hq : Hid (q = true ↔ c = c')) :
    Calls Try.prog 18 #[.agg (cc c s), .agg (cc c' s')] w (Drew (.bool q) w) := by
  obtain ⟨W, hW⟩ : ∃ W, Hid ((w.alloc (.cells (cc c s) 39)).alloc (.cells (cc c' s') 39) = W) := ⟨_, rfl⟩
  have BW : Hid (Below w.heap.size w W) := by show Below _ _ _; rw [← hW.out]; exact (((Below.refl _ _).alloc (Nat.le_refl _) _).alloc (by simp) _)
  have HA : Hid (Bx W (w.heap.size) (cc c s) 39) := by
    have h := ((Bx.new w (cc c s) 39).alloc (.cells (cc c' s') 39))
    show Bx _ _ _ _
    rw [← hW.out]
    simpa using h
  have HB : Hid (Bx W (w.heap.size + 1) (cc c' s') 39) := by
    have h := (Bx.new (w.alloc (.cells (cc c s) 39)) (cc c' s') 39)
    show Bx _ _ _ _
    rw [← hW.out]
    simpa using h
  have S1 := hide (p.step BW.out)
  have S2 := hide (p'.step BW.out)
  have F1 := hide F
  have F2 := hide F'
  clear p p' F F'
  by_cases x0 : c.t = c'.t
  case neg =>
    have hres : Hid (q = false) := by show _ = _; cases q; rfl; exact absurd (congrArg Cl.t (hq.out.1 rfl)) x0
    have t0 : (c.t == c'.t) = false := by simpa using x0
    clear x0 hq
    have yat : ((w.alloc (.cells (cc c s) 39)).alloc (.cells (cc c' s') 39)).cell? ⟨w.heap.size, 0, none⟩ = some (.int .i64 c.t) := by rw [hW.out]; exact HA.out.cells 0
    have ybt : ((w.alloc (.cells (cc c s) 39)).alloc (.cells (cc c' s') 39)).cell? ⟨w.heap.size + 1, 0, none⟩ = some (.int .i64 c'.t) := by rw [hW.out]; exact HB.out.cells 0
    go_enter Try.func18, Try.ntmps18
    go_wp2_with fail
    go_ret
    exact ⟨by rw [hres.out]; rfl, by rw [hW.out]; exact BW.out⟩
  have t0 : (c.t == c'.t) = true := by simpa using x0
  have e0 := hide x0
  clear x0
  by_cases x1 : c.o = c'.o
  case neg =>
    have hres : Hid (q = false) := by show _ = _; cases q; rfl; exact absurd (congrArg Cl.o (hq.out.1 rfl)) x1
    have t1 : ∀ u : World, (Op.equalIn 10000 33 (.agg (oc c.o)) (.agg (oc c'.o))).run Try.prog u = .ok false u := fun u => by rw [eq33]; simp [x1]
    clear x1 hq
    have yat : ((w.alloc (.cells (cc c s) 39)).alloc (.cells (cc c' s') 39)).cell? ⟨w.heap.size, 0, none⟩ = some (.int .i64 c.t) := by rw [hW.out]; exact HA.out.cells 0
    have ybt : ((w.alloc (.cells (cc c s) 39)).alloc (.cells (cc c' s') 39)).cell? ⟨w.heap.size + 1, 0, none⟩ = some (.int .i64 c'.t) := by rw [hW.out]; exact HB.out.cells 0
    have ao : Lies ((w.alloc (.cells (cc c s) 39)).alloc (.cells (cc c' s') 39)) w.heap.size 1 (oc c.o) := by rw [hW.out]; exact HA.out.co
    have bo : Lies ((w.alloc (.cells (cc c s) 39)).alloc (.cells (cc c' s') 39)) (w.heap.size + 1) 1 (oc c'.o) := by rw [hW.out]; exact HB.out.co
    go_enter Try.func18, Try.ntmps18
    go_wp2_with (first | ((with_reducible refine ld33 (.tmp 11) w.heap.size 1 ?_ ?_ c.o ?_ ?_); (exact rfl); (exact rfl); (exact ao)) | ((with_reducible refine ld33 (.tmp 13) (w.heap.size + 1) 1 ?_ ?_ c'.o ?_ ?_); (exact rfl); (exact rfl); (exact bo)))
    go_ret
    exact ⟨by rw [hres.out]; rfl, by rw [hW.out]; exact BW.out⟩
  have t1 : ∀ u : World, (Op.equalIn 10000 33 (.agg (oc c.o)) (.agg (oc c'.o))).run Try.prog u = .ok true u := fun u => by rw [eq33]; simp [x1]
  have e1 := hide x1
  clear x1
  by_cases x2 : c.f = c'.f
  case neg =>
    have hres : Hid (q = false) := by show _ = _; cases q; rfl; exact absurd (congrArg Cl.f (hq.out.1 rfl)) x2
    have t2 : (c.f == c'.f) = false := by simpa using x2
    clear x2 hq
    have yat : ((w.alloc (.cells (cc c s) 39)).alloc (.cells (cc c' s') 39)).cell? ⟨w.heap.size, 0, none⟩ = some (.int .i64 c.t) := by rw [hW.out]; exact HA.out.cells 0
    have ybt : ((w.alloc (.cells (cc c s) 39)).alloc (.cells (cc c' s') 39)).cell? ⟨w.heap.size + 1, 0, none⟩ = some (.int .i64 c'.t) := by rw [hW.out]; exact HB.out.cells 0
    have yaf : ((w.alloc (.cells (cc c s) 39)).alloc (.cells (cc c' s') 39)).cell? ⟨w.heap.size, 6, none⟩ = some (.int .i64 c.f) := by rw [hW.out]; exact HA.out.cells 6
    have ybf : ((w.alloc (.cells (cc c s) 39)).alloc (.cells (cc c' s') 39)).cell? ⟨w.heap.size + 1, 6, none⟩ = some (.int .i64 c'.f) := by rw [hW.out]; exact HB.out.cells 6
    have ao : Lies ((w.alloc (.cells (cc c s) 39)).alloc (.cells (cc c' s') 39)) w.heap.size 1 (oc c.o) := by rw [hW.out]; exact HA.out.co
    have bo : Lies ((w.alloc (.cells (cc c s) 39)).alloc (.cells (cc c' s') 39)) (w.heap.size + 1) 1 (oc c'.o) := by rw [hW.out]; exact HB.out.co
    go_enter Try.func18, Try.ntmps18
    go_wp2_with (first | ((with_reducible refine ld33 (.tmp 11) w.heap.size 1 ?_ ?_ c.o ?_ ?_); (exact rfl); (exact rfl); (exact ao)) | ((with_reducible refine ld33 (.tmp 13) (w.heap.size + 1) 1 ?_ ?_ c'.o ?_ ?_); (exact rfl); (exact rfl); (exact bo)))
    go_ret
    exact ⟨by rw [hres.out]; rfl, by rw [hW.out]; exact BW.out⟩
  have t2 : (c.f == c'.f) = true := by simpa using x2
  have e2 := hide x2
  clear x2
  by_cases x3 : c.e = c'.e
  case neg =>
    have hres : Hid (q = false) := by show _ = _; cases q; rfl; exact absurd (congrArg Cl.e (hq.out.1 rfl)) x3
    have t3 : (c.e == c'.e) = false := by simpa using x3
    clear x3 hq
    have yat : ((w.alloc (.cells (cc c s) 39)).alloc (.cells (cc c' s') 39)).cell? ⟨w.heap.size, 0, none⟩ = some (.int .i64 c.t) := by rw [hW.out]; exact HA.out.cells 0
    have ybt : ((w.alloc (.cells (cc c s) 39)).alloc (.cells (cc c' s') 39)).cell? ⟨w.heap.size + 1, 0, none⟩ = some (.int .i64 c'.t) := by rw [hW.out]; exact HB.out.cells 0
    have yaf : ((w.alloc (.cells (cc c s) 39)).alloc (.cells (cc c' s') 39)).cell? ⟨w.heap.size, 6, none⟩ = some (.int .i64 c.f) := by rw [hW.out]; exact HA.out.cells 6
    have ybf : ((w.alloc (.cells (cc c s) 39)).alloc (.cells (cc c' s') 39)).cell? ⟨w.heap.size + 1, 6, none⟩ = some (.int .i64 c'.f) := by rw [hW.out]; exact HB.out.cells 6
    have yae : ((w.alloc (.cells (cc c s) 39)).alloc (.cells (cc c' s') 39)).cell? ⟨w.heap.size, 7, none⟩ = some (.int .i64 c.e) := by rw [hW.out]; exact HA.out.cells 7
    have ybe : ((w.alloc (.cells (cc c s) 39)).alloc (.cells (cc c' s') 39)).cell? ⟨w.heap.size + 1, 7, none⟩ = some (.int .i64 c'.e) := by rw [hW.out]; exact HB.out.cells 7
    have ao : Lies ((w.alloc (.cells (cc c s) 39)).alloc (.cells (cc c' s') 39)) w.heap.size 1 (oc c.o) := by rw [hW.out]; exact HA.out.co
    have bo : Lies ((w.alloc (.cells (cc c s) 39)).alloc (.cells (cc c' s') 39)) (w.heap.size + 1) 1 (oc c'.o) := by rw [hW.out]; exact HB.out.co
    go_enter Try.func18, Try.ntmps18
    go_wp2_with (first | ((with_reducible refine ld33 (.tmp 11) w.heap.size 1 ?_ ?_ c.o ?_ ?_); (exact rfl); (exact rfl); (exact ao)) | ((with_reducible refine ld33 (.tmp 13) (w.heap.size + 1) 1 ?_ ?_ c'.o ?_ ?_); (exact rfl); (exact rfl); (exact bo)))
    go_ret
    exact ⟨by rw [hres.out]; rfl, by rw [hW.out]; exact BW.out⟩
  have t3 : (c.e == c'.e) = true := by simpa using x3
  have e3 := hide x3
  clear x3
  have hqr : Hid (q = true ↔ c.r = c'.r) := by
    refine hq.out.trans ⟨fun h => congrArg Cl.r h, fun h => ?_⟩
    cases c; cases c'; simp only [Cl.mk.injEq]; exact ⟨e0.out, e1.out, e2.out, e3.out, h⟩
  clear hq
  have yat : ((w.alloc (.cells (cc c s) 39)).alloc (.cells (cc c' s') 39)).cell? ⟨w.heap.size, 0, none⟩ = some (.int .i64 c.t) := by rw [hW.out]; exact HA.out.cells 0
  have ybt : ((w.alloc (.cells (cc c s) 39)).alloc (.cells (cc c' s') 39)).cell? ⟨w.heap.size + 1, 0, none⟩ = some (.int .i64 c'.t) := by rw [hW.out]; exact HB.out.cells 0
  have yaf : ((w.alloc (.cells (cc c s) 39)).alloc (.cells (cc c' s') 39)).cell? ⟨w.heap.size, 6, none⟩ = some (.int .i64 c.f) := by rw [hW.out]; exact HA.out.cells 6
  have ybf : ((w.alloc (.cells (cc c s) 39)).alloc (.cells (cc c' s') 39)).cell? ⟨w.heap.size + 1, 6, none⟩ = some (.int .i64 c'.f) := by rw [hW.out]; exact HB.out.cells 6
  have yae : ((w.alloc (.cells (cc c s) 39)).alloc (.cells (cc c' s') 39)).cell? ⟨w.heap.size, 7, none⟩ = some (.int .i64 c.e) := by rw [hW.out]; exact HA.out.cells 7
  have ybe : ((w.alloc (.cells (cc c s) 39)).alloc (.cells (cc c' s') 39)).cell? ⟨w.heap.size + 1, 7, none⟩ = some (.int .i64 c'.e) := by rw [hW.out]; exact HB.out.cells 7
  have ao : Lies ((w.alloc (.cells (cc c s) 39)).alloc (.cells (cc c' s') 39)) w.heap.size 1 (oc c.o) := by rw [hW.out]; exact HA.out.co
  have bo : Lies ((w.alloc (.cells (cc c s) 39)).alloc (.cells (cc c' s') 39)) (w.heap.size + 1) 1 (oc c'.o) := by rw [hW.out]; exact HB.out.co
  have ar : Lies ((w.alloc (.cells (cc c s) 39)).alloc (.cells (cc c' s') 39)) w.heap.size 8 (rc c.r s) := by rw [hW.out]; exact HA.out.cr
  have br : Lies ((w.alloc (.cells (cc c s) 39)).alloc (.cells (cc c' s') 39)) (w.heap.size + 1) 8 (rc c'.r s') := by rw [hW.out]; exact HB.out.cr
  go_enter Try.func18, Try.ntmps18
  go_wp2_with (first | ((with_reducible refine ld33 (.tmp 11) w.heap.size 1 ?_ ?_ c.o ?_ ?_); (exact rfl); (exact rfl); (exact ao)) | ((with_reducible refine ld33 (.tmp 13) (w.heap.size + 1) 1 ?_ ?_ c'.o ?_ ?_); (exact rfl); (exact rfl); (exact bo)) | ((with_reducible refine ld37 (.tmp 32) w.heap.size 8 ?_ ?_ c.r s ?_ ?_); (exact rfl); (exact rfl); (exact ar)) | ((with_reducible refine ld37 (.tmp 34) (w.heap.size + 1) 8 ?_ ?_ c'.r s' ?_ ?_); (exact rfl); (exact rfl); (exact br)))
  have hW' := hW.out
  rw [hW']
  clear hW hW'
  clear ao bo ar br
  refine (same30 c.r c'.r s s' q _ S1.out S2.out F1.out F2.out hqr).mono ?_
  rintro e u1 ⟨rfl, hb⟩
  have HA := hide (HA.out.step hb)
  have HB := hide (HB.out.step hb)
  have S1 := hide (S1.out.step hb)
  have S2 := hide (S2.out.step hb)
  have BW := hide (BW.out.trans (hb.mono BW.out.size))
  clear hb
  go_wp2
  go_ret
  exact ⟨rfl, BW.out⟩

set_option maxHeartbeats 2000000 in
theorem csame19 (c c' : Cl) (s s' : S3) (q : Bool) (w : World) (p : RSee w w.heap.size s c.r) (p' : RSee w w.heap.size s' c'.r) (F : MostR c.r) (F' : MostR c'.r) (hq : Hid (q = true ↔ c = c')) :
    Calls Try.prog 19 #[.agg (cc c s), .agg (cc c' s')] w (Drew (.bool q) w) := by
  obtain ⟨W, hW⟩ : ∃ W, Hid ((w.alloc (.cells (cc c s) 39)).alloc (.cells (cc c' s') 39) = W) := ⟨_, rfl⟩
  have BW : Hid (Below w.heap.size w W) := by show Below _ _ _; rw [← hW.out]; exact (((Below.refl _ _).alloc (Nat.le_refl _) _).alloc (by simp) _)
  have HA : Hid (Bx W (w.heap.size) (cc c s) 39) := by
    have h := ((Bx.new w (cc c s) 39).alloc (.cells (cc c' s') 39))
    show Bx _ _ _ _
    rw [← hW.out]
    simpa using h
  have HB : Hid (Bx W (w.heap.size + 1) (cc c' s') 39) := by
    have h := (Bx.new (w.alloc (.cells (cc c s) 39)) (cc c' s') 39)
    show Bx _ _ _ _
    rw [← hW.out]
    simpa using h
  have S1 := hide (p.step BW.out)
  have S2 := hide (p'.step BW.out)
  have F1 := hide F
  have F2 := hide F'
  clear p p' F F'
  by_cases x0 : c.t = c'.t
  case neg =>
    have hres : Hid (q = false) := by show _ = _; cases q; rfl; exact absurd (congrArg Cl.t (hq.out.1 rfl)) x0
    have t0 : (c.t == c'.t) = false := by simpa using x0
    clear x0 hq
    have yat : ((w.alloc (.cells (cc c s) 39)).alloc (.cells (cc c' s') 39)).cell? ⟨w.heap.size, 0, none⟩ = some (.int .i64 c.t) := by rw [hW.out]; exact HA.out.cells 0
    have ybt : ((w.alloc (.cells (cc c s) 39)).alloc (.cells (cc c' s') 39)).cell? ⟨w.heap.size + 1, 0, none⟩ = some (.int .i64 c'.t) := by rw [hW.out]; exact HB.out.cells 0
    go_enter Try.func19, Try.ntmps19
    go_wp2_with fail
    go_ret
    exact ⟨by rw [hres.out]; rfl, by rw [hW.out]; exact BW.out⟩
  have t0 : (c.t == c'.t) = true := by simpa using x0
  have e0 := hide x0
  clear x0
  by_cases x1 : c.o = c'.o
  case neg =>
    have hres : Hid (q = false) := by show _ = _; cases q; rfl; exact absurd (congrArg Cl.o (hq.out.1 rfl)) x1
    have t1 : ∀ u : World, (Op.equalIn 10000 33 (.agg (oc c.o)) (.agg (oc c'.o))).run Try.prog u = .ok false u := fun u => by rw [eq33]; simp [x1]
    clear x1 hq
    have yat : ((w.alloc (.cells (cc c s) 39)).alloc (.cells (cc c' s') 39)).cell? ⟨w.heap.size, 0, none⟩ = some (.int .i64 c.t) := by rw [hW.out]; exact HA.out.cells 0
    have ybt : ((w.alloc (.cells (cc c s) 39)).alloc (.cells (cc c' s') 39)).cell? ⟨w.heap.size + 1, 0, none⟩ = some (.int .i64 c'.t) := by rw [hW.out]; exact HB.out.cells 0
    have ao : Lies ((w.alloc (.cells (cc c s) 39)).alloc (.cells (cc c' s') 39)) w.heap.size 1 (oc c.o) := by rw [hW.out]; exact HA.out.co
    have bo : Lies ((w.alloc (.cells (cc c s) 39)).alloc (.cells (cc c' s') 39)) (w.heap.size + 1) 1 (oc c'.o) := by rw [hW.out]; exact HB.out.co
    go_enter Try.func19, Try.ntmps19
    go_wp2_with (first | ((with_reducible refine ld33 (.tmp 11) w.heap.size 1 ?_ ?_ c.o ?_ ?_); (exact rfl); (exact rfl); (exact ao)) | ((with_reducible refine ld33 (.tmp 13) (w.heap.size + 1) 1 ?_ ?_ c'.o ?_ ?_); (exact rfl); (exact rfl); (exact bo)))
    go_ret
    exact ⟨by rw [hres.out]; rfl, by rw [hW.out]; exact BW.out⟩
  have t1 : ∀ u : World, (Op.equalIn 10000 33 (.agg (oc c.o)) (.agg (oc c'.o))).run Try.prog u = .ok true u := fun u => by rw [eq33]; simp [x1]
  have e1 := hide x1
  clear x1
  by_cases x2 : c.f = c'.f
  case neg =>
    have hres : Hid (q = false) := by show _ = _; cases q; rfl; exact absurd (congrArg Cl.f (hq.out.1 rfl)) x2
    have t2 : (c.f == c'.f) = false := by simpa using x2
    clear x2 hq
    have yat : ((w.alloc (.cells (cc c s) 39)).alloc (.cells (cc c' s') 39)).cell? ⟨w.heap.size, 0, none⟩ = some (.int .i64 c.t) := by rw [hW.out]; exact HA.out.cells 0
    have ybt : ((w.alloc (.cells (cc c s) 39)).alloc (.cells (cc c' s') 39)).cell? ⟨w.heap.size + 1, 0, none⟩ = some (.int .i64 c'.t) := by rw [hW.out]; exact HB.out.cells 0
    have yaf : ((w.alloc (.cells (cc c s) 39)).alloc (.cells (cc c' s') 39)).cell? ⟨w.heap.size, 6, none⟩ = some (.int .i64 c.f) := by rw [hW.out]; exact HA.out.cells 6
    have ybf : ((w.alloc (.cells (cc c s) 39)).alloc (.cells (cc c' s') 39)).cell? ⟨w.heap.size + 1, 6, none⟩ = some (.int .i64 c'.f) := by rw [hW.out]; exact HB.out.cells 6
    have ao : Lies ((w.alloc (.cells (cc c s) 39)).alloc (.cells (cc c' s') 39)) w.heap.size 1 (oc c.o) := by rw [hW.out]; exact HA.out.co
    have bo : Lies ((w.alloc (.cells (cc c s) 39)).alloc (.cells (cc c' s') 39)) (w.heap.size + 1) 1 (oc c'.o) := by rw [hW.out]; exact HB.out.co
    go_enter Try.func19, Try.ntmps19
    go_wp2_with (first | ((with_reducible refine ld33 (.tmp 11) w.heap.size 1 ?_ ?_ c.o ?_ ?_); (exact rfl); (exact rfl); (exact ao)) | ((with_reducible refine ld33 (.tmp 13) (w.heap.size + 1) 1 ?_ ?_ c'.o ?_ ?_); (exact rfl); (exact rfl); (exact bo)))
    go_ret
    exact ⟨by rw [hres.out]; rfl, by rw [hW.out]; exact BW.out⟩
  have t2 : (c.f == c'.f) = true := by simpa using x2
  have e2 := hide x2
  clear x2
  by_cases x3 : c.e = c'.e
  case neg =>
    have hres : Hid (q = false) := by show _ = _; cases q; rfl; exact absurd (congrArg Cl.e (hq.out.1 rfl)) x3
    have t3 : (c.e == c'.e) = false := by simpa using x3
    clear x3 hq
    have yat : ((w.alloc (.cells (cc c s) 39)).alloc (.cells (cc c' s') 39)).cell? ⟨w.heap.size, 0, none⟩ = some (.int .i64 c.t) := by rw [hW.out]; exact HA.out.cells 0
    have ybt : ((w.alloc (.cells (cc c s) 39)).alloc (.cells (cc c' s') 39)).cell? ⟨w.heap.size + 1, 0, none⟩ = some (.int .i64 c'.t) := by rw [hW.out]; exact HB.out.cells 0
    have yaf : ((w.alloc (.cells (cc c s) 39)).alloc (.cells (cc c' s') 39)).cell? ⟨w.heap.size, 6, none⟩ = some (.int .i64 c.f) := by rw [hW.out]; exact HA.out.cells 6
    have ybf : ((w.alloc (.cells (cc c s) 39)).alloc (.cells (cc c' s') 39)).cell? ⟨w.heap.size + 1, 6, none⟩ = some (.int .i64 c'.f) := by rw [hW.out]; exact HB.out.cells 6
    have yae : ((w.alloc (.cells (cc c s) 39)).alloc (.cells (cc c' s') 39)).cell? ⟨w.heap.size, 7, none⟩ = some (.int .i64 c.e) := by rw [hW.out]; exact HA.out.cells 7
    have ybe : ((w.alloc (.cells (cc c s) 39)).alloc (.cells (cc c' s') 39)).cell? ⟨w.heap.size + 1, 7, none⟩ = some (.int .i64 c'.e) := by rw [hW.out]; exact HB.out.cells 7
    have ao : Lies ((w.alloc (.cells (cc c s) 39)).alloc (.cells (cc c' s') 39)) w.heap.size 1 (oc c.o) := by rw [hW.out]; exact HA.out.co
    have bo : Lies ((w.alloc (.cells (cc c s) 39)).alloc (.cells (cc c' s') 39)) (w.heap.size + 1) 1 (oc c'.o) := by rw [hW.out]; exact HB.out.co
    go_enter Try.func19, Try.ntmps19
    go_wp2_with (first | ((with_reducible refine ld33 (.tmp 11) w.heap.size 1 ?_ ?_ c.o ?_ ?_); (exact rfl); (exact rfl); (exact ao)) | ((with_reducible refine ld33 (.tmp 13) (w.heap.size + 1) 1 ?_ ?_ c'.o ?_ ?_); (exact rfl); (exact rfl); (exact bo)))
    go_ret
    exact ⟨by rw [hres.out]; rfl, by rw [hW.out]; exact BW.out⟩
  have t3 : (c.e == c'.e) = true := by simpa using x3
  have e3 := hide x3
  clear x3
  have hqr : Hid (q = true ↔ c.r = c'.r) := by
    refine hq.out.trans ⟨fun h => congrArg Cl.r h, fun h => ?_⟩
    cases c; cases c'; simp only [Cl.mk.injEq]; exact ⟨e0.out, e1.out, e2.out, e3.out, h⟩
  clear hq
  have yat : ((w.alloc (.cells (cc c s) 39)).alloc (.cells (cc c' s') 39)).cell? ⟨w.heap.size, 0, none⟩ = some (.int .i64 c.t) := by rw [hW.out]; exact HA.out.cells 0
  have ybt : ((w.alloc (.cells (cc c s) 39)).alloc (.cells (cc c' s') 39)).cell? ⟨w.heap.size + 1, 0, none⟩ = some (.int .i64 c'.t) := by rw [hW.out]; exact HB.out.cells 0
  have yaf : ((w.alloc (.cells (cc c s) 39)).alloc (.cells (cc c' s') 39)).cell? ⟨w.heap.size, 6, none⟩ = some (.int .i64 c.f) := by rw [hW.out]; exact HA.out.cells 6
  have ybf : ((w.alloc (.cells (cc c s) 39)).alloc (.cells (cc c' s') 39)).cell? ⟨w.heap.size + 1, 6, none⟩ = some (.int .i64 c'.f) := by rw [hW.out]; exact HB.out.cells 6
  have yae : ((w.alloc (.cells (cc c s) 39)).alloc (.cells (cc c' s') 39)).cell? ⟨w.heap.size, 7, none⟩ = some (.int .i64 c.e) := by rw [hW.out]; exact HA.out.cells 7
  have ybe : ((w.alloc (.cells (cc c s) 39)).alloc (.cells (cc c' s') 39)).cell? ⟨w.heap.size + 1, 7, none⟩ = some (.int .i64 c'.e) := by rw [hW.out]; exact HB.out.cells 7
  have ao : Lies ((w.alloc (.cells (cc c s) 39)).alloc (.cells (cc c' s') 39)) w.heap.size 1 (oc c.o) := by rw [hW.out]; exact HA.out.co
  have bo : Lies ((w.alloc (.cells (cc c s) 39)).alloc (.cells (cc c' s') 39)) (w.heap.size + 1) 1 (oc c'.o) := by rw [hW.out]; exact HB.out.co
  have ar : Lies ((w.alloc (.cells (cc c s) 39)).alloc (.cells (cc c' s') 39)) w.heap.size 8 (rc c.r s) := by rw [hW.out]; exact HA.out.cr
  have br : Lies ((w.alloc (.cells (cc c s) 39)).alloc (.cells (cc c' s') 39)) (w.heap.size + 1) 8 (rc c'.r s') := by rw [hW.out]; exact HB.out.cr
  go_enter Try.func19, Try.ntmps19
  go_wp2_with (first | ((with_reducible refine ld33 (.tmp 11) w.heap.size 1 ?_ ?_ c.o ?_ ?_); (exact rfl); (exact rfl); (exact ao)) | ((with_reducible refine ld33 (.tmp 13) (w.heap.size + 1) 1 ?_ ?_ c'.o ?_ ?_); (exact rfl); (exact rfl); (exact bo)) | ((with_reducible refine ld37 (.tmp 32) w.heap.size 8 ?_ ?_ c.r s ?_ ?_); (exact rfl); (exact rfl); (exact ar)) | ((with_reducible refine ld37 (.tmp 34) (w.heap.size + 1) 8 ?_ ?_ c'.r s' ?_ ?_); (exact rfl); (exact rfl); (exact br)))
  have hW' := hW.out
  rw [hW']
  clear hW hW'
  clear ao bo ar br
  refine (same28 c.r c'.r s s' q _ S1.out S2.out F1.out F2.out hqr).mono ?_
  rintro e u1 ⟨rfl, hb⟩
  have HA := hide (HA.out.step hb)
  have HB := hide (HB.out.step hb)
  have S1 := hide (S1.out.step hb)
  have S2 := hide (S2.out.step hb)
  have BW := hide (BW.out.trans (hb.mono BW.out.size))
  clear hb
  go_wp2
  go_ret
  exact ⟨rfl, BW.out⟩

end Go.Proofs.Ytfefkdedgceomaa
