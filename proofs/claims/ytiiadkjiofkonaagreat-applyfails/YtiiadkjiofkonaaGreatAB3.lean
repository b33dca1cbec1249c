/- Whether two results are the same: the code and the document. Conditions: lists that are not great. Rows of results that are the call's own: made, read, written, grown; rows of operations that came in. No conditions. Operations done one after the other: the code. Conditions: not many. Which record an operation takes: the code. Conditions: a small graph. -/
import Derived.Test.YtiiadkjiofkonaaGreatAB2
import Derived.Test.YtiiadkjiofkonaaGreatGWalksB
import Derived.Test.YtiiadkjiofkonaaGreatGSame
import Derived.WalkKit
import Derived.Below
import Derived.Deep.QuietTactic
import Derived.BigQuiet
import Derived.Deep.AppendLies
import Derived.Deep.RegionHeld3
import Derived.Deep.DeepCutAuto
import Derived.Shelf.Abstract
import Derived.Test.YtiiadkjiofkonaaGreatRLaws
import Derived.Laws.OwnMore
import Derived.Laws.Rows
import Derived.Test.YtiiadkjiofkonaaGreatAB8
namespace Go.Proofs.YtiiadkjiofkonaaGreat
open Go.RowKit
set_option linter.unusedVariables false
set_option maxRecDepth 100000

/-- Lists that are not great. -/
structure Most (r : RL) : Prop where
  P : r.P.length ≤ 17592186044416
  O : r.O.length ≤ 17592186044416
  I : r.I.length ≤ 17592186044416
theorem Most.nil {er id : Int} : Most ⟨er, id, [], [], []⟩ := ⟨by simp, by simp, by simp⟩
theorem Few.most {k : Nat} {G : GL} {c3 c4 : Int} {o : O5} (f : Few k G) (h : k ≤ 1000) : Most (doR c3 c4 G o).2 := by
  have h1 := few_res (c3 := c3) (c4 := c4) (o := o) f
  exact ⟨by show (inR c3 c4 G o).2.P.length ≤ _; omega, by show (inR c3 c4 G o).2.O.length ≤ _; omega, by show (inR c3 c4 G o).2.I.length ≤ _; omega⟩
theorem most_P {u : World} {B : Nat} {s : S3} {r : RL} (S : RSee u B s r) (F : Most r) : s.P.n ≤ 17592186044416 := by have := S.1.len; have := F.P; omega
theorem most_O {u : World} {B : Nat} {s : S3} {r : RL} (S : RSee u B s r) (F : Most r) : s.O.n ≤ 17592186044416 := by have := S.2.1.len; have := F.O; omega
theorem most_I {u : World} {B : Nat} {s : S3} {r : RL} (S : RSee u B s r) (F : Most r) : s.I.n ≤ 17592186044416 := by have := S.2.2.len; have := F.I; omega

set_option maxHeartbeats 2000000 in
theorem rsame_any (r r' : RL) (s s' : S3) (q : Bool) (w : World) (p : RSee w w.heap.size s r) (p' : RSee w w.heap.size s' r') (F : Most r) (F' : Most r') (hq : Hid (q = true ↔ r = r')) :
    Calls Tryz.prog 14 #[.agg (rc r s), .agg (rc r' s')] w (Drew (.bool q) w) := by
  obtain ⟨W, hW⟩ : ∃ W, Hid ((w.alloc (.cells (rc r s) 37)).alloc (.cells (rc r' s') 37) = W) := ⟨_, rfl⟩
  have BW : Hid (Below w.heap.size w W) := by show Below _ _ _; rw [← hW.out]; exact (((Below.refl _ _).alloc (Nat.le_refl _) _).alloc (by simp) _)
  have HA : Hid (Bx W (w.heap.size) (rc r s) 37) := by
    have h := ((Bx.new w (rc r s) 37).alloc (.cells (rc r' s') 37))
    show Bx _ _ _ _
    rw [← hW.out]
    simpa using h
  have HB : Hid (Bx W (w.heap.size + 1) (rc r' s') 37) := by
    have h := (Bx.new (w.alloc (.cells (rc r s) 37)) (rc r' s') 37)
    show Bx _ _ _ _
    rw [← hW.out]
    simpa using h
  have S1 := hide (p.step BW.out)
  have S2 := hide (p'.step BW.out)
  have F1 := hide F
  have F2 := hide F'
  clear p p' F F'
  by_cases x0 : r.er = r'.er
  case neg =>
    have hres : Hid (q = false) := by show _ = _; cases q; rfl; exact absurd (congrArg RL.er (hq.out.1 rfl)) x0
    have t0 : (r.er == r'.er) = false := by simpa using x0
    clear x0 hq
    have a0 : ((w.alloc (.cells (rc r s) 37)).alloc (.cells (rc r' s') 37)).cell? ⟨w.heap.size, 0, none⟩ = some (.int .i64 r.er) := by rw [hW.out]; exact HA.out.cells 0
    have b0 : ((w.alloc (.cells (rc r s) 37)).alloc (.cells (rc r' s') 37)).cell? ⟨w.heap.size + 1, 0, none⟩ = some (.int .i64 r'.er) := by rw [hW.out]; exact HB.out.cells 0
    go_enter Tryz.func14, Tryz.ntmps14
    go_wp2
    go_ret
    exact ⟨by rw [hres.out]; rfl, by rw [hW.out]; exact BW.out⟩
  have t0 : (r.er == r'.er) = true := by simpa using x0
  have e0 := hide x0
  clear x0
  by_cases x1 : r.id = r'.id
  case neg =>
    have hres : Hid (q = false) := by show _ = _; cases q; rfl; exact absurd (congrArg RL.id (hq.out.1 rfl)) x1
    have t1 : (r.id == r'.id) = false := by simpa using x1
    clear x1 hq
    have a0 : ((w.alloc (.cells (rc r s) 37)).alloc (.cells (rc r' s') 37)).cell? ⟨w.heap.size, 0, none⟩ = some (.int .i64 r.er) := by rw [hW.out]; exact HA.out.cells 0
    have b0 : ((w.alloc (.cells (rc r s) 37)).alloc (.cells (rc r' s') 37)).cell? ⟨w.heap.size + 1, 0, none⟩ = some (.int .i64 r'.er) := by rw [hW.out]; exact HB.out.cells 0
    have a1 : ((w.alloc (.cells (rc r s) 37)).alloc (.cells (rc r' s') 37)).cell? ⟨w.heap.size, 1, none⟩ = some (.int .i64 r.id) := by rw [hW.out]; exact HA.out.cells 1
    have b1 : ((w.alloc (.cells (rc r s) 37)).alloc (.cells (rc r' s') 37)).cell? ⟨w.heap.size + 1, 1, none⟩ = some (.int .i64 r'.id) := by rw [hW.out]; exact HB.out.cells 1
    go_enter Tryz.func14, Tryz.ntmps14
    go_wp2
    go_ret
    exact ⟨by rw [hres.out]; rfl, by rw [hW.out]; exact BW.out⟩
  have t1 : (r.id == r'.id) = true := by simpa using x1
  have e1 := hide x1
  clear x1
  by_cases x2 : r.P = r'.P
  case neg =>
    have hres : Hid (q = false) := by show _ = _; cases q; rfl; exact absurd (congrArg RL.P (hq.out.1 rfl)) x2
    have e2 := hide x2
    clear x2 hq
    have a0 : ((w.alloc (.cells (rc r s) 37)).alloc (.cells (rc r' s') 37)).cell? ⟨w.heap.size, 0, none⟩ = some (.int .i64 r.er) := by rw [hW.out]; exact HA.out.cells 0
    have b0 : ((w.alloc (.cells (rc r s) 37)).alloc (.cells (rc r' s') 37)).cell? ⟨w.heap.size + 1, 0, none⟩ = some (.int .i64 r'.er) := by rw [hW.out]; exact HB.out.cells 0
    have a1 : ((w.alloc (.cells (rc r s) 37)).alloc (.cells (rc r' s') 37)).cell? ⟨w.heap.size, 1, none⟩ = some (.int .i64 r.id) := by rw [hW.out]; exact HA.out.cells 1
    have b1 : ((w.alloc (.cells (rc r s) 37)).alloc (.cells (rc r' s') 37)).cell? ⟨w.heap.size + 1, 1, none⟩ = some (.int .i64 r'.id) := by rw [hW.out]; exact HB.out.cells 1
    have a2 : ((w.alloc (.cells (rc r s) 37)).alloc (.cells (rc r' s') 37)).cell? ⟨w.heap.size, 2, none⟩ = some (.slice s.P.A s.P.n s.P.c) := by rw [hW.out]; exact HA.out.cells 2
    have b2 : ((w.alloc (.cells (rc r s) 37)).alloc (.cells (rc r' s') 37)).cell? ⟨w.heap.size + 1, 2, none⟩ = some (.slice s'.P.A s'.P.n s'.P.c) := by rw [hW.out]; exact HB.out.cells 2
    go_enter Tryz.func14, Tryz.ntmps14
    go_wp2_with fail
    have hW' := hW.out
    rw [hW']
    clear hW hW'
    clear a0 b0 a1 b1 a2 b2
    refine (samePairs_ne s.P s'.P _ _ r.P r'.P _ S1.out.1 S2.out.1 (most_P S1.out F1.out) (most_P S2.out F2.out) e2).mono ?_
    rintro e u2 ⟨rfl, hb⟩
    have HA := hide (HA.out.step hb)
    have HB := hide (HB.out.step hb)
    have S1 := hide (S1.out.step hb)
    have S2 := hide (S2.out.step hb)
    have BW := hide (BW.out.trans (hb.mono BW.out.size))
    clear hb
    go_wp2
    go_ret
    exact ⟨by rw [hres.out]; rfl, BW.out⟩
  have e2 := hide x2
  clear x2
  by_cases x3 : r.O = r'.O
  case neg =>
    have hres : Hid (q = false) := by show _ = _; cases q; rfl; exact absurd (congrArg RL.O (hq.out.1 rfl)) x3
    have e3 := hide x3
    clear x3 hq
    have a0 : ((w.alloc (.cells (rc r s) 37)).alloc (.cells (rc r' s') 37)).cell? ⟨w.heap.size, 0, none⟩ = some (.int .i64 r.er) := by rw [hW.out]; exact HA.out.cells 0
    have b0 : ((w.alloc (.cells (rc r s) 37)).alloc (.cells (rc r' s') 37)).cell? ⟨w.heap.size + 1, 0, none⟩ = some (.int .i64 r'.er) := by rw [hW.out]; exact HB.out.cells 0
    have a1 : ((w.alloc (.cells (rc r s) 37)).alloc (.cells (rc r' s') 37)).cell? ⟨w.heap.size, 1, none⟩ = some (.int .i64 r.id) := by rw [hW.out]; exact HA.out.cells 1
    have b1 : ((w.alloc (.cells (rc r s) 37)).alloc (.cells (rc r' s') 37)).cell? ⟨w.heap.size + 1, 1, none⟩ = some (.int .i64 r'.id) := by rw [hW.out]; exact HB.out.cells 1
    have a2 : ((w.alloc (.cells (rc r s) 37)).alloc (.cells (rc r' s') 37)).cell? ⟨w.heap.size, 2, none⟩ = some (.slice s.P.A s.P.n s.P.c) := by rw [hW.out]; exact HA.out.cells 2
    have b2 : ((w.alloc (.cells (rc r s) 37)).alloc (.cells (rc r' s') 37)).cell? ⟨w.heap.size + 1, 2, none⟩ = some (.slice s'.P.A s'.P.n s'.P.c) := by rw [hW.out]; exact HB.out.cells 2
    go_enter Tryz.func14, Tryz.ntmps14
    go_wp2_with fail
    have hW' := hW.out
    rw [hW']
    clear hW hW'
    clear a0 b0 a1 b1 a2 b2
    refine (samePairs_eq s.P s'.P _ _ r.P r'.P _ S1.out.1 S2.out.1 (most_P S1.out F1.out) (most_P S2.out F2.out) e2).mono ?_
    rintro e u2 ⟨rfl, hb⟩
    have HA := hide (HA.out.step hb)
    have HB := hide (HB.out.step hb)
    have S1 := hide (S1.out.step hb)
    have S2 := hide (S2.out.step hb)
    have BW := hide (BW.out.trans (hb.mono BW.out.size))
    clear hb
    have a3 : u2.cell? ⟨w.heap.size, 3, none⟩ = some (.slice s.O.A s.O.n s.O.c) := HA.out.cells 3
    have b3 : u2.cell? ⟨w.heap.size + 1, 3, none⟩ = some (.slice s'.O.A s'.O.n s'.O.c) := HB.out.cells 3
    go_wp2_with fail
    clear a3 b3
    refine (sameEnds_ne s.O s'.O _ _ r.O r'.O _ S1.out.2.1 S2.out.2.1 (most_O S1.out F1.out) (most_O S2.out F2.out) e3).mono ?_
    rintro e u3 ⟨rfl, hb⟩
    have HA := hide (HA.out.step hb)
    have HB := hide (HB.out.step hb)
    have S1 := hide (S1.out.step hb)
    have S2 := hide (S2.out.step hb)
    have BW := hide (BW.out.trans (hb.mono BW.out.size))
    clear hb
    go_wp2
    go_ret
    exact ⟨by rw [hres.out]; rfl, BW.out⟩
  have e3 := hide x3
  clear x3
  by_cases x4 : r.I = r'.I
  case neg =>
    have hres : Hid (q = false) := by show _ = _; cases q; rfl; exact absurd (congrArg RL.I (hq.out.1 rfl)) x4
    have e4 := hide x4
    clear x4 hq
    have a0 : ((w.alloc (.cells (rc r s) 37)).alloc (.cells (rc r' s') 37)).cell? ⟨w.heap.size, 0, none⟩ = some (.int .i64 r.er) := by rw [hW.out]; exact HA.out.cells 0
    have b0 : ((w.alloc (.cells (rc r s) 37)).alloc (.cells (rc r' s') 37)).cell? ⟨w.heap.size + 1, 0, none⟩ = some (.int .i64 r'.er) := by rw [hW.out]; exact HB.out.cells 0
    have a1 : ((w.alloc (.cells (rc r s) 37)).alloc (.cells (rc r' s') 37)).cell? ⟨w.heap.size, 1, none⟩ = some (.int .i64 r.id) := by rw [hW.out]; exact HA.out.cells 1
    have b1 : ((w.alloc (.cells (rc r s) 37)).alloc (.cells (rc r' s') 37)).cell? ⟨w.heap.size + 1, 1, none⟩ = some (.int .i64 r'.id) := by rw [hW.out]; exact HB.out.cells 1
    have a2 : ((w.alloc (.cells (rc r s) 37)).alloc (.cells (rc r' s') 37)).cell? ⟨w.heap.size, 2, none⟩ = some (.slice s.P.A s.P.n s.P.c) := by rw [hW.out]; exact HA.out.cells 2
    have b2 : ((w.alloc (.cells (rc r s) 37)).alloc (.cells (rc r' s') 37)).cell? ⟨w.heap.size + 1, 2, none⟩ = some (.slice s'.P.A s'.P.n s'.P.c) := by rw [hW.out]; exact HB.out.cells 2
    go_enter Tryz.func14, Tryz.ntmps14
    go_wp2_with fail
    have hW' := hW.out
    rw [hW']
    clear hW hW'
    clear a0 b0 a1 b1 a2 b2
    refine (samePairs_eq s.P s'.P _ _ r.P r'.P _ S1.out.1 S2.out.1 (most_P S1.out F1.out) (most_P S2.out F2.out) e2).mono ?_
    rintro e u2 ⟨rfl, hb⟩
    have HA := hide (HA.out.step hb)
    have HB := hide (HB.out.step hb)
    have S1 := hide (S1.out.step hb)
    have S2 := hide (S2.out.step hb)
    have BW := hide (BW.out.trans (hb.mono BW.out.size))
    clear hb
    have a3 : u2.cell? ⟨w.heap.size, 3, none⟩ = some (.slice s.O.A s.O.n s.O.c) := HA.out.cells 3
    have b3 : u2.cell? ⟨w.heap.size + 1, 3, none⟩ = some (.slice s'.O.A s'.O.n s'.O.c) := HB.out.cells 3
    go_wp2_with fail
    clear a3 b3
    refine (sameEnds_eq s.O s'.O _ _ r.O r'.O _ S1.out.2.1 S2.out.2.1 (most_O S1.out F1.out) (most_O S2.out F2.out) e3).mono ?_
    rintro e u3 ⟨rfl, hb⟩
    have HA := hide (HA.out.step hb)
    have HB := hide (HB.out.step hb)
    have S1 := hide (S1.out.step hb)
    have S2 := hide (S2.out.step hb)
    have BW := hide (BW.out.trans (hb.mono BW.out.size))
    clear hb
    have a4 : u3.cell? ⟨w.heap.size, 4, none⟩ = some (.slice s.I.A s.I.n s.I.c) := HA.out.cells 4
    have b4 : u3.cell? ⟨w.heap.size + 1, 4, none⟩ = some (.slice s'.I.A s'.I.n s'.I.c) := HB.out.cells 4
    go_wp2_with fail
    clear a4 b4
    refine (sameEnds_ne s.I s'.I _ _ r.I r'.I _ S1.out.2.2 S2.out.2.2 (most_I S1.out F1.out) (most_I S2.out F2.out) e4).mono ?_
    rintro e u4 ⟨rfl, hb⟩
    have HA := hide (HA.out.step hb)
    have HB := hide (HB.out.step hb)
    have S1 := hide (S1.out.step hb)
    have S2 := hide (S2.out.step hb)
    have BW := hide (BW.out.trans (hb.mono BW.out.size))
    clear hb
    go_wp2
    go_ret
    exact ⟨by rw [hres.out]; rfl, BW.out⟩
  have e4 := hide x4
  clear x4
  have hres : Hid (q = true) := hq.out.2 (by cases r; cases r'; simp only [RL.mk.injEq]; exact ⟨e0.out, e1.out, e2.out, e3.out, e4.out⟩)
  clear hq
  have a0 : ((w.alloc (.cells (rc r s) 37)).alloc (.cells (rc r' s') 37)).cell? ⟨w.heap.size, 0, none⟩ = some (.int .i64 r.er) := by rw [hW.out]; exact HA.out.cells 0
  have b0 : ((w.alloc (.cells (rc r s) 37)).alloc (.cells (rc r' s') 37)).cell? ⟨w.heap.size + 1, 0, none⟩ = some (.int .i64 r'.er) := by rw [hW.out]; exact HB.out.cells 0
  have a1 : ((w.alloc (.cells (rc r s) 37)).alloc (.cells (rc r' s') 37)).cell? ⟨w.heap.size, 1, none⟩ = some (.int .i64 r.id) := by rw [hW.out]; exact HA.out.cells 1
  have b1 : ((w.alloc (.cells (rc r s) 37)).alloc (.cells (rc r' s') 37)).cell? ⟨w.heap.size + 1, 1, none⟩ = some (.int .i64 r'.id) := by rw [hW.out]; exact HB.out.cells 1
  have a2 : ((w.alloc (.cells (rc r s) 37)).alloc (.cells (rc r' s') 37)).cell? ⟨w.heap.size, 2, none⟩ = some (.slice s.P.A s.P.n s.P.c) := by rw [hW.out]; exact HA.out.cells 2
  have b2 : ((w.alloc (.cells (rc r s) 37)).alloc (.cells (rc r' s') 37)).cell? ⟨w.heap.size + 1, 2, none⟩ = some (.slice s'.P.A s'.P.n s'.P.c) := by rw [hW.out]; exact HB.out.cells 2
  go_enter Tryz.func14, Tryz.ntmps14
  go_wp2_with fail
  have hW' := hW.out
  rw [hW']
  clear hW hW'
  clear a0 b0 a1 b1 a2 b2
  refine (samePairs_eq s.P s'.P _ _ r.P r'.P _ S1.out.1 S2.out.1 (most_P S1.out F1.out) (most_P S2.out F2.out) e2).mono ?_
  rintro e u2 ⟨rfl, hb⟩
  have HA := hide (HA.out.step hb)
  have HB := hide (HB.out.step hb)
  have S1 := hide (S1.out.step hb)
  have S2 := hide (S2.out.step hb)
  have BW := hide (BW.out.trans (hb.mono BW.out.size))
  clear hb
  have a3 : u2.cell? ⟨w.heap.size, 3, none⟩ = some (.slice s.O.A s.O.n s.O.c) := HA.out.cells 3
  have b3 : u2.cell? ⟨w.heap.size + 1, 3, none⟩ = some (.slice s'.O.A s'.O.n s'.O.c) := HB.out.cells 3
  go_wp2_with fail
  clear a3 b3
  refine (sameEnds_eq s.O s'.O _ _ r.O r'.O _ S1.out.2.1 S2.out.2.1 (most_O S1.out F1.out) (most_O S2.out F2.out) e3).mono ?_
  rintro e u3 ⟨rfl, hb⟩
  have HA := hide (HA.out.step hb)
  have HB := hide (HB.out.step hb)
  have S1 := hide (S1.out.step hb)
  have S2 := hide (S2.out.step hb)
  have BW := hide (BW.out.trans (hb.mono BW.out.size))
  clear hb
  have a4 : u3.cell? ⟨w.heap.size, 4, none⟩ = some (.slice s.I.A s.I.n s.I.c) := HA.out.cells 4
  have b4 : u3.cell? ⟨w.heap.size + 1, 4, none⟩ = some (.slice s'.I.A s'.I.n s'.I.c) := HB.out.cells 4
  go_wp2_with fail
  clear a4 b4
  refine (sameEnds_eq s.I s'.I _ _ r.I r'.I _ S1.out.2.2 S2.out.2.2 (most_I S1.out F1.out) (most_I S2.out F2.out) e4).mono ?_
  rintro e u4 ⟨rfl, hb⟩
  have HA := hide (HA.out.step hb)
  have HB := hide (HB.out.step hb)
  have S1 := hide (S1.out.step hb)
  have S2 := hide (S2.out.step hb)
  have BW := hide (BW.out.trans (hb.mono BW.out.size))
  clear hb
  go_wp2
  go_ret
  exact ⟨by rw [hres.out]; rfl, BW.out⟩

set_option maxHeartbeats 1000000 in
theorem eqX_yes (h h' : Sl) (B B' : Nat) (l : List Pr) (w : World) (p : Props w B h l) (p' : Props w B' h' l) (hn : h.n ≤ 17592186044416) :
    Calls Tryz.prog 46 #[h.val, h'.val] w (Drew (.bool true) w) := by
  obtain ⟨A, n, c⟩ := h
  obtain ⟨A', n', c'⟩ := h'
  show Calls Tryz.prog 46 #[.slice A n c, .slice A' n' c'] w _
  have e1 := p.len
  have e2 := p'.len
  dsimp only at e1 e2 hn
  obtain rfl : n = n' := by omega
  clear e1 e2
  have h0 : (((n : Nat) : Int) != (n : Int)) = false := by simp
  go_enter Tryz.func46, Tryz.ntmps46
  go_wp2
  go_loopw [13] (fun i wr => ∃ k q : Nat, k ≤ n ∧ i = .int .i64 k ∧ wr = w.drewN q) (fun i _ => n - (intOf i).toNat)
  case atStart => exact ⟨0, 0, by omega, rfl, rfl⟩
  case round =>
    obtain ⟨k, q, hk, rfl, rfl⟩ := hrel
    by_cases hlt : k < n
    · obtain ⟨b, off, e, _, hc0, hc1⟩ := p.at_ (k := k) hlt
      obtain ⟨b', off', e', _, hd0, hd1⟩ := p'.at_ (k := k) hlt
      dsimp only at e e'
      subst e e'
      generalize (l.getD k (0, 0)).1 = x at hc0 hd0
      generalize (l.getD k (0, 0)).2 = y at hc1 hd1
      have he : ∀ u : World, (Op.equalIn 10000 85 (.agg #[.int .i64 x, .int .i64 y]) (.agg #[.int .i64 x, .int .i64 y])).run Tryz.prog u = .ok true u := fun u => by rw [eq78]; simp
      have i1 : (0 : Int) ≤ (k : Int) := by omega
      have i2 : (k : Int) < (n : Int) := by omega
      go_wp2
      go_quiet (fail)
      go_wp2
      go_roundw
      case rel => exact ⟨k + 1, _, by omega, by go_num, rfl⟩
      case measure => simp [intOf]; omega
    · go_wp2
      go_ret
      exact ⟨rfl, Below.drewN (Below.refl _ _) _⟩

set_option maxHeartbeats 1000000 in
theorem eqX_no (h h' : Sl) (B B' : Nat) (l l' : List Pr) (w : World) (p : Props w B h l) (p' : Props w B' h' l') (hn : h.n ≤ 17592186044416) (hn' : h'.n ≤ 17592186044416) (hd : Hid (l ≠ l')) :
    Calls Tryz.prog 46 #[h.val, h'.val] w (Drew (.bool false) w) := by
  obtain ⟨A, n, c⟩ := h
  obtain ⟨A', n', c'⟩ := h'
  show Calls Tryz.prog 46 #[.slice A n c, .slice A' n' c'] w _
  have e1 := hide p.len
  have e2 := hide p'.len
  dsimp only at e1 e2 hn hn'
  by_cases hnn : n = n'
  · subst hnn
    have h0 : (((n : Nat) : Int) != (n : Int)) = false := by simp
    go_enter Tryz.func46, Tryz.ntmps46
    go_wp2
    go_loopw [13] (fun i wr => ∃ k q : Nat, k ≤ n ∧ i = .int .i64 k ∧ Hid (∀ j, j < k → l.getD j (0, 0) = l'.getD j (0, 0)) ∧ wr = w.drewN q) (fun i _ => n - (intOf i).toNat)
    case atStart => exact ⟨0, 0, by omega, rfl, (fun j hj => by omega), rfl⟩
    case round =>
      obtain ⟨k, q, hk, rfl, HS, rfl⟩ := hrel
      by_cases hlt : k < n
      · obtain ⟨b, off, e, _, hc0, hc1⟩ := p.at_ (k := k) hlt
        obtain ⟨b', off', e', _, hd0, hd1⟩ := p'.at_ (k := k) hlt
        dsimp only at e e'
        subst e e'
        have i1 : (0 : Int) ≤ (k : Int) := by omega
        have i2 : (k : Int) < (n : Int) := by omega
        by_cases e : l.getD k (0, 0) = l'.getD k (0, 0)
        · have HS' : Hid (∀ j, j < k + 1 → l.getD j (0, 0) = l'.getD j (0, 0)) := fun j hj => by
            by_cases ej : j = k
            · subst ej; exact e
            · exact HS.out j (by omega)
          rw [e] at hc0 hc1
          clear e HS
          generalize (l'.getD k (0, 0)).1 = x at hc0 hd0
          generalize (l'.getD k (0, 0)).2 = y at hc1 hd1
          have he : ∀ u : World, (Op.equalIn 10000 85 (.agg #[.int .i64 x, .int .i64 y]) (.agg #[.int .i64 x, .int .i64 y])).run Tryz.prog u = .ok true u := fun u => by rw [eq78]; simp
          go_wp2
          go_quiet (fail)
          go_wp2
          go_roundw
          case rel => exact ⟨k + 1, _, by omega, by go_num, HS', rfl⟩
          case measure => simp [intOf]; omega
        · have he : ∀ u : World, (Op.equalIn 10000 85 (.agg #[.int .i64 (l.getD k (0, 0)).1, .int .i64 (l.getD k (0, 0)).2]) (.agg #[.int .i64 (l'.getD k (0, 0)).1, .int .i64 (l'.getD k (0, 0)).2])).run Tryz.prog u = .ok false u := fun u => by
            rw [eq78]
            congr 1
            cases hx : ((l.getD k (0, 0)).1 == (l'.getD k (0, 0)).1 && (l.getD k (0, 0)).2 == (l'.getD k (0, 0)).2) with
            | false => rfl
            | true => exact absurd (by simp only [Bool.and_eq_true, beq_iff_eq] at hx; exact Prod.ext hx.1 hx.2) e
          clear e HS
          generalize (l.getD k (0, 0)).1 = x at hc0 he
          generalize (l.getD k (0, 0)).2 = y at hc1 he
          generalize (l'.getD k (0, 0)).1 = x' at hd0 he
          generalize (l'.getD k (0, 0)).2 = y' at hd1 he
          go_wp2
          go_quiet (fail)
          go_wp2
          go_ret
          exact ⟨rfl, Below.drewN (Below.drewN (Below.refl _ _) _) _⟩
      · exact absurd (differ2 (by rw [← e1.out, ← e2.out]) fun j hj => HS.out j (by rw [← e1.out] at hj; omega)) hd.out
  · have h0 : (((n : Nat) : Int) != (n' : Int)) = true := by simp; omega
    go_enter Tryz.func46, Tryz.ntmps46
    go_wp2
    go_ret
    exact ⟨rfl, Below.refl _ _⟩

theorem eqX_any (h h' : Sl) (B B' : Nat) (l l' : List Pr) (q : Bool) (w : World) (p : Props w B h l) (p' : Props w B' h' l') (hn : h.n ≤ 17592186044416) (hn' : h'.n ≤ 17592186044416) (hq : Hid (q = true ↔ l = l')) :
    Calls Tryz.prog 46 #[h.val, h'.val] w (Drew (.bool q) w) := by
  have hq' := hq.out
  cases q
  · exact eqX_no h h' B B' l l' w p p' hn hn' fun e => by simp [e] at hq'
  · obtain rfl := hq'.1 rfl
    exact eqX_yes h h' B B' l w p p' hn

theorem eqX_eq (h h' : Sl) (B B' : Nat) (l l' : List Pr) (w : World) (p : Props w B h l) (p' : Props w B' h' l') (hn : h.n ≤ 17592186044416) (hn' : h'.n ≤ 17592186044416) (e : Hid (l = l')) : Calls Tryz.prog 46 #[h.val, h'.val] w (Drew (.bool true) w) :=
  eqX_any h h' B B' l l' true w p p' hn hn' ⟨fun _ => e.out, fun _ => rfl⟩
theorem eqX_ne (h h' : Sl) (B B' : Nat) (l l' : List Pr) (w : World) (p : Props w B h l) (p' : Props w B' h' l') (hn : h.n ≤ 17592186044416) (hn' : h'.n ≤ 17592186044416) (e : Hid (l ≠ l')) : Calls Tryz.prog 46 #[h.val, h'.val] w (Drew (.bool false) w) :=
  eqX_any h h' B B' l l' false w p p' hn hn' ⟨(fun h => by cases h), fun h => absurd h e.out⟩

set_option maxHeartbeats 2000000 in
theorem asame_any (r r' : RL) (s s' : S3) (q : Bool) (w : World) (p : RSee w w.heap.size s r) (p' : RSee w w.heap.size s' r') (F : Most r) (F' : Most r') (hq : Hid (q = true ↔ r = r')) :
    Calls Tryz.prog 20 #[.agg (rc r s), .agg (rc r' s')] w (Drew (.bool q) w) := by
  obtain ⟨W, hW⟩ : ∃ W, Hid ((w.alloc (.cells (rc r s) 37)).alloc (.cells (rc r' s') 37) = W) := ⟨_, rfl⟩
  have BW : Hid (Below w.heap.size w W) := by show Below _ _ _; rw [← hW.out]; exact (((Below.refl _ _).alloc (Nat.le_refl _) _).alloc (by simp) _)
  have HA : Hid (Bx W (w.heap.size) (rc r s) 37) := by
    have h := ((Bx.new w (rc r s) 37).alloc (.cells (rc r' s') 37))
    show Bx _ _ _ _
    rw [← hW.out]
    simpa using h
  have HB : Hid (Bx W (w.heap.size + 1) (rc r' s') 37) := by
    have h := (Bx.new (w.alloc (.cells (rc r s) 37)) (rc r' s') 37)
    show Bx _ _ _ _
    rw [← hW.out]
    simpa using h
  have S1 := hide (p.step BW.out)
  have S2 := hide (p'.step BW.out)
  have F1 := hide F
  have F2 := hide F'
  clear p p' F F'
  by_cases x0 : r.er = r'.er
  case neg =>
    have hres : Hid (q = false) := by show _ = _; cases q; rfl; exact absurd (congrArg RL.er (hq.out.1 rfl)) x0
    have t0 : (r.er == r'.er) = false := by simpa using x0
    clear x0 hq
    have a0 : ((w.alloc (.cells (rc r s) 37)).alloc (.cells (rc r' s') 37)).cell? ⟨w.heap.size, 0, none⟩ = some (.int .i64 r.er) := by rw [hW.out]; exact HA.out.cells 0
    have b0 : ((w.alloc (.cells (rc r s) 37)).alloc (.cells (rc r' s') 37)).cell? ⟨w.heap.size + 1, 0, none⟩ = some (.int .i64 r'.er) := by rw [hW.out]; exact HB.out.cells 0
    go_enter Tryz.func20, Tryz.ntmps20
    go_wp2
    go_ret
    exact ⟨by rw [hres.out]; rfl, by rw [hW.out]; exact BW.out⟩
  have t0 : (r.er == r'.er) = true := by simpa using x0
  have e0 := hide x0
  clear x0
  by_cases x1 : r.id = r'.id
  case neg =>
    have hres : Hid (q = false) := by show _ = _; cases q; rfl; exact absurd (congrArg RL.id (hq.out.1 rfl)) x1
    have t1 : (r.id == r'.id) = false := by simpa using x1
    clear x1 hq
    have a0 : ((w.alloc (.cells (rc r s) 37)).alloc (.cells (rc r' s') 37)).cell? ⟨w.heap.size, 0, none⟩ = some (.int .i64 r.er) := by rw [hW.out]; exact HA.out.cells 0
    have b0 : ((w.alloc (.cells (rc r s) 37)).alloc (.cells (rc r' s') 37)).cell? ⟨w.heap.size + 1, 0, none⟩ = some (.int .i64 r'.er) := by rw [hW.out]; exact HB.out.cells 0
    have a1 : ((w.alloc (.cells (rc r s) 37)).alloc (.cells (rc r' s') 37)).cell? ⟨w.heap.size, 1, none⟩ = some (.int .i64 r.id) := by rw [hW.out]; exact HA.out.cells 1
    have b1 : ((w.alloc (.cells (rc r s) 37)).alloc (.cells (rc r' s') 37)).cell? ⟨w.heap.size + 1, 1, none⟩ = some (.int .i64 r'.id) := by rw [hW.out]; exact HB.out.cells 1
    go_enter Tryz.func20, Tryz.ntmps20
    go_wp2
    go_ret
    exact ⟨by rw [hres.out]; rfl, by rw [hW.out]; exact BW.out⟩
  have t1 : (r.id == r'.id) = true := by simpa using x1
  have e1 := hide x1
  clear x1
  by_cases x2 : r.P = r'.P
  case neg =>
    have hres : Hid (q = false) := by show _ = _; cases q; rfl; exact absurd (congrArg RL.P (hq.out.1 rfl)) x2
    have e2 := hide x2
    clear x2 hq
    have a0 : ((w.alloc (.cells (rc r s) 37)).alloc (.cells (rc r' s') 37)).cell? ⟨w.heap.size, 0, none⟩ = some (.int .i64 r.er) := by rw [hW.out]; exact HA.out.cells 0
    have b0 : ((w.alloc (.cells (rc r s) 37)).alloc (.cells (rc r' s') 37)).cell? ⟨w.heap.size + 1, 0, none⟩ = some (.int .i64 r'.er) := by rw [hW.out]; exact HB.out.cells 0
    have a1 : ((w.alloc (.cells (rc r s) 37)).alloc (.cells (rc r' s') 37)).cell? ⟨w.heap.size, 1, none⟩ = some (.int .i64 r.id) := by rw [hW.out]; exact HA.out.cells 1
    have b1 : ((w.alloc (.cells (rc r s) 37)).alloc (.cells (rc r' s') 37)).cell? ⟨w.heap.size + 1, 1, none⟩ = some (.int .i64 r'.id) := by rw [hW.out]; exact HB.out.cells 1
    have a2 : ((w.alloc (.cells (rc r s) 37)).alloc (.cells (rc r' s') 37)).cell? ⟨w.heap.size, 2, none⟩ = some (.slice s.P.A s.P.n s.P.c) := by rw [hW.out]; exact HA.out.cells 2
    have b2 : ((w.alloc (.cells (rc r s) 37)).alloc (.cells (rc r' s') 37)).cell? ⟨w.heap.size + 1, 2, none⟩ = some (.slice s'.P.A s'.P.n s'.P.c) := by rw [hW.out]; exact HB.out.cells 2
    go_enter Tryz.func20, Tryz.ntmps20
    go_wp2_with fail
    have hW' := hW.out
    rw [hW']
    clear hW hW'
    clear a0 b0 a1 b1 a2 b2
    refine (eqP_ne s.P s'.P _ _ r.P r'.P _ S1.out.1 S2.out.1 (most_P S1.out F1.out) (most_P S2.out F2.out) e2).mono ?_
    rintro e u2 ⟨rfl, hb⟩
    have HA := hide (HA.out.step hb)
    have HB := hide (HB.out.step hb)
    have S1 := hide (S1.out.step hb)
    have S2 := hide (S2.out.step hb)
    have BW := hide (BW.out.trans (hb.mono BW.out.size))
    clear hb
    go_wp2
    go_ret
    exact ⟨by rw [hres.out]; rfl, BW.out⟩
  have e2 := hide x2
  clear x2
  by_cases x3 : r.O = r'.O
  case neg =>
    have hres : Hid (q = false) := by show _ = _; cases q; rfl; exact absurd (congrArg RL.O (hq.out.1 rfl)) x3
    have e3 := hide x3
    clear x3 hq
    have a0 : ((w.alloc (.cells (rc r s) 37)).alloc (.cells (rc r' s') 37)).cell? ⟨w.heap.size, 0, none⟩ = some (.int .i64 r.er) := by rw [hW.out]; exact HA.out.cells 0
    have b0 : ((w.alloc (.cells (rc r s) 37)).alloc (.cells (rc r' s') 37)).cell? ⟨w.heap.size + 1, 0, none⟩ = some (.int .i64 r'.er) := by rw [hW.out]; exact HB.out.cells 0
    have a1 : ((w.alloc (.cells (rc r s) 37)).alloc (.cells (rc r' s') 37)).cell? ⟨w.heap.size, 1, none⟩ = some (.int .i64 r.id) := by rw [hW.out]; exact HA.out.cells 1
    have b1 : ((w.alloc (.cells (rc r s) 37)).alloc (.cells (rc r' s') 37)).cell? ⟨w.heap.size + 1, 1, none⟩ = some (.int .i64 r'.id) := by rw [hW.out]; exact HB.out.cells 1
    have a2 : ((w.alloc (.cells (rc r s) 37)).alloc (.cells (rc r' s') 37)).cell? ⟨w.heap.size, 2, none⟩ = some (.slice s.P.A s.P.n s.P.c) := by rw [hW.out]; exact HA.out.cells 2
    have b2 : ((w.alloc (.cells (rc r s) 37)).alloc (.cells (rc r' s') 37)).cell? ⟨w.heap.size + 1, 2, none⟩ = some (.slice s'.P.A s'.P.n s'.P.c) := by rw [hW.out]; exact HB.out.cells 2
    go_enter Tryz.func20, Tryz.ntmps20
    go_wp2_with fail
    have hW' := hW.out
    rw [hW']
    clear hW hW'
    clear a0 b0 a1 b1 a2 b2
    refine (eqP_eq s.P s'.P _ _ r.P r'.P _ S1.out.1 S2.out.1 (most_P S1.out F1.out) (most_P S2.out F2.out) e2).mono ?_
    rintro e u2 ⟨rfl, hb⟩
    have HA := hide (HA.out.step hb)
    have HB := hide (HB.out.step hb)
    have S1 := hide (S1.out.step hb)
    have S2 := hide (S2.out.step hb)
    have BW := hide (BW.out.trans (hb.mono BW.out.size))
    clear hb
    have a3 : u2.cell? ⟨w.heap.size, 3, none⟩ = some (.slice s.O.A s.O.n s.O.c) := HA.out.cells 3
    have b3 : u2.cell? ⟨w.heap.size + 1, 3, none⟩ = some (.slice s'.O.A s'.O.n s'.O.c) := HB.out.cells 3
    go_wp2_with fail
    clear a3 b3
    refine (eqX_ne s.O s'.O _ _ r.O r'.O _ S1.out.2.1 S2.out.2.1 (most_O S1.out F1.out) (most_O S2.out F2.out) e3).mono ?_
    rintro e u3 ⟨rfl, hb⟩
    have HA := hide (HA.out.step hb)
    have HB := hide (HB.out.step hb)
    have S1 := hide (S1.out.step hb)
    have S2 := hide (S2.out.step hb)
    have BW := hide (BW.out.trans (hb.mono BW.out.size))
    clear hb
    go_wp2
    go_ret
    exact ⟨by rw [hres.out]; rfl, BW.out⟩
  have e3 := hide x3
  clear x3
  by_cases x4 : r.I = r'.I
  case neg =>
    have hres : Hid (q = false) := by show _ = _; cases q; rfl; exact absurd (congrArg RL.I (hq.out.1 rfl)) x4
    have e4 := hide x4
    clear x4 hq
    have a0 : ((w.alloc (.cells (rc r s) 37)).alloc (.cells (rc r' s') 37)).cell? ⟨w.heap.size, 0, none⟩ = some (.int .i64 r.er) := by rw [hW.out]; exact HA.out.cells 0
    have b0 : ((w.alloc (.cells (rc r s) 37)).alloc (.cells (rc r' s') 37)).cell? ⟨w.heap.size + 1, 0, none⟩ = some (.int .i64 r'.er) := by rw [hW.out]; exact HB.out.cells 0
    have a1 : ((w.alloc (.cells (rc r s) 37)).alloc (.cells (rc r' s') 37)).cell? ⟨w.heap.size, 1, none⟩ = some (.int .i64 r.id) := by rw [hW.out]; exact HA.out.cells 1
    have b1 : ((w.alloc (.cells (rc r s) 37)).alloc (.cells (rc r' s') 37)).cell? ⟨w.heap.size + 1, 1, none⟩ = some (.int .i64 r'.id) := by rw [hW.out]; exact HB.out.cells 1
    have a2 : ((w.alloc (.cells (rc r s) 37)).alloc (.cells (rc r' s') 37)).cell? ⟨w.heap.size, 2, none⟩ = some (.slice s.P.A s.P.n s.P.c) := by rw [hW.out]; exact HA.out.cells 2
    have b2 : ((w.alloc (.cells (rc r s) 37)).alloc (.cells (rc r' s') 37)).cell? ⟨w.heap.size + 1, 2, none⟩ = some (.slice s'.P.A s'.P.n s'.P.c) := by rw [hW.out]; exact HB.out.cells 2
    go_enter Tryz.func20, Tryz.ntmps20
    go_wp2_with fail
    have hW' := hW.out
    rw [hW']
    clear hW hW'
    clear a0 b0 a1 b1 a2 b2
    refine (eqP_eq s.P s'.P _ _ r.P r'.P _ S1.out.1 S2.out.1 (most_P S1.out F1.out) (most_P S2.out F2.out) e2).mono ?_
    rintro e u2 ⟨rfl, hb⟩
    have HA := hide (HA.out.step hb)
    have HB := hide (HB.out.step hb)
    have S1 := hide (S1.out.step hb)
    have S2 := hide (S2.out.step hb)
    have BW := hide (BW.out.trans (hb.mono BW.out.size))
    clear hb
    have a3 : u2.cell? ⟨w.heap.size, 3, none⟩ = some (.slice s.O.A s.O.n s.O.c) := HA.out.cells 3
    have b3 : u2.cell? ⟨w.heap.size + 1, 3, none⟩ = some (.slice s'.O.A s'.O.n s'.O.c) := HB.out.cells 3
    go_wp2_with fail
    clear a3 b3
    refine (eqX_eq s.O s'.O _ _ r.O r'.O _ S1.out.2.1 S2.out.2.1 (most_O S1.out F1.out) (most_O S2.out F2.out) e3).mono ?_
    rintro e u3 ⟨rfl, hb⟩
    have HA := hide (HA.out.step hb)
    have HB := hide (HB.out.step hb)
    have S1 := hide (S1.out.step hb)
    have S2 := hide (S2.out.step hb)
    have BW := hide (BW.out.trans (hb.mono BW.out.size))
    clear hb
    have a4 : u3.cell? ⟨w.heap.size, 4, none⟩ = some (.slice s.I.A s.I.n s.I.c) := HA.out.cells 4
    have b4 : u3.cell? ⟨w.heap.size + 1, 4, none⟩ = some (.slice s'.I.A s'.I.n s'.I.c) := HB.out.cells 4
    go_wp2_with fail
    clear a4 b4
    refine (eqX_ne s.I s'.I _ _ r.I r'.I _ S1.out.2.2 S2.out.2.2 (most_I S1.out F1.out) (most_I S2.out F2.out) e4).mono ?_
    rintro e u4 ⟨rfl, hb⟩
    have HA := hide (HA.out.step hb)
    have HB := hide (HB.out.step hb)
    have S1 := hide (S1.out.step hb)
    have S2 := hide (S2.out.step hb)
    have BW := hide (BW.out.trans (hb.mono BW.out.size))
    clear hb
    go_wp2
    go_ret
    exact ⟨by rw [hres.out]; rfl, BW.out⟩
  have e4 := hide x4
  clear x4
  have hres : Hid (q = true) := hq.out.2 (by cases r; cases r'; simp only [RL.mk.injEq]; exact ⟨e0.out, e1.out, e2.out, e3.out, e4.out⟩)
  clear hq
  have a0 : ((w.alloc (.cells (rc r s) 37)).alloc (.cells (rc r' s') 37)).cell? ⟨w.heap.size, 0, none⟩ = some (.int .i64 r.er) := by rw [hW.out]; exact HA.out.cells 0
  have b0 : ((w.alloc (.cells (rc r s) 37)).alloc (.cells (rc r' s') 37)).cell? ⟨w.heap.size + 1, 0, none⟩ = some (.int .i64 r'.er) := by rw [hW.out]; exact HB.out.cells 0
  have a1 : ((w.alloc (.cells (rc r s) 37)).alloc (.cells (rc r' s') 37)).cell? ⟨w.heap.size, 1, none⟩ = some (.int .i64 r.id) := by rw [hW.out]; exact HA.out.cells 1
  have b1 : ((w.alloc (.cells (rc r s) 37)).alloc (.cells (rc r' s') 37)).cell? ⟨w.heap.size + 1, 1, none⟩ = some (.int .i64 r'.id) := by rw [hW.out]; exact HB.out.cells 1
  have a2 : ((w.alloc (.cells (rc r s) 37)).alloc (.cells (rc r' s') 37)).cell? ⟨w.heap.size, 2, none⟩ = some (.slice s.P.A s.P.n s.P.c) := by rw [hW.out]; exact HA.out.cells 2
  have b2 : ((w.alloc (.cells (rc r s) 37)).alloc (.cells (rc r' s') 37)).cell? ⟨w.heap.size + 1, 2, none⟩ = some (.slice s'.P.A s'.P.n s'.P.c) := by rw [hW.out]; exact HB.out.cells 2
  go_enter Tryz.func20, Tryz.ntmps20
  go_wp2_with fail
  have hW' := hW.out
  rw [hW']
  clear hW hW'
  clear a0 b0 a1 b1 a2 b2
  refine (eqP_eq s.P s'.P _ _ r.P r'.P _ S1.out.1 S2.out.1 (most_P S1.out F1.out) (most_P S2.out F2.out) e2).mono ?_
  rintro e u2 ⟨rfl, hb⟩
  have HA := hide (HA.out.step hb)
  have HB := hide (HB.out.step hb)
  have S1 := hide (S1.out.step hb)
  have S2 := hide (S2.out.step hb)
  have BW := hide (BW.out.trans (hb.mono BW.out.size))
  clear hb
  have a3 : u2.cell? ⟨w.heap.size, 3, none⟩ = some (.slice s.O.A s.O.n s.O.c) := HA.out.cells 3
  have b3 : u2.cell? ⟨w.heap.size + 1, 3, none⟩ = some (.slice s'.O.A s'.O.n s'.O.c) := HB.out.cells 3
  go_wp2_with fail
  clear a3 b3
  refine (eqX_eq s.O s'.O _ _ r.O r'.O _ S1.out.2.1 S2.out.2.1 (most_O S1.out F1.out) (most_O S2.out F2.out) e3).mono ?_
  rintro e u3 ⟨rfl, hb⟩
  have HA := hide (HA.out.step hb)
  have HB := hide (HB.out.step hb)
  have S1 := hide (S1.out.step hb)
  have S2 := hide (S2.out.step hb)
  have BW := hide (BW.out.trans (hb.mono BW.out.size))
  clear hb
  have a4 : u3.cell? ⟨w.heap.size, 4, none⟩ = some (.slice s.I.A s.I.n s.I.c) := HA.out.cells 4
  have b4 : u3.cell? ⟨w.heap.size + 1, 4, none⟩ = some (.slice s'.I.A s'.I.n s'.I.c) := HB.out.cells 4
  go_wp2_with fail
  clear a4 b4
  refine (eqX_eq s.I s'.I _ _ r.I r'.I _ S1.out.2.2 S2.out.2.2 (most_I S1.out F1.out) (most_I S2.out F2.out) e4).mono ?_
  rintro e u4 ⟨rfl, hb⟩
  have HA := hide (HA.out.step hb)
  have HB := hide (HB.out.step hb)
  have S1 := hide (S1.out.step hb)
  have S2 := hide (S2.out.step hb)
  have BW := hide (BW.out.trans (hb.mono BW.out.size))
  clear hb
  go_wp2
  go_ret
  exact ⟨by rw [hres.out]; rfl, BW.out⟩

end Go.Proofs.YtiiadkjiofkonaaGreat

namespace Go.Proofs.YtiiadkjiofkonaaGreat
open Go.RowKit
set_option linter.unusedVariables false
set_option maxRecDepth 100000

abbrev RZ := RL × S3
def noZ : RZ := (noR, noS3)
def cellsR (Z : List RZ) : List Value := Z.flatMap fun p => (rc p.1 p.2).toList
theorem rc_len (r : RL) (s : S3) : (rc r s).toList.length = 5 := rfl
theorem cellsR_cons (p : RZ) (Z : List RZ) : cellsR (p :: Z) = (rc p.1 p.2).toList ++ cellsR Z := rfl
theorem cellsR_snoc (Z : List RZ) (p : RZ) : cellsR (Z ++ [p]) = cellsR Z ++ (rc p.1 p.2).toList := by simp [cellsR]
theorem cellsR_len (Z : List RZ) : (cellsR Z).length = Z.length * 5 := by
  induction Z with
  | nil => rfl
  | cons p Z ih => rw [cellsR_cons, List.length_append, ih, rc_len, List.length_cons]; omega
theorem cellsR_at : ∀ (Z : List RZ) (k j : Nat), k < Z.length → j < 5 → (cellsR Z)[k * 5 + j]? = (rc (Z.getD k noZ).1 (Z.getD k noZ).2)[j]?
  | [], k, j, h, _ => by simp at h
  | p :: Z, 0, j, _, hj => by
    rw [cellsR_cons, Nat.zero_mul, Nat.zero_add, List.getElem?_append_left (by rw [rc_len]; exact hj)]
    simp
  | p :: Z, k + 1, j, h, hj => by
    rw [cellsR_cons, List.getElem?_append_right (by rw [rc_len]; omega), rc_len, show (k + 1) * 5 + j - 5 = k * 5 + j by omega, cellsR_at Z k j (by simpa using h) hj]
    simp
theorem made_cells (n : Nat) : (madeCells #[.int .i64 0, .int .i64 0, .slice none 0 0, .slice none 0 0, .slice none 0 0] (n * 5)).toList = cellsR (List.replicate n noZ) := by
  apply List.ext_getElem?
  intro i
  by_cases hi : i < n * 5
  · have e : i = i / 5 * 5 + i % 5 := by omega
    have h1 := cellsR_at (List.replicate n noZ) (i / 5) (i % 5) (by simp; omega) (by omega)
    rw [← e] at h1
    rw [h1]
    have h2 : (List.replicate n noZ).getD (i / 5) noZ = noZ := by
      rw [List.getD_eq_getElem?_getD, List.getElem?_replicate]
      split <;> rfl
    rw [h2]
    have h3 : (madeCells #[.int .i64 0, .int .i64 0, .slice none 0 0, .slice none 0 0, .slice none 0 0] (n * 5)).toList[i]? = some ((#[.int .i64 0, .int .i64 0, .slice none 0 0, .slice none 0 0, .slice none 0 0] : Array Value)[i % 5]!) := by
      unfold madeCells
      simp [hi]
    rw [h3]
    have h5 : i % 5 < 5 := by omega
    generalize i % 5 = j at h5
    match j, h5 with
    | 0, _ | 1, _ | 2, _ | 3, _ | 4, _ => rfl
  · rw [List.getElem?_eq_none (by rw [Array.length_toList, size_madeCells]; omega), List.getElem?_eq_none (by rw [cellsR_len]; simp; omega)]
/-- Cells from place o on are written. -/
def patchL (l : List Value) (o : Nat) : List Value → List Value
  | [] => l
  | v :: vs => patchL (l.set o v) (o + 1) vs
def putL (w : World) (g o : Nat) : List Value → World
  | [] => w
  | v :: vs => putL (w.setCell ⟨g, o, none⟩ v) g (o + 1) vs
theorem patchL_app (a : List Value) : ∀ (vs l : List Value) (o : Nat), patchL (a ++ l) (a.length + o) vs = a ++ patchL l o vs
  | [], l, o => rfl
  | v :: vs, l, o => by
    rw [patchL, patchL, List.set_append_right _ _ (by omega), show a.length + o - a.length = o by omega, Nat.add_assoc]
    exact patchL_app a vs _ _
theorem cellsR_set (r : RL) (s : S3) : ∀ (Z : List RZ) (k : Nat), k < Z.length → patchL (cellsR Z) (k * 5) (rc r s).toList = cellsR (Z.set k (r, s))
  | [], k, h => by simp at h
  | p :: Z, 0, _ => by
    rw [cellsR_cons, List.set_cons_zero, cellsR_cons]
    rfl
  | p :: Z, k + 1, h => by
    have ih := cellsR_set r s Z k (by simpa using h)
    have e2 : (k + 1) * 5 = (rc p.1 p.2).toList.length + k * 5 := by rw [rc_len]; omega
    rw [cellsR_cons, e2, patchL_app, ih, List.set_cons_succ, cellsR_cons]
section
variable {w u u' : World} {base B e size g n cap : Nat} {xs : List Value}
theorem run_putL {P : Program} (off : Nat) : ∀ (vs : List Value) (i : Nat) (w : World) (xs : List Value), w.ownsRow base e size (.slice (some ⟨g, 0, none⟩) n cap) n xs → off + i + vs.length ≤ n * size → (∀ v ∈ vs, v.oneCell' = true) →
    (storeCells ⟨g, off, none⟩ vs i).run P w = .ok () (putL w g (off + i) vs)
  | [], i, w, xs, h, hl, _ => rfl
  | v :: vs, i, w, xs, h, hl, h1 => by
    have hadd : (⟨g, off, none⟩ : Addr).add i = ⟨g, off + i, none⟩ := by unfold Addr.add; split <;> simp_all
    have hlen := h.1
    simp only [List.length_cons] at hl
    have hcell : ∃ y, w.cell? ⟨g, off + i, none⟩ = some y := by
      rcases h.2 with ⟨h', _⟩ | ⟨g', cap', cur, h', _, hg, hnc, _, hcs, _⟩
      · cases h'
      · simp only [Value.slice.injEq, Option.some.injEq, Addr.mk.injEq, and_true, true_and] at h'
        obtain ⟨rfl, rfl⟩ := h'
        have : off + i < cur.size := by rw [hcs]; exact Nat.lt_of_lt_of_le (by omega) (Nat.mul_le_mul_right size hnc)
        exact ⟨cur[off + i], by simp [World.cell?, hg, this]⟩
    obtain ⟨y, hy⟩ := hcell
    have hst : (store ((⟨g, off, none⟩ : Addr).add i) v).run P w = .ok () (w.setCell ⟨g, off + i, none⟩ v) := by
      rw [hadd, run_store P w _ v _ (h1 v (by simp)), hy]
      simp [h.frozenAt]
    have ih := run_putL (P := P) off vs (i + 1) (w.setCell ⟨g, off + i, none⟩ v) (xs.set (off + i) v) (h.stored (off + i) v).1 (by omega) (fun x hx => h1 x (by simp [hx]))
    simp only [storeCells, Sem.run_bind, hst, Result.andThen_ok, ih]
    rfl
theorem own_putL : ∀ (vs : List Value) (o : Nat) (w : World) (xs : List Value), w.ownsRow base e size (.slice (some ⟨g, 0, none⟩) n cap) n xs → (putL w g o vs).ownsRow base e size (.slice (some ⟨g, 0, none⟩) n cap) n (patchL xs o vs)
  | [], o, w, xs, h => h
  | v :: vs, o, w, xs, h => own_putL vs (o + 1) _ _ (h.stored o v).1
theorem putL_below : ∀ (vs : List Value) (o : Nat) (u : World), Below B w u → B ≤ g → Below B w (putL u g o vs)
  | [], o, u, h, _ => h
  | v :: vs, o, u, h, hg => putL_below vs (o + 1) _ (h.setCell (p := ⟨g, o, none⟩) hg v) hg
theorem putL_other {k : Nat} (hk : k ≠ g) : ∀ (vs : List Value) (o : Nat) (u : World), (putL u g o vs).heap[k]? = u.heap[k]?
  | [], o, u => rfl
  | v :: vs, o, u => (putL_other hk vs (o + 1) _).trans (heap_setCell_other u ⟨g, o, none⟩ k v hk)
theorem own_aside {v : Value} {cs : Array Value} {t : TypeId} (ht : t ≠ e) : ∀ (vs : List Value) (o : Nat) (u : World) (cs : Array Value), Bx u g cs t → u.ownsRow B e size v n xs → (putL u g o vs).ownsRow B e size v n xs
  | [], o, u, cs, _, h => h
  | x :: vs, o, u, cs, hg, h => own_aside (cs := cs) ht vs (o + 1) _ _ (heap_setCell_same u g o cs t x hg) (own_cell h hg ht o x)
end
/-- A row of results from block B on; what their slices read as. -/
structure ROws (u : World) (B : Nat) (A : Option Addr) (n c : Nat) (Z : List RZ) : Prop where
  rows : u.ownsRow B 37 5 (.slice A n c) n (cellsR Z)
  rd : ∀ i, i < Z.length → ROwn u B (Z.getD i noZ).2 (Z.getD i noZ).1
section
variable {u u' w : World} {B B' n c k g : Nat} {A : Option Addr} {Z : List RZ} {v : Gv} {G : GL} {cs : Array Value} {t : TypeId} {r : RL} {s : S3}
theorem ROws.len (o : ROws u B A n c Z) : Z.length = n := by have := o.rows.1; rw [cellsR_len] at this; omega
theorem ROws.step (o : ROws u B A n c Z) (b : Below u.heap.size u u') : ROws u' B A n c Z := ⟨own_below o.rows b, fun i hi => (o.rd i hi).step b⟩
theorem ROws.less (o : ROws u B A n c Z) (h : B' ≤ B) : ROws u B' A n c Z := ⟨own_less o.rows h, fun i hi => (o.rd i hi).less h⟩
theorem ROws.nil : ROws u B none 0 0 [] := ⟨World.ownsRow_nil _ _ _ _, fun i hi => by simp at hi⟩
theorem ROws.row (o : ROws u B A n c Z) (hg : Bx u g cs t) (ht : Apart t) (hr : t ≠ 37) (ds : Array Value) : ROws (u.setRow g ds) B A n c Z := ⟨own_row o.rows hg hr ds, fun i hi => (o.rd i hi).row hg ht ds⟩
theorem ROws.cap (o : ROws u B A n c Z) : A = none → c = 0 := own_nil_cap o.rows
theorem ROws.block (o : ROws u B A n c Z) (hk : k < n) : ∃ g, A = some ⟨g, 0, none⟩ ∧ B ≤ g ∧ g < u.heap.size ∧ ∃ cs, Bx u g cs 37 := by
  rcases o.rows.2 with ⟨_, h0⟩ | ⟨g, cap, cur, hv, hB, hg, _⟩
  · omega
  · exact ⟨g, by injection hv, hB, (Array.getElem?_eq_some_iff.1 hg).1, cur, hg⟩
/-- One result of the row. -/
theorem ROws.at_ (o : ROws u B A n c Z) (hk : k < n) : ∃ g, A = some ⟨g, 0, none⟩ ∧ g < u.heap.size ∧ Lies u g (k * 5) (rc (Z.getD k noZ).1 (Z.getD k noZ).2) ∧ RSee u u.heap.size (Z.getD k noZ).2 (Z.getD k noZ).1 := by
  have hl := o.len
  rcases o.rows.2 with ⟨_, h0⟩ | ⟨g, cap, cur, hv, hB, hg, _, _, _, ht⟩
  · omega
  · refine ⟨g, by injection hv, (Array.getElem?_eq_some_iff.1 hg).1, fun j x hx => ?_, (o.rd k (by omega)).sees⟩
    have hj : j < 5 := (List.getElem?_eq_some_iff.1 hx).1
    have h1 := cellsR_at Z k j (by omega) hj
    have h2 : (cellsR Z)[k * 5 + j]? = some x := h1.trans (by simpa using hx)
    rw [cell_of_row u g _ cur 37 (0, 0) hg]
    have h := congrArg (fun l : List Value => l[k * 5 + j]?) ht
    have hj2 : k * 5 + j < n * 5 := by omega
    simp only [List.getElem?_take, hj2, if_true, Array.getElem?_toList] at h
    rw [h, h2]
/-- A result is stored into the row. -/
theorem ROws.put (o : ROws u B (some ⟨g, 0, none⟩) n c Z) (hk : k < n) (R : ROwn u B s r) : ROws (putL u g (k * 5) (rc r s).toList) B (some ⟨g, 0, none⟩) n c (Z.set k (r, s)) := by
  obtain ⟨g', e, _, _, cs, hg⟩ := o.block hk
  simp only [Option.some.injEq, Addr.mk.injEq, and_true] at e
  subst e
  have hl := o.len
  have aside : ∀ {s' : S3} {r' : RL}, ROwn u B s' r' → ROwn (putL u g (k * 5) (rc r s).toList) B s' r' := fun h =>
    ⟨own_aside (cs := cs) (by decide) _ _ _ _ hg h.P, own_aside (cs := cs) (by decide) _ _ _ _ hg h.O, own_aside (cs := cs) (by decide) _ _ _ _ hg h.I⟩
  refine ⟨?_, fun i hi => ?_⟩
  · have h := own_putL (rc r s).toList (k * 5) _ _ o.rows
    rwa [cellsR_set r s Z k (by omega)] at h
  · by_cases e : i = k
    · subst e
      have a : (Z.set i (r, s)).getD i noZ = (r, s) := by simp [List.getD_eq_getElem?_getD, hl, hk]
      rw [a]
      exact aside R
    · have a : (Z.set k (r, s)).getD i noZ = Z.getD i noZ := by simp [List.getD_eq_getElem?_getD, Ne.symm e]
      rw [a]
      exact aside (o.rd i (by simpa using hi))
theorem Has.aside (h : Has u B v G) (hg : Bx u g cs 37) (o : Nat) (vs : List Value) : Has (putL u g o vs) B v G := by
  obtain ⟨L, q⟩ := h
  exact ⟨L, own_aside (cs := cs) (by decide) _ _ _ _ hg q.rows, q.len, q.ids, fun i hi => own_aside (cs := cs) (by decide) _ _ _ _ hg (q.prs i hi), own_aside (cs := cs) (by decide) _ _ _ _ hg q.edg, q.x, q.y⟩
theorem ROws.made (h : u.ownsRow B 37 5 (.slice (some ⟨g, 0, none⟩) n n) n (madeCells #[.int .i64 0, .int .i64 0, .slice none 0 0, .slice none 0 0, .slice none 0 0] (n * 5)).toList) : ROws u B (some ⟨g, 0, none⟩) n n (List.replicate n noZ) := by
  rw [made_cells] at h
  refine ⟨h, fun i hi => ?_⟩
  have h2 : (List.replicate n noZ).getD i noZ = noZ := by
    rw [List.getD_eq_getElem?_getD, List.getElem?_replicate]
    split <;> rfl
  rw [h2]
  exact ROwn.nil
/-- A result appended. -/
theorem ROwn.grown {A' : Option Addr} {c' m : Nat} {ys : List Value} {o : Obj} {w2 : World} (h : ROwn u B' s r) (R : u.ownsRow B 37 5 (.slice A' m c') m ys) (hg : (u.alloc o).grownBy w2 (Value.slice A' m c').ownBlock) : ROwn w2 B' s r :=
  ⟨grow_row R hg h.P (by decide), grow_row R hg h.O (by decide), grow_row R hg h.I (by decide)⟩
theorem Has.grown {A' : Option Addr} {c' m : Nat} {ys : List Value} {o : Obj} {w2 : World} (h : Has u B' v G) (R : u.ownsRow B 37 5 (.slice A' m c') m ys) (hg : (u.alloc o).grownBy w2 (Value.slice A' m c').ownBlock) : Has w2 B' v G := by
  obtain ⟨L, q⟩ := h
  exact ⟨L, grow_row R hg q.rows (by decide), q.len, q.ids, fun i hi => grow_row R hg (q.prs i hi) (by decide), grow_row R hg q.edg (by decide), q.x, q.y⟩
theorem Bx.wider {A' : Option Addr} {c' m : Nat} {ys : List Value} {o : Obj} {w2 : World} (h : Bx u g cs t) (ht : t ≠ 37) (R : u.ownsRow B 37 5 (.slice A' m c') m ys) (hg : (u.alloc o).grownBy w2 (Value.slice A' m c').ownBlock) : Bx w2 g cs t := grow_box R hg h ht
theorem ROws.app {o : Obj} {w2 : World} {A2 : Option Addr} {c2 : Nat} (q : ROws u B A n c Z) (R : ROwn u B s r) (hown : w2.ownsRow B 37 5 (.slice A2 (n + 1) c2) (n + 1) (cellsR Z ++ (rc r s).toList)) (hg : (u.alloc o).grownBy w2 (Value.slice A n c).ownBlock) : ROws w2 B A2 (n + 1) c2 (Z ++ [(r, s)]) := by
  refine ⟨by rw [cellsR_snoc]; exact hown, fun i hi => ?_⟩
  have hl := q.len
  by_cases e : i < Z.length
  · have a : (Z ++ [(r, s)]).getD i noZ = Z.getD i noZ := by simp [List.getD_eq_getElem?_getD, List.getElem?_append_left e]
    rw [a]
    exact (q.rd i e).grown q.rows hg
  · have ei : i = Z.length := by simp at hi; omega
    subst ei
    have a : (Z ++ [(r, s)]).getD Z.length noZ = (r, s) := by simp [List.getD_eq_getElem?_getD]
    rw [a]
    exact R.grown q.rows hg
end
section
variable {ops : Array Oper} {rest : List Oper} {a : Act} {w : World} {Q : Exit → Act → World → Prop} {dst : Option Tmp} {ty : TypeId} {pos : String} {af : Array Edge}
/-- A result is stored into a row. -/
theorem stRr (x y : Operand) (base g off n c : Nat) (xs : List Value) (hx : a.eval x = .pointer (some ⟨g, off, none⟩)) (e : RL) (s : S3) (hy : a.eval y = .agg (rc e s)) (h : w.ownsRow base 37 5 (.slice (some ⟨g, 0, none⟩) n c) n xs) (hl : off + 5 ≤ n * 5) (H : wpList Tryz.prog ops Q rest (a.put dst undef) (putL w g off (rc e s).toList)) :
    wpList Tryz.prog ops Q (⟨dst, .store 37 x y, ty, pos, af, none⟩ :: rest) a w := by
  have hr : (storeVar 37 ⟨g, off, none⟩ (.agg (rc e s))).run Tryz.prog w = .ok () (putL w g off (rc e s).toList) := by
    have h1 : ∀ v ∈ (rc e s).toList, v.oneCell' = true := fun v hv => by
      have := rc_one e s
      rw [Array.all_eq_true'] at this
      exact this v (by simpa using hv)
    have := run_putL (P := Tryz.prog) off (rc e s).toList 0 w xs h (by show off + 0 + 5 ≤ _; omega) h1
    have hi := asize37
    cases hq : Tryz.prog.info? 37 with
    | none => simp [hq] at hi
    | some i =>
      have hs : (rc e s).size = i.size := by simp [hq] at hi; rw [hi]; rfl
      simp [storeVar, sizeOf, typeInfo, hq, Value.cells, hs, this]
  refine wpList_plain rfl fun _ hK => ?_
  unfold Oper.wp execOp
  simp only [hx, hy, Instr.storeAt, Instr.sureAddr, Sem.run_bind, Sem.run_pure, Result.andThen_ok, hr]
  exact hK _ _ H
end
theorem ainfoR : (Tryz.prog.info? 37).map (fun i => (i.zero, i.size, i.bytes)) = some (some (.agg #[.int .i64 0, .int .i64 0, .slice none 0 0, .slice none 0 0, .slice none 0 0]), 5, 88) := by kernel_rfl
theorem ainfoO : (Tryz.prog.info? 29).map (fun i => (i.zero, i.size, i.bytes)) = some (some (.agg #[.int .i64 0, .int .i64 0, .int .i64 0, .int .i64 0, .int .i64 0]), 5, 40) := by kernel_rfl
/-- The operations at s read as l. -/
def Ops (w : World) (B : Nat) (s : Sl) (l : List O5) : Prop :=
  l.length = s.n ∧ (s.A = none → s.c = 0) ∧ (0 < s.n → ∃ b off, s.A = some ⟨b, off, none⟩ ∧ b < B ∧ ∀ i, i < s.n → Lies w b (off + i * 5) (oc (l.getD i noO)))
section
variable {w w' u u' : World} {B B' k : Nat} {s : Sl} {l : List O5}
theorem Ops.below (p : Ops w B s l) (hb : Below B' w w') (hB : B ≤ B') : Ops w' B s l :=
  ⟨p.1, p.2.1, fun hn => by
    obtain ⟨b, off, e, hlt, hc⟩ := p.2.2 hn
    exact ⟨b, off, e, hlt, fun i hi => (hc i hi).below hb (by omega)⟩⟩
theorem Ops.more (p : Ops w B s l) (hB : B ≤ B') : Ops w B' s l :=
  ⟨p.1, p.2.1, fun hn => by
    obtain ⟨b, off, e, hlt, hc⟩ := p.2.2 hn
    exact ⟨b, off, e, by omega, hc⟩⟩
theorem Ops.step (p : Ops u u.heap.size s l) (hb : Below u.heap.size u u') : Ops u' u'.heap.size s l := (p.below hb (Nat.le_refl _)).more hb.size
theorem Ops.at_ (p : Ops w B s l) (hk : k < s.n) : ∃ b off, s.A = some ⟨b, off, none⟩ ∧ b < B ∧ Lies w b (off + k * 5) (oc (l.getD k noO)) := by
  obtain ⟨b, off, e, hlt, hc⟩ := p.2.2 (by omega)
  exact ⟨b, off, e, hlt, hc k hk⟩
end
/-- All is told: a graph and results, in memory of the call's own. -/
def TellsAll (w : World) (c3 c4 : Int) (l : List O5) (e : Ending) (w' : World) : Prop :=
  ∃ v' A n c Z, e = .returned (.tuple #[.agg (gc v'), .slice A n c]) ∧ Hid (Has w' w.heap.size v' (allG c3 c4 newG0 l)) ∧ Hid (ROws w' w.heap.size A n c Z) ∧ Hid (Z.map (·.1) = allR c3 c4 newG0 l) ∧ Hid (Below w.heap.size w w')
/-- The kinds of operations are numbers. -/
def Wf (l : List O5) : Prop := ∀ o ∈ l, (Lit.int .i64 o.k).wf = true
theorem Wf.at_ {l : List O5} (h : Wf l) {k : Nat} (hk : k < l.length) : (Lit.int .i64 (l.getD k noO).k).wf = true := h _ (by rw [List.getD_eq_getElem?_getD, List.getElem?_eq_getElem hk]; exact List.getElem_mem hk)
theorem few_at {c3 c4 : Int} {l : List O5} {k : Nat} (h : l.length ≤ 100) : Few 140 (allG c3 c4 newG0 (l.take k)) := by
  have h1 := few_all (c3 := c3) (c4 := c4) (l.take k) few_new
  exact h1.more (by have : (l.take k).length ≤ l.length := by simp; omega
                    omega)
theorem few_end {c3 c4 : Int} {l : List O5} (h : l.length ≤ 100) : Few 140 (allG c3 c4 newG0 l) := (few_all (c3 := c3) (c4 := c4) l few_new).more (by omega)
theorem most_all {c3 c4 : Int} : ∀ (l : List O5) {k : Nat} {G : GL}, Few k G → k + l.length ≤ 1000 → ∀ r ∈ allR c3 c4 G l, Most r
  | [], k, G, f, h, r, hr => by cases hr
  | o :: l, k, G, f, h, r, hr => by
    simp only [List.length_cons] at h
    rcases List.mem_cons.1 hr with e | hr
    · rw [e]; exact f.most (by omega)
    · exact most_all l (few_do f) (by omega) r hr
theorem maps_at {Z : List RZ} {L : List RL} {k : Nat} (h : Z.map (·.1) = L) (hk : k < Z.length) : (Z.getD k noZ).1 = L.getD k noR := by
  subst h
  simp [List.getD_eq_getElem?_getD, hk]

end Go.Proofs.YtiiadkjiofkonaaGreat

namespace Go.Proofs.YtiiadkjiofkonaaGreat
open Go.RowKit
set_option linter.unusedVariables false
set_option maxRecDepth 100000

def newV0 : Gv := ⟨noSl, noSl, 1, 1⟩
theorem has_new {u : World} {B : Nat} : Has u B newV0 newG0 := ⟨[], World.ownsRow_nil _ _ _ _, rfl, (fun i hi => by cases hi), (fun i hi => by cases hi), World.ownsRow_nil _ _ _ _, rfl, rfl⟩
theorem maps_all {Z : List RZ} {L : List RL} {n : Nat} (h1 : Z.length = n) (h2 : L.length = n) (h : ∀ i, i < n → (Z.getD i noZ).1 = L.getD i noR) : Z.map (·.1) = L := by
  apply List.ext_getElem (by simp [h1, h2])
  intro i a b
  have := h i (by simpa [h1] using a)
  simp only [List.length_map] at a
  simpa [List.getD_eq_getElem?_getD, a, b] using this

theorem anew_any (w : World) : Calls Tryz.prog 47 #[] w (Drew (.agg (gc newV0)) w) := by
  go_enter Tryz.func47, Tryz.ntmps47
  go_wp2_with (((with_reducible refine stG (.tmp 0) (.tmp 1) (w.heap.size) ?_ newV0 ?_ (#[.slice none 0 0, .slice none 0 0, .int .i64 0, .int .i64 0]) ?_ ?_ ?_); (exact rfl); (exact rfl); (exact Bx.new w (#[.slice none 0 0, .slice none 0 0, .int .i64 0, .int .i64 0]) 27); (exact rfl)))
  exact bodyPost_ret (results_g rfl _ _ w.heap.size newV0 rfl ((Bx.new w (#[.slice none 0 0, .slice none 0 0, .int .i64 0, .int .i64 0]) 27).put _)) rfl ⟨rfl, row_below ((Below.refl _ _).alloc (Nat.le_refl _) _) (Nat.le_refl _) _⟩

theorem allR_at {c3 c4 : Int} : ∀ {l : List O5} {k : Nat} {G : GL}, k < l.length → (allR c3 c4 G l).getD k noR = (doR c3 c4 (allG c3 c4 G (l.take k)) (l.getD k noO)).2
  | [], k, G, h => by simp at h
  | o :: l, 0, G, _ => rfl
  | o :: l, k + 1, G, h => by
    have := allR_at (c3 := c3) (c4 := c4) (l := l) (k := k) (G := (doR c3 c4 G o).1) (by simpa using h)
    simp only [allR, List.getD_cons_succ, List.take_succ_cons, allG]
    exact this
set_option maxHeartbeats 8000000 in
theorem all_any (c0 c1 c2 c3 c4 : Int) (s : Sl) (l : List O5) (w : World) (P : Ops w w.heap.size s l) (hn : s.n ≤ 100) (hw : Wf l) : Calls Tryz.prog 22 #[.agg (fc c0 c1 c2 c3 c4), .slice s.A s.n s.c] w (TellsAll w c3 c4 l) := by
  obtain ⟨A, n, cp⟩ := s
  have PO := hide P
  have HWf := hide hw
  have LN : Hid (l.length = n) := P.1
  dsimp only at hn ⊢
  clear P hw
  obtain ⟨i0, hi0, hz0, hz1, hz2⟩ := info_parts ainfoR
  have H1 := hide hi0
  have H2 := hide hz0
  have H3 := hide hz1
  have H4 := hide hz2
  clear hi0 hz0 hz1 hz2
  have HBY : Hid (i0.bytes * n ≤ 281474976710656) := by rw [H4.out]; show _ ≤ _; omega
  obtain ⟨W, hW⟩ : ∃ W, Hid ((w.alloc (.cells ((fc c0 c1 c2 c3 c4)) 23)).alloc (.cells (#[.slice none 0 0, .slice none 0 0, .int .i64 0, .int .i64 0]) 27) = W) := ⟨_, rfl⟩
  have BW : Hid (Below w.heap.size w W) := by show Below _ _ _; rw [← hW.out]; exact (((Below.refl _ _).alloc (Nat.le_refl _) _).alloc (by simp) _)
  have HC : Hid (Bx W (w.heap.size) ((fc c0 c1 c2 c3 c4)) 23) := by
    have h := ((Bx.new w ((fc c0 c1 c2 c3 c4)) 23).alloc (.cells (#[.slice none 0 0, .slice none 0 0, .int .i64 0, .int .i64 0]) 27))
    show Bx _ _ _ _
    rw [← hW.out]
    simpa using h
  have Hg : Hid (Bx W (w.heap.size + 1) (#[.slice none 0 0, .slice none 0 0, .int .i64 0, .int .i64 0]) 27) := by
    have h := (Bx.new (w.alloc (.cells ((fc c0 c1 c2 c3 c4)) 23)) (#[.slice none 0 0, .slice none 0 0, .int .i64 0, .int .i64 0]) 27)
    show Bx _ _ _ _
    rw [← hW.out]
    simpa using h
  go_enter Tryz.func22, Tryz.ntmps22
  go_upto_region 1 with fail
  have hW' := hW.out
  rw [hW']
  clear hW hW'
  go_wp2_with fail
  refine (anew_any W).mono ?_
  rintro e u1 ⟨rfl, hb⟩
  have HC := hide (HC.out.step hb)
  have Hg := hide (Hg.out.step hb)
  have BW := hide (BW.out.trans (hb.mono BW.out.size))
  clear hb
  have Hh : Hid (Bx (u1.alloc (.cells (#[.slice none 0 0, .slice none 0 0, .int .i64 0, .int .i64 0]) 27)) u1.heap.size (#[.slice none 0 0, .slice none 0 0, .int .i64 0, .int .i64 0]) 27) := Bx.new u1 (#[.slice none 0 0, .slice none 0 0, .int .i64 0, .int .i64 0]) 27
  go_upto_region 2 with (((with_reducible refine stG (.tmp 6) (.tmp 10) (u1.heap.size) ?_ newV0 ?_ (#[.slice none 0 0, .slice none 0 0, .int .i64 0, .int .i64 0]) ?_ ?_ ?_); (exact rfl); (exact rfl); (exact Hh.out); (exact rfl)))
  obtain ⟨V, hV⟩ : ∃ V, Hid ((u1.alloc (.cells (#[.slice none 0 0, .slice none 0 0, .int .i64 0, .int .i64 0]) 27)).setRow u1.heap.size (gc newV0) = V) := ⟨_, rfl⟩
  obtain ⟨g1, hg1⟩ : ∃ g, Hid (u1.heap.size = g) := ⟨_, rfl⟩
  have BV : Hid (Below u1.heap.size u1 V) := by show Below _ _ _; rw [← hV.out]; exact row_below ((Below.refl _ _).alloc (Nat.le_refl _) _) (Nat.le_refl _) _
  have Hh : Hid (Bx V g1 (gc newV0) 27) := by show Bx _ _ _ _; rw [← hV.out, ← hg1.out]; exact Hh.out.put _
  have HL1 : Hid (w.heap.size + 1 < g1) := by show _ < _; rw [← hg1.out]; exact Hg.out.lt
  have HC := hide (HC.out.step BV.out)
  have Hg := hide (Hg.out.step BV.out)
  have BW := hide (BW.out.trans (BV.out.mono BW.out.size))
  clear BV
  have hV' := hV.out
  have hg' := hg1.out
  rw [hV', hg']
  clear hV hg1 hV' hg'
  go_wp2_with (at_make; refine wpList_make_full _ rfl _ _ 50 rfl w.heap.size 37 i0 (.agg #[.int .i64 0, .int .i64 0, .slice none 0 0, .slice none 0 0, .slice none 0 0]) 5 Tryz.underlying50 H1.out H2.out H3.out _ _ _ _ n rfl rfl rfl rfl HBY.out (by unfold maxLen; omega) BW.out.size ?_; intro w2 hrow hg2)
  have RO : Hid (ROws w2 w.heap.size (some ⟨V.heap.size, 0, none⟩) n n (List.replicate n noZ)) := ROws.made hrow
  have BG : Hid (Below V.heap.size V w2) := (Below.refl _ _).grown hg2 (Nat.le_refl _) (by simp)
  clear hrow hg2
  have HC := hide (HC.out.step BG.out)
  have Hg := hide (Hg.out.step BG.out)
  have Hh := hide (Hh.out.step BG.out)
  have BW := hide (BW.out.trans (BG.out.mono BW.out.size))
  obtain ⟨gR, hgR⟩ : ∃ g, Hid (V.heap.size = g) := ⟨_, rfl⟩
  have hg' := hgR.out
  rw [hg'] at RO ⊢
  clear BG hgR hg'
  go_wp2
  go_loopw [16] (fun i wr => ∃ (k : Nat) (v' : Gv) (Z : List RZ), k ≤ n ∧ i = .int .i64 k ∧ Hid (Bx wr w.heap.size (fc c0 c1 c2 c3 c4) 23) ∧ Hid (Bx wr (w.heap.size + 1) (#[.slice none 0 0, .slice none 0 0, .int .i64 0, .int .i64 0]) 27) ∧ Hid (Bx wr g1 (gc v') 27) ∧ Hid (Has wr w.heap.size v' (allG c3 c4 newG0 (l.take k))) ∧ Hid (ROws wr w.heap.size (some ⟨gR, 0, none⟩) n n Z) ∧ Hid (∀ i, i < k → (Z.getD i noZ).1 = (allR c3 c4 newG0 l).getD i noR) ∧ Hid (Below w.heap.size w wr)) (fun i _ => n - (intOf i).toNat)
  case atStart => exact ⟨0, newV0, _, by omega, rfl, HC, Hg, Hh, has_new, RO, (fun i hi => by omega), BW⟩
  case round =>
    clear HC Hg Hh RO BW
    obtain ⟨k, v', Z, hk, rfl, HC, Hg, Hh, OG, RO, HZ, BW⟩ := hrel
    by_cases hlt : k < n
    · have HK : Hid (k < l.length) := by have := LN.out; show _ < _; omega
      obtain ⟨b, off, e, hb, LI0⟩ := (PO.out.below BW.out (Nat.le_refl _)).at_ hlt
      dsimp only at e
      subst e
      obtain ⟨o, ho⟩ : ∃ o, Hid (l.getD k noO = o) := ⟨_, rfl⟩
      have HWK : Hid ((Lit.int .i64 o.k).wf = true) := by have h := HWf.out.at_ HK.out; rw [ho.out] at h; exact h
      rw [ho.out] at LI0
      have LI := hide LI0
      have LIa : Hid (Lies (wr.alloc (.cells (#[.int .i64 0, .int .i64 0, .int .i64 0, .int .i64 0, .int .i64 0]) 29)) b (off + k * 5) (oc o)) := LI0.below ((Below.refl wr.heap.size wr).alloc (Nat.le_refl _) _) (Nat.lt_of_lt_of_le hb BW.out.size)
      have ip : (0 : Int) ≤ (k : Int) := by omega
      have jp : (k : Int) < (n : Int) := by omega
      clear LI0 hb
      have H5 : Hid (Bx (wr.alloc (.cells (#[.int .i64 0, .int .i64 0, .int .i64 0, .int .i64 0, .int .i64 0]) 29)) wr.heap.size (#[.int .i64 0, .int .i64 0, .int .i64 0, .int .i64 0, .int .i64 0]) 29) := Bx.new wr (#[.int .i64 0, .int .i64 0, .int .i64 0, .int .i64 0, .int .i64 0]) 29
      go_upto_region 6 with (first | ((with_reducible refine ldO (.tmp 19) (b) (off + k * 5) ?_ ?_ o ?_ ?_); (exact rfl); (exact rfl); (exact LI.out)) | ((with_reducible refine stO (.tmp 9) (.tmp 20) (wr.heap.size) ?_ o ?_ (#[.int .i64 0, .int .i64 0, .int .i64 0, .int .i64 0, .int .i64 0]) ?_ ?_ ?_); (exact rfl); (exact rfl); (exact H5.out); (exact rfl)))
      obtain ⟨U, hU⟩ : ∃ U, Hid ((wr.alloc (.cells (#[.int .i64 0, .int .i64 0, .int .i64 0, .int .i64 0, .int .i64 0]) 29)).setRow wr.heap.size (oc o) = U) := ⟨_, rfl⟩
      obtain ⟨gO, hgO⟩ : ∃ g, Hid (wr.heap.size = g) := ⟨_, rfl⟩
      have BU : Hid (Below wr.heap.size wr U) := by show Below _ _ _; rw [← hU.out]; exact row_below ((Below.refl _ _).alloc (Nat.le_refl _) _) (Nat.le_refl _) _
      have HO : Hid (Bx U gO (oc o) 29) := by show Bx _ _ _ _; rw [← hU.out, ← hgO.out]; exact H5.out.put _
      have hV' := hU.out
      have hg' := hgO.out
      rw [hV', hg']
      clear hU hgO hV' hg' LI LIa H5
      have HC := hide (HC.out.step BU.out)
      have Hg := hide (Hg.out.step BU.out)
      have Hh := hide (Hh.out.step BU.out)
      have OG := hide (OG.out.step BU.out)
      have RO := hide (RO.out.step BU.out)
      have BW := hide (BW.out.trans (BU.out.mono BW.out.size))
      clear BU
      go_wp2_with (first | ((with_reducible refine ldC (.tmp 2) (w.heap.size) (0) ?_ ?_ c0 c1 c2 c3 c4 ?_ ?_); (exact rfl); (exact rfl); (exact HC.out.lies)) | ((with_reducible refine ldG (.tmp 6) (g1) (0) ?_ ?_ v' ?_ ?_); (exact rfl); (exact rfl); (exact Hh.out.lies)) | ((with_reducible refine ldO (.tmp 9) (gO) (0) ?_ ?_ o ?_ ?_); (exact rfl); (exact rfl); (exact HO.out.lies)))
      refine (do_any c0 c1 c2 c3 c4 v' (allG c3 c4 newG0 (l.take k)) o U OG.out.sees (few_at (by have := LN.out; omega)) HWK.out).mono ?_
      rintro e u2 ⟨v2, s2, rfl, hm, hr2, hb⟩
      have OG2 : Hid (Has u2 w.heap.size v2 (allG c3 c4 newG0 (l.take (k + 1)))) := by have h := hm.out.less BW.out.size; show Has _ _ _ _; rw [allG_take HK.out, ho.out]; exact h
      obtain ⟨r, hr⟩ : ∃ r, Hid ((doR c3 c4 (allG c3 c4 newG0 (l.take k)) o).2 = r) := ⟨_, rfl⟩
      rw [hr.out] at hr2
      rw [hr.out]
      have OR2 : Hid (ROwn u2 w.heap.size s2 r) := hr2.out.less BW.out.size
      clear hm hr2 OG
      have HRK : Hid (r = (allR c3 c4 newG0 l).getD k noR) := by show _ = _; rw [← hr.out, ← ho.out]; exact (allR_at HK.out).symm
      have HC := hide (HC.out.step hb.out)
      have Hg := hide (Hg.out.step hb.out)
      have Hh := hide (Hh.out.step hb.out)
      have RO := hide (RO.out.step hb.out)
      have BW := hide (BW.out.trans (hb.out.mono BW.out.size))
      clear hb HO hr
      obtain ⟨g', eg, hgB, -, csR, BR0⟩ := RO.out.block hlt
      simp only [Option.some.injEq, Addr.mk.injEq, and_true] at eg
      subst eg
      have BR := hide BR0
      have HGB := hide hgB
      clear BR0 hgB
      have n0 : w.heap.size ≠ gR := type_ne HC.out BR.out (by decide)
      have n1 : w.heap.size + 1 ≠ gR := type_ne Hg.out BR.out (by decide)
      have n2 : g1 ≠ gR := type_ne Hh.out BR.out (by decide)
      have RO3 := hide (RO.out.row Hh.out apG (by decide) (gc v2))
      have OG3 := hide (OG2.out.row Hh.out apG (gc v2))
      have OR3 := hide (OR2.out.row Hh.out apG (gc v2))
      have BR3 := hide (BR.out.far (k := g1) (Ne.symm n2) (gc v2))
      have C3 := hide (HC.out.far (k := g1) (by have := HL1.out; omega) (gc v2))
      have G3 := hide (Hg.out.far (k := g1) (by have := HL1.out; omega) (gc v2))
      have H3' := hide (Hh.out.put (gc v2))
      have B3 := hide (row_below BW.out (by have := HL1.out; omega : w.heap.size ≤ g1) (gc v2))
      clear RO OG2 OR2 BR HC Hg BW
      go_wp2_with (first | ((with_reducible refine stG (.tmp 6) (.tmp 28) (g1) ?_ v2 ?_ (gc v') ?_ ?_ ?_); (exact rfl); (exact rfl); (exact Hh.out); (exact rfl)) | ((with_reducible refine stRr (.tmp 30) (.tmp 29) w.heap.size gR (k * 5) n n _ ?_ r s2 ?_ RO3.out.rows ?_ ?_); (exact rfl); (exact rfl); (omega)))
      have E1 : Hid (Bx (putL (u2.setRow g1 (gc v2)) gR (k * 5) (rc r s2).toList) w.heap.size (fc c0 c1 c2 c3 c4) 23) := (putL_other n0 _ _ _).trans C3.out
      have E2 : Hid (Bx (putL (u2.setRow g1 (gc v2)) gR (k * 5) (rc r s2).toList) (w.heap.size + 1) (#[.slice none 0 0, .slice none 0 0, .int .i64 0, .int .i64 0]) 27) := (putL_other n1 _ _ _).trans G3.out
      have E3 : Hid (Bx (putL (u2.setRow g1 (gc v2)) gR (k * 5) (rc r s2).toList) g1 (gc v2) 27) := (putL_other n2 _ _ _).trans H3'.out
      have E4 := hide (OG3.out.aside BR3.out (k * 5) (rc r s2).toList)
      have E5 := hide (RO3.out.put hlt OR3.out)
      have E6 : Hid (Below w.heap.size w (putL (u2.setRow g1 (gc v2)) gR (k * 5) (rc r s2).toList)) := putL_below _ _ _ B3.out HGB.out
      have HZ2 : Hid (∀ i, i < k + 1 → ((Z.set k (r, s2)).getD i noZ).1 = (allR c3 c4 newG0 l).getD i noR) := fun i hi => by
        by_cases ei : i = k
        · subst ei
          have hl := RO3.out.len
          have a : (Z.set i (r, s2)).getD i noZ = (r, s2) := by simp [List.getD_eq_getElem?_getD, hl, hlt]
          rw [a]
          exact HRK.out
        · have a : (Z.set k (r, s2)).getD i noZ = Z.getD i noZ := by simp [List.getD_eq_getElem?_getD, Ne.symm ei]
          rw [a]
          exact HZ.out i (by omega)
      clear RO3 OG3 OR3 BR3 C3 G3 H3' B3 Hh n0 n1 n2
      go_roundw
      case rel => exact ⟨k + 1, v2, _, by omega, by go_num, E1, E2, E3, E4, E5, HZ2, E6⟩
      case measure => simp [intOf]; omega
    · obtain rfl : k = n := by omega
      have n3 : g1 ≠ w.heap.size + 1 := by have := HL1.out; omega
      go_wp2_with (first | ((with_reducible refine ldG (.tmp 6) (g1) (0) ?_ ?_ v' ?_ ?_); (exact rfl); (exact rfl); (exact Hh.out.lies)) | ((with_reducible refine stG (.tmp 4) (.tmp 32) (w.heap.size + 1) ?_ v' ?_ (#[.slice none 0 0, .slice none 0 0, .int .i64 0, .int .i64 0]) ?_ ?_ ?_); (exact rfl); (exact rfl); (exact Hg.out); (exact rfl)))
      have OGL : Hid (Has wr w.heap.size v' (allG c3 c4 newG0 l)) := by have h := OG.out; rw [List.take_of_length_le (by rw [LN.out]; exact Nat.le_refl _)] at h; exact h
      have HM : Hid (Z.map (·.1) = allR c3 c4 newG0 l) := maps_all RO.out.len (by rw [allR_len, LN.out]) HZ.out
      exact bodyPost_ret (row_two rfl _ _ (w.heap.size + 1) 27 (gc v') (0, 0) _ rfl (Hg.out.put _) Tryz.underlying27 rfl asize27) rfl ⟨v', some ⟨gR, 0, none⟩, k, k, Z, rfl, OGL.out.row Hg.out apG _, RO.out.row Hg.out apG (by decide) _, HM, row_below BW.out (by omega) _⟩

end Go.Proofs.YtiiadkjiofkonaaGreat

namespace Go.Proofs.YtiiadkjiofkonaaGreat
open Go.RowKit
set_option linter.unusedVariables false
set_option maxRecDepth 100000

theorem keyP_any (a b x : Int) (q : Bool) (g : Nat) (u : World) (hg : g < u.heap.size) (hc : u.cell? ⟨g, 0, none⟩ = some (.int .i64 x)) (hq : Hid ((a == x) = q)) : Calls Tryz.prog 79 #[.agg #[.int .i64 a, .int .i64 b], .pointer (some ⟨g, 0, none⟩)] u (Drew (.bool q) u) := by
  have hne : g ≠ u.heap.size := by omega
  have hq' := hq.out
  go_enter Tryz.func79, Tryz.ntmps79
  go_wp2
  all_goals (go_ret; exact ⟨by simp_all, (Below.refl _ _).alloc (Nat.le_refl _) _⟩)
set_option maxHeartbeats 2000000 in
theorem indexF_any (A : Option Addr) (n c : Nat) (L : List Pr) (x r : Int) (g : Nat) (w : World) (hN : Nums w w.heap.size 2 A n (flat2 L)) (hn : n ≤ 1000) (hg : g < w.heap.size) (hc : w.cell? ⟨g, 0, none⟩ = some (.int .i64 x)) (hr : Hid (atf (fun z : Pr => z.1) L x = r)) :
    Calls Tryz.prog 102 #[.slice A n c, .func (.func 79) #[] #[.pointer (some ⟨g, 0, none⟩)]] w (Drew (.int .i64 r) w) := by
  have HN := hide hN
  have HL := hide (pairs_len hN)
  have HC := hide hc
  have HG := hide hg
  clear hN hc hg
  go_enter Tryz.func102, Tryz.ntmps102
  go_wp2
  go_loopw [8] (fun i wx => ∃ k : Nat, k ≤ n ∧ i = .int .i64 k ∧ Hid (∀ j, j < k → (L.getD j (0, 0)).1 ≠ x) ∧ Hid (Below w.heap.size w wx)) (fun i _ => n - (intOf i).toNat)
  case atStart => exact ⟨0, by omega, rfl, (fun j hj => by omega), Below.refl _ _⟩
  case round =>
    obtain ⟨k, hk, rfl, HS, HB⟩ := hrel
    by_cases hlt : k < n
    · have HK : Hid (k < L.length) := by have := HL.out; show _ < _; omega
      obtain ⟨b0, off, e0, hb0, c0, c1⟩ := pair_at (k := k) (HN.out.below HB.out (Nat.le_refl _)) hlt
      subst e0
      generalize (L.getD k (0, 0)).2 = b at c1
      have CX := hide ((HB.out.cell (p := ⟨g, 0, none⟩) HG.out).trans HC.out)
      have GX : Hid (g < wr.heap.size) := Nat.lt_of_lt_of_le HG.out HB.out.size
      by_cases e : (L.getD k (0, 0)).1 = x
      · have HR : Hid (r = (k : Int)) := by
          show _ = _
          rw [← hr.out]
          exact atf_here HK.out HS.out e
        rw [e] at c0
        clear e HS
        go_wp2_with fail
        refine (keyP_any _ _ x true g _ GX.out CX.out (by show _ = _; simp)).mono ?_
        rintro e u1 ⟨rfl, hu1⟩
        have HB1 := hide (HB.out.trans (hu1.mono HB.out.size))
        clear hu1
        go_wp2
        go_ret
        rw [HR.out]
        exact ⟨rfl, HB1.out⟩
      · have HS' : Hid (∀ j, j < k + 1 → (L.getD j (0, 0)).1 ≠ x) := fun j hj => by
          by_cases ej : j = k
          · subst ej; exact e
          · exact HS.out j (by omega)
        have t1 : Hid (((L.getD k (0, 0)).1 == x) = false) := by show _ = _; simpa using e
        generalize (L.getD k (0, 0)).1 = z at c0 t1
        clear e HS
        go_wp2_with fail
        refine (keyP_any _ _ x false g _ GX.out CX.out t1).mono ?_
        rintro e u1 ⟨rfl, hu1⟩
        have HB1 := hide (HB.out.trans (hu1.mono HB.out.size))
        clear hu1
        go_wp2
        go_roundw
        case rel => exact ⟨k + 1, by omega, by go_num, HS', HB1⟩
        case measure => simp [intOf]; omega
    · have HR : Hid (r = -1) := by
        show _ = _
        rw [← hr.out]
        exact atf_none fun j hj => HS.out j (by have := HL.out; omega)
      go_wp2
      go_ret
      rw [HR.out]
      exact ⟨rfl, HB.out⟩
set_option maxHeartbeats 2000000 in
theorem containsF_any (A : Option Addr) (n c : Nat) (L : List Pr) (x : Int) (q : Bool) (g : Nat) (w : World) (hN : Nums w w.heap.size 2 A n (flat2 L)) (hn : n ≤ 1000) (hg : g < w.heap.size) (hc : w.cell? ⟨g, 0, none⟩ = some (.int .i64 x)) (hq : Hid (decide (0 ≤ atf (fun z : Pr => z.1) L x) = q)) :
    Calls Tryz.prog 78 #[.slice A n c, .func (.func 79) #[] #[.pointer (some ⟨g, 0, none⟩)]] w (Drew (.bool q) w) := by
  obtain ⟨r, Hr⟩ : ∃ r, Hid (atf (fun z : Pr => z.1) L x = r) := ⟨_, rfl⟩
  have HI := hide (indexF_any A n c L x r g w hN hn hg hc Hr)
  clear hN hg hc
  have t1 : decide (0 ≤ r) = q := by rw [← hq.out, Hr.out]
  have t2 : decide (r ≥ 0) = q := t1
  go_enter Tryz.func78, Tryz.ntmps78
  go_wp2_with fail
  refine HI.out.mono ?_
  rintro e u1 ⟨rfl, hu1⟩
  have B := hide hu1
  clear hu1
  go_wp2
  go_ret
  exact ⟨rfl, B.out⟩
theorem has_get (G : GL) (a k : Int) : hasR G a k = decide (0 ≤ atf (fun z : Pr => z.1) (getR G a).2 k) := by
  unfold hasR isN getR
  by_cases h : atf (fun z : Nd => z.1) G.N a < 0
  · have e : decide (0 ≤ atf (fun z : Nd => z.1) G.N a) = false := by simp; omega
    rw [e, if_pos h]
    rfl
  · have : 0 ≤ atf (fun z : Nd => z.1) G.N a := by omega
    simp [h, this]
theorem get_len {G : GL} {a : Int} {k : Nat} (f : Few k G) : (getR G a).2.length ≤ k := by
  unfold getR
  split
  · exact Nat.zero_le _
  · exact f.prs _

set_option maxHeartbeats 2000000 in
theorem hasP_any (v : Gv) (G : GL) (a k : Int) (w : World) (S : Sees w w.heap.size v G) (F : Few 140 G) : Calls Tryz.prog 43 #[.agg (gc v), .int .i64 a, .int .i64 k] w (Drew (.bool (hasR G a k)) w) := by
  have SB := hide S
  have HF := hide F
  clear S F
  obtain ⟨W, hW⟩ : ∃ W, Hid ((w.alloc (.cells (gc v) 27)).alloc (.cells (#[.int .i64 k]) 3) = W) := ⟨_, rfl⟩
  have BW : Hid (Below w.heap.size w W) := by show Below _ _ _; rw [← hW.out]; exact (((Below.refl _ _).alloc (Nat.le_refl _) _).alloc (by simp) _)
  have HG : Hid (Bx W (w.heap.size) (gc v) 27) := by
    have h := ((Bx.new w (gc v) 27).alloc (.cells (#[.int .i64 k]) 3))
    show Bx _ _ _ _
    rw [← hW.out]
    simpa using h
  have HK : Hid (Bx W (w.heap.size + 1) (#[.int .i64 k]) 3) := by
    have h := (Bx.new (w.alloc (.cells (gc v) 27)) (#[.int .i64 k]) 3)
    show Bx _ _ _ _
    rw [← hW.out]
    simpa using h
  go_enter Tryz.func43, Tryz.ntmps43
  go_upto_region 1 with fail
  have hW' := hW.out
  rw [hW']
  clear hW hW'
  obtain ⟨er, l, hr⟩ : ∃ er l, Hid (getR G a = (er, l)) := ⟨_, _, rfl⟩
  have HQ : Hid (decide (0 ≤ atf (fun z : Pr => z.1) l k) = hasR G a k) := by show _ = _; rw [has_get, hr.out]
  have HLL : l.length ≤ 140 := by have h := get_len (a := a) HF.out; rw [hr.out] at h; exact h
  go_wp2_with (((with_reducible refine ldG (.tmp 3) (w.heap.size) (0) ?_ ?_ v ?_ ?_); (exact rfl); (exact rfl); (exact HG.out.lies)))
  refine (get_any v G l a er W (sees_at SB.out BW.out) (HF.out.small (by decide)) hr).mono ?_
  rintro e u1 ⟨h, rfl, hm, hb⟩
  have NN := hide (own_nums hm.out)
  have LL := hide (pairs_len NN.out)
  clear hm
  have HG := hide (HG.out.step hb.out)
  have HK := hide (HK.out.step hb.out)
  have BW := hide (BW.out.trans (hb.out.mono BW.out.size))
  clear hb
  have hmf : ∀ (fn : Fn) (first cap : Array Value) (w : World), (Instr.makeFunc fn first cap).run Tryz.prog w = .ok (.func fn first cap) w := fun _ _ _ _ => rfl
  go_wp2_with fail
  refine (containsF_any h.A h.n h.c l k _ (w.heap.size + 1) u1 NN.out (by have := LL.out; omega) HK.out.lt (HK.out.cells 0) HQ).mono ?_
  rintro e u2 ⟨rfl, hb⟩
  have BW := hide (BW.out.trans (hb.mono BW.out.size))
  clear hb
  go_wp2
  go_ret
  exact ⟨rfl, BW.out⟩

set_option maxHeartbeats 4000000 in
theorem takes_any (c0 c1 c2 c3 c4 : Int) (v : Gv) (G : GL) (o : O5) (w : World) (S : Sees w w.heap.size v G) (F : Few 140 G) (hwf : (Lit.int .i64 o.k).wf = true) : Calls Tryz.prog 15 #[.agg (fc c0 c1 c2 c3 c4), .agg (gc v), .agg (oc o)] w (Drew (.int .i64 (takesR c3 c4 G o)) w) := by
  have SB := hide S
  have HF := hide F
  clear S F
  obtain ⟨t, ht⟩ : ∃ t, Hid (takesR c3 c4 G o = t) := ⟨_, rfl⟩
  rw [ht.out]
  obtain ⟨W, hW⟩ : ∃ W, Hid (((w.alloc (.cells ((fc c0 c1 c2 c3 c4)) 23)).alloc (.cells (gc v) 27)).alloc (.cells (oc o) 29) = W) := ⟨_, rfl⟩
  have BW : Hid (Below w.heap.size w W) := by show Below _ _ _; rw [← hW.out]; exact ((((Below.refl _ _).alloc (Nat.le_refl _) _).alloc (by simp) _).alloc (by simp; omega) _)
  have HC : Hid (Bx W (w.heap.size) ((fc c0 c1 c2 c3 c4)) 23) := by
    have h := (((Bx.new w ((fc c0 c1 c2 c3 c4)) 23).alloc (.cells (gc v) 27)).alloc (.cells (oc o) 29))
    show Bx _ _ _ _
    rw [← hW.out]
    simpa using h
  have HG : Hid (Bx W (w.heap.size + 1) (gc v) 27) := by
    have h := ((Bx.new (w.alloc (.cells ((fc c0 c1 c2 c3 c4)) 23)) (gc v) 27).alloc (.cells (oc o) 29))
    show Bx _ _ _ _
    rw [← hW.out]
    simpa using h
  have HO : Hid (Bx W (w.heap.size + 2) (oc o) 29) := by
    have h := (Bx.new ((w.alloc (.cells ((fc c0 c1 c2 c3 c4)) 23)).alloc (.cells (gc v) 27)) (oc o) 29)
    show Bx _ _ _ _
    rw [← hW.out]
    simpa using h
  go_enter Tryz.func15, Tryz.ntmps15
  go_upto_region 1 with fail
  have hW' := hW.out
  rw [hW']
  clear hW hW'
  go_wp2_with (first | ((with_reducible refine ldC (.tmp 3) (w.heap.size) (0) ?_ ?_ c0 c1 c2 c3 c4 ?_ ?_); (exact rfl); (exact rfl); (exact HC.out.lies)) | ((with_reducible refine ldG (.tmp 4) (w.heap.size + 1) (0) ?_ ?_ v ?_ ?_); (exact rfl); (exact rfl); (exact HG.out.lies)) | ((with_reducible refine ldO (.tmp 5) (w.heap.size + 2) (0) ?_ ?_ o ?_ ?_); (exact rfl); (exact rfl); (exact HO.out.lies)))
  refine (do_any c0 c1 c2 c3 c4 v G o W (sees_at SB.out BW.out) HF.out hwf).mono ?_
  rintro e u1 ⟨v', s', rfl, -, -, hb⟩
  have HC := hide (HC.out.step hb.out)
  have HG := hide (HG.out.step hb.out)
  have HO := hide (HO.out.step hb.out)
  have BW := hide (BW.out.trans (hb.out.mono BW.out.size))
  clear hb
  obtain ⟨R, r, hr⟩ : ∃ R r, Hid (inR c3 c4 G o = (R, r)) := ⟨_, _, rfl⟩
  have HR2 : Hid ((doR c3 c4 G o).2 = r) := by show (inR c3 c4 G o).2 = r; rw [hr.out]
  rw [HR2.out]
  clear HR2
  have Hh : Hid (Bx ((u1.alloc (.cells (#[.slice none 0 0, .slice none 0 0, .int .i64 0, .int .i64 0]) 27)).alloc (.cells (#[.int .i64 0, .int .i64 0, .slice none 0 0, .slice none 0 0, .slice none 0 0]) 37)) u1.heap.size (#[.slice none 0 0, .slice none 0 0, .int .i64 0, .int .i64 0]) 27) := (Bx.new u1 (#[.slice none 0 0, .slice none 0 0, .int .i64 0, .int .i64 0]) 27).alloc _
  have Hq : Hid (Bx (((u1.alloc (.cells (#[.slice none 0 0, .slice none 0 0, .int .i64 0, .int .i64 0]) 27)).alloc (.cells (#[.int .i64 0, .int .i64 0, .slice none 0 0, .slice none 0 0, .slice none 0 0]) 37)).setRow u1.heap.size (gc v')) (u1.heap.size + 1) (#[.int .i64 0, .int .i64 0, .slice none 0 0, .slice none 0 0, .slice none 0 0]) 37) := by have h := Bx.new (u1.alloc (.cells (#[.slice none 0 0, .slice none 0 0, .int .i64 0, .int .i64 0]) 27)) (#[.int .i64 0, .int .i64 0, .slice none 0 0, .slice none 0 0, .slice none 0 0]) 37; exact Bx.far (by simpa using h) (by omega) _
  go_upto_region 2 with (first | ((with_reducible refine stG (.tmp 7) (.tmp 14) (u1.heap.size) ?_ v' ?_ (#[.slice none 0 0, .slice none 0 0, .int .i64 0, .int .i64 0]) ?_ ?_ ?_); (exact rfl); (exact rfl); (exact Hh.out); (exact rfl)) | ((with_reducible refine stR (.tmp 8) (.tmp 15) (u1.heap.size + 1) ?_ r s' ?_ (#[.int .i64 0, .int .i64 0, .slice none 0 0, .slice none 0 0, .slice none 0 0]) ?_ ?_ ?_); (exact rfl); (exact rfl); (exact Hq.out); (exact rfl)))
  obtain ⟨V, hV⟩ : ∃ V, Hid (((((u1.alloc (.cells (#[.slice none 0 0, .slice none 0 0, .int .i64 0, .int .i64 0]) 27)).alloc (.cells (#[.int .i64 0, .int .i64 0, .slice none 0 0, .slice none 0 0, .slice none 0 0]) 37)).setRow u1.heap.size (gc v')).setRow (u1.heap.size + 1) (rc r s')) = V) := ⟨_, rfl⟩
  obtain ⟨g1, hg1⟩ : ∃ g, Hid (u1.heap.size = g) := ⟨_, rfl⟩
  have BV : Hid (Below u1.heap.size u1 V) := by show Below _ _ _; rw [← hV.out]; exact row_below (row_below (((Below.refl _ _).alloc (Nat.le_refl _) _).alloc (by simp) _) (Nat.le_refl _) _) (by omega) _
  have Hq : Hid (Bx V (g1 + 1) (rc r s') 37) := by show Bx _ _ _ _; rw [← hV.out, ← hg1.out]; exact Hq.out.put _
  have HC := hide (HC.out.step BV.out)
  have HG := hide (HG.out.step BV.out)
  have HO := hide (HO.out.step BV.out)
  have BW := hide (BW.out.trans (BV.out.mono BW.out.size))
  clear BV Hh
  have hV' := hV.out
  have hg' := hg1.out
  rw [hV', hg']
  clear hV hg1 hV' hg'
  obtain ⟨er, her⟩ : ∃ er, Hid (r.er = er) := ⟨_, rfl⟩
  obtain ⟨kd, hkd⟩ : ∃ k, Hid (o.k = k) := ⟨_, rfl⟩
  have q0 : V.cell? ⟨g1 + 1, 0, none⟩ = some (.int .i64 er) := by rw [← her.out]; exact Hq.out.r0
  have k0 : V.cell? ⟨w.heap.size + 2, 0, none⟩ = some (.int .i64 kd) := by rw [← hkd.out]; exact HO.out.o0
  have k1 := HO.out.o1
  have k3 := HO.out.o3
  have l0 := HO.out.lt
  have l1 := Hq.out.lt
  have HT : Hid (t = if er = 0 then (if kd = 1 then 1 else if kd = 2 then 2 else if kd = 4 then (if hasR G o.a o.q = true then 0 else 3) else 0) else 0) := by show _ = _; rw [← ht.out, ← her.out, ← hkd.out]; unfold takesR; rw [hr.out]
  by_cases h0 : er = 0
  case neg =>
    have HV : Hid (t = 0) := by show _ = _; rw [HT.out]; simp [h0]
    go_wp2
    go_ret
    rw [HV.out]
    exact ⟨rfl, BW.out⟩
  subst h0
  by_cases h1 : kd = 1
  case pos =>
    subst h1
    have HV : Hid (t = 1) := by show _ = _; rw [HT.out]; simp
    go_wp2
    go_ret
    rw [HV.out]
    exact ⟨rfl, BW.out⟩
  by_cases h2 : kd = 2
  case pos =>
    subst h2
    have HV : Hid (t = 2) := by show _ = _; rw [HT.out]; simp
    go_wp2
    go_ret
    rw [HV.out]
    exact ⟨rfl, BW.out⟩
  by_cases h4 : kd = 4
  case neg =>
    have y1 : (kd == 1) = false := by simpa using h1
    have y2 : (kd == 2) = false := by simpa using h2
    have y4 : (kd == 4) = false := by simpa using h4
    have HV : Hid (t = 0) := by show _ = _; rw [HT.out]; simp [h1, h2, h4]
    go_wp2
    go_ret
    rw [HV.out]
    exact ⟨rfl, BW.out⟩
  subst h4
  clear h1 h2
  go_wp2_with (((with_reducible refine ldG (.tmp 4) (w.heap.size + 1) (0) ?_ ?_ v ?_ ?_); (exact rfl); (exact rfl); (exact HG.out.lies)))
  refine (hasP_any v G o.a o.q V (sees_at SB.out BW.out) HF.out).mono ?_
  rintro e u2 ⟨rfl, hb⟩
  have BW := hide (BW.out.trans (hb.mono BW.out.size))
  clear hb
  obtain ⟨b, hb⟩ : ∃ b, Hid (hasR G o.a o.q = b) := ⟨_, rfl⟩
  rw [hb.out] at HT ⊢
  cases b
  · have HV : Hid (t = 3) := by show _ = _; rw [HT.out]; simp
    go_wp2
    go_ret
    rw [HV.out]
    exact ⟨rfl, BW.out⟩
  · have HV : Hid (t = 0) := by show _ = _; rw [HT.out]; simp
    go_wp2
    go_ret
    rw [HV.out]
    exact ⟨rfl, BW.out⟩

end Go.Proofs.YtiiadkjiofkonaaGreat
