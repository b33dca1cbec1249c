/- What is pending, and what is ahead; what may begin, and end; copies of lists and of results. Conditions: lists that are not great. -/
import Derived.Test.YtfefkdedgceomaaWSame
import Derived.WalkKit
import Derived.Below
import Derived.Deep.QuietTactic
import Derived.BigQuiet
import Derived.Deep.AppendLies
import Derived.Deep.RegionHeld3
import Derived.Deep.DeepCutAuto
import Derived.Shelf.Abstract
import Derived.Laws.Rows
import Derived.Laws.AppendOwnNone
import Derived.Lib.Walk
import Derived.Lib.SliceRun
namespace Go.Proofs.Ytfefkdedgceomaa
open Go.RowKit
set_option linter.unusedVariables false
set_option maxRecDepth 100000

set_option maxHeartbeats 1000000 in
theorem pending_any (c : Cl) (s : S3) (q : Bool) (w : World) (hq : Hid (decide (c.e < 0) = q)) : Calls Try.prog 29 #[.agg (cc c s)] w (Drew (.bool q) w) := by
  have HA := hide (Bx.new w (cc c s) 39)
  have c7 := HA.out.c7
  have t0 := hq.out
  go_enter Try.func29, Try.ntmps29
  go_wp2
  go_ret
  exact ⟨rfl, (Below.refl _ _).alloc (Nat.le_refl _) _⟩

set_option maxHeartbeats 1000000 in
theorem before16 (a b : Cl) (s s' : S3) (q : Bool) (w : World) (hq : Hid (q = true ↔ 0 ≤ a.e ∧ a.e < b.f)) : Calls Try.prog 16 #[.agg (cc a s), .agg (cc b s')] w (Drew (.bool q) w) := by
  obtain ⟨W, hW⟩ : ∃ W, Hid ((w.alloc (.cells (cc a s) 39)).alloc (.cells (cc b s') 39) = W) := ⟨_, rfl⟩
  have BW : Hid (Below w.heap.size w W) := by show Below _ _ _; rw [← hW.out]; exact (((Below.refl _ _).alloc (Nat.le_refl _) _).alloc (by simp) _)
  have HA : Hid (Bx W (w.heap.size) (cc a s) 39) := by
    have h := ((Bx.new w (cc a s) 39).alloc (.cells (cc b s') 39))
    show Bx _ _ _ _
    rw [← hW.out]
    simpa using h
  have HB : Hid (Bx W (w.heap.size + 1) (cc b s') 39) := by
    have h := (Bx.new (w.alloc (.cells (cc a s) 39)) (cc b s') 39)
    show Bx _ _ _ _
    rw [← hW.out]
    simpa using h
  by_cases x : a.e < 0
  · have hres : Hid (q = false) := by show _ = _; cases q; rfl; exact absurd (hq.out.1 rfl).1 (by omega)
    have T1 : Hid (decide (a.e < 0) = true) := by show _ = _; simpa using x
    have t1 : decide (a.e ≥ 0) = false := by simp; omega
    have t1' : decide (0 ≤ a.e) = false := by simp; omega
    clear x hq
    have ar : Lies ((w.alloc (.cells (cc a s) 39)).alloc (.cells (cc b s') 39)) w.heap.size 0 (cc a s) := by rw [hW.out]; exact HA.out.lies
    go_enter Try.func16, Try.ntmps16
    go_wp2_with ((with_reducible refine ld39 (.tmp 2) w.heap.size 0 ?_ ?_ a s ?_ ?_); (exact rfl); (exact rfl); (exact ar))
    have hW' := hW.out
    rw [hW']
    clear hW hW'
    clear ar
    refine (pending_any a s true _ T1).mono ?_
    rintro e u1 ⟨rfl, hb⟩
    have HA := hide (HA.out.step hb)
    have HB := hide (HB.out.step hb)
    have BW := hide (BW.out.trans (hb.mono BW.out.size))
    clear hb
    have a7 := HA.out.c7
    have b6 := HB.out.c6
    go_wp2
    go_ret
    exact ⟨by rw [hres.out]; rfl, BW.out⟩
  by_cases y : a.e < b.f
  · have hres : Hid (q = true) := hq.out.2 ⟨by omega, y⟩
    have T1 : Hid (decide (a.e < 0) = false) := by show _ = _; simpa using x
    have t1 : decide (a.e ≥ 0) = true := by simp; omega
    have t1' : decide (0 ≤ a.e) = true := by simp; omega
    have t2 : decide (a.e < b.f) = true := by simpa using y
    clear x y hq
    have ar : Lies ((w.alloc (.cells (cc a s) 39)).alloc (.cells (cc b s') 39)) w.heap.size 0 (cc a s) := by rw [hW.out]; exact HA.out.lies
    go_enter Try.func16, Try.ntmps16
    go_wp2_with ((with_reducible refine ld39 (.tmp 2) w.heap.size 0 ?_ ?_ a s ?_ ?_); (exact rfl); (exact rfl); (exact ar))
    have hW' := hW.out
    rw [hW']
    clear hW hW'
    clear ar
    refine (pending_any a s false _ T1).mono ?_
    rintro e u1 ⟨rfl, hb⟩
    have HA := hide (HA.out.step hb)
    have HB := hide (HB.out.step hb)
    have BW := hide (BW.out.trans (hb.mono BW.out.size))
    clear hb
    have a7 := HA.out.c7
    have b6 := HB.out.c6
    go_wp2
    go_ret
    exact ⟨by rw [hres.out]; rfl, BW.out⟩
  · have hres : Hid (q = false) := by show _ = _; cases q; rfl; exact absurd (hq.out.1 rfl).2 (by omega)
    have T1 : Hid (decide (a.e < 0) = false) := by show _ = _; simpa using x
    have t1 : decide (a.e ≥ 0) = true := by simp; omega
    have t1' : decide (0 ≤ a.e) = true := by simp; omega
    have t2 : decide (a.e < b.f) = false := by simpa using y
    clear x y hq
    have ar : Lies ((w.alloc (.cells (cc a s) 39)).alloc (.cells (cc b s') 39)) w.heap.size 0 (cc a s) := by rw [hW.out]; exact HA.out.lies
    go_enter Try.func16, Try.ntmps16
    go_wp2_with ((with_reducible refine ld39 (.tmp 2) w.heap.size 0 ?_ ?_ a s ?_ ?_); (exact rfl); (exact rfl); (exact ar))
    have hW' := hW.out
    rw [hW']
    clear hW hW'
    clear ar
    refine (pending_any a s false _ T1).mono ?_
    rintro e u1 ⟨rfl, hb⟩
    have HA := hide (HA.out.step hb)
    have HB := hide (HB.out.step hb)
    have BW := hide (BW.out.trans (hb.mono BW.out.size))
    clear hb
    have a7 := HA.out.c7
    have b6 := HB.out.c6
    go_wp2
    go_ret
    exact ⟨by rw [hres.out]; rfl, BW.out⟩

set_option maxHeartbeats 1000000 in
theorem before17 (a b : Cl) (s s' : S3) (q : Bool) (w : World) (hq : Hid (q = true ↔ 0 ≤ a.e ∧ a.e < b.f)) : Calls Try.prog 17 #[.agg (cc a s), .agg (cc b s')] w (Drew (.bool q) w) := by
  obtain ⟨W, hW⟩ : ∃ W, Hid ((w.alloc (.cells (cc a s) 39)).alloc (.cells (cc b s') 39) = W) := ⟨_, rfl⟩
  have BW : Hid (Below w.heap.size w W) := by show Below _ _ _; rw [← hW.out]; exact (((Below.refl _ _).alloc (Nat.le_refl _) _).alloc (by simp) _)
  have HA : Hid (Bx W (w.heap.size) (cc a s) 39) := by
    have h := ((Bx.new w (cc a s) 39).alloc (.cells (cc b s') 39))
    show Bx _ _ _ _
    rw [← hW.out]
    simpa using h
  have HB : Hid (Bx W (w.heap.size + 1) (cc b s') 39) := by
    have h := (Bx.new (w.alloc (.cells (cc a s) 39)) (cc b s') 39)
    show Bx _ _ _ _
    rw [← hW.out]
    simpa using h
  by_cases x : a.e < 0
  · have hres : Hid (q = false) := by show _ = _; cases q; rfl; exact absurd (hq.out.1 rfl).1 (by omega)
    have T1 : Hid (decide (a.e < 0) = true) := by show _ = _; simpa using x
    have t1 : decide (a.e ≥ 0) = false := by simp; omega
    have t1' : decide (0 ≤ a.e) = false := by simp; omega
    clear x hq
    have a7 : ((w.alloc (.cells (cc a s) 39)).alloc (.cells (cc b s') 39)).cell? ⟨w.heap.size, 7, none⟩ = some (.int .i64 a.e) := by rw [hW.out]; exact HA.out.c7
    have b6 : ((w.alloc (.cells (cc a s) 39)).alloc (.cells (cc b s') 39)).cell? ⟨w.heap.size + 1, 6, none⟩ = some (.int .i64 b.f) := by rw [hW.out]; exact HB.out.c6
    go_enter Try.func17, Try.ntmps17
    go_wp2
    go_ret
    exact ⟨by rw [hres.out]; rfl, by rw [hW.out]; exact BW.out⟩
  by_cases y : a.e < b.f
  · have hres : Hid (q = true) := hq.out.2 ⟨by omega, y⟩
    have T1 : Hid (decide (a.e < 0) = false) := by show _ = _; simpa using x
    have t1 : decide (a.e ≥ 0) = true := by simp; omega
    have t1' : decide (0 ≤ a.e) = true := by simp; omega
    have t2 : decide (a.e < b.f) = true := by simpa using y
    clear x y hq
    have a7 : ((w.alloc (.cells (cc a s) 39)).alloc (.cells (cc b s') 39)).cell? ⟨w.heap.size, 7, none⟩ = some (.int .i64 a.e) := by rw [hW.out]; exact HA.out.c7
    have b6 : ((w.alloc (.cells (cc a s) 39)).alloc (.cells (cc b s') 39)).cell? ⟨w.heap.size + 1, 6, none⟩ = some (.int .i64 b.f) := by rw [hW.out]; exact HB.out.c6
    go_enter Try.func17, Try.ntmps17
    go_wp2
    go_ret
    exact ⟨by rw [hres.out]; rfl, by rw [hW.out]; exact BW.out⟩
  · have hres : Hid (q = false) := by show _ = _; cases q; rfl; exact absurd (hq.out.1 rfl).2 (by omega)
    have T1 : Hid (decide (a.e < 0) = false) := by show _ = _; simpa using x
    have t1 : decide (a.e ≥ 0) = true := by simp; omega
    have t1' : decide (0 ≤ a.e) = true := by simp; omega
    have t2 : decide (a.e < b.f) = false := by simpa using y
    clear x y hq
    have a7 : ((w.alloc (.cells (cc a s) 39)).alloc (.cells (cc b s') 39)).cell? ⟨w.heap.size, 7, none⟩ = some (.int .i64 a.e) := by rw [hW.out]; exact HA.out.c7
    have b6 : ((w.alloc (.cells (cc a s) 39)).alloc (.cells (cc b s') 39)).cell? ⟨w.heap.size + 1, 6, none⟩ = some (.int .i64 b.f) := by rw [hW.out]; exact HB.out.c6
    go_enter Try.func17, Try.ntmps17
    go_wp2
    go_ret
    exact ⟨by rw [hres.out]; rfl, by rw [hW.out]; exact BW.out⟩

set_option maxHeartbeats 1000000 in
theorem mayEnd_any (x : Ev) (c : Cl) (s s' : S3) (q : Bool) (w : World) (hq : Hid (q = true ↔ x.d = true ∧ x.o = c.o)) : Calls Try.prog 24 #[.agg (ec x s), .agg (cc c s')] w (Drew (.bool q) w) := by
  obtain ⟨W, hW⟩ : ∃ W, Hid ((w.alloc (.cells (ec x s) 45)).alloc (.cells (cc c s') 39) = W) := ⟨_, rfl⟩
  have BW : Hid (Below w.heap.size w W) := by show Below _ _ _; rw [← hW.out]; exact (((Below.refl _ _).alloc (Nat.le_refl _) _).alloc (by simp) _)
  have HA : Hid (Bx W (w.heap.size) (ec x s) 45) := by
    have h := ((Bx.new w (ec x s) 45).alloc (.cells (cc c s') 39))
    show Bx _ _ _ _
    rw [← hW.out]
    simpa using h
  have HB : Hid (Bx W (w.heap.size + 1) (cc c s') 39) := by
    have h := (Bx.new (w.alloc (.cells (ec x s) 45)) (cc c s') 39)
    show Bx _ _ _ _
    rw [← hW.out]
    simpa using h
  rcases Bool.eq_false_or_eq_true x.d with y | y
  · by_cases z : x.o = c.o
    · have hres : Hid (q = true) := hq.out.2 ⟨y, z⟩
      have hd : Hid (x.d = true) := y
      have t2 : ∀ u : World, (Op.equalIn 10000 33 (.agg (oc x.o)) (.agg (oc c.o))).run Try.prog u = .ok true u := fun u => by rw [eq33]; simp [z]
      clear y z hq
      have a1 : ((w.alloc (.cells (ec x s) 45)).alloc (.cells (cc c s') 39)).cell? ⟨w.heap.size, 1, none⟩ = some (.bool true) := by rw [hW.out]; rw [← hd.out]; exact HA.out.e1
      have ao : Lies ((w.alloc (.cells (ec x s) 45)).alloc (.cells (cc c s') 39)) w.heap.size 2 (oc x.o) := by rw [hW.out]; exact HA.out.eo
      have bo : Lies ((w.alloc (.cells (ec x s) 45)).alloc (.cells (cc c s') 39)) (w.heap.size + 1) 1 (oc c.o) := by rw [hW.out]; exact HB.out.co
      go_enter Try.func24, Try.ntmps24
      go_wp2_with (first | ((with_reducible refine ld33 (.tmp 8) w.heap.size 2 ?_ ?_ x.o ?_ ?_); (exact rfl); (exact rfl); (exact ao)) | ((with_reducible refine ld33 (.tmp 10) (w.heap.size + 1) 1 ?_ ?_ c.o ?_ ?_); (exact rfl); (exact rfl); (exact bo)))
      go_ret
      exact ⟨by rw [hres.out]; rfl, by rw [hW.out]; exact BW.out⟩
    · have hres : Hid (q = false) := by show _ = _; cases q; rfl; exact absurd (hq.out.1 rfl).2 z
      have hd : Hid (x.d = true) := y
      have t2 : ∀ u : World, (Op.equalIn 10000 33 (.agg (oc x.o)) (.agg (oc c.o))).run Try.prog u = .ok false u := fun u => by rw [eq33]; simp [z]
      clear y z hq
      have a1 : ((w.alloc (.cells (ec x s) 45)).alloc (.cells (cc c s') 39)).cell? ⟨w.heap.size, 1, none⟩ = some (.bool true) := by rw [hW.out]; rw [← hd.out]; exact HA.out.e1
      have ao : Lies ((w.alloc (.cells (ec x s) 45)).alloc (.cells (cc c s') 39)) w.heap.size 2 (oc x.o) := by rw [hW.out]; exact HA.out.eo
      have bo : Lies ((w.alloc (.cells (ec x s) 45)).alloc (.cells (cc c s') 39)) (w.heap.size + 1) 1 (oc c.o) := by rw [hW.out]; exact HB.out.co
      go_enter Try.func24, Try.ntmps24
      go_wp2_with (first | ((with_reducible refine ld33 (.tmp 8) w.heap.size 2 ?_ ?_ x.o ?_ ?_); (exact rfl); (exact rfl); (exact ao)) | ((with_reducible refine ld33 (.tmp 10) (w.heap.size + 1) 1 ?_ ?_ c.o ?_ ?_); (exact rfl); (exact rfl); (exact bo)))
      go_ret
      exact ⟨by rw [hres.out]; rfl, by rw [hW.out]; exact BW.out⟩
  · have hres : Hid (q = false) := by show _ = _; cases q; rfl; exact absurd (hq.out.1 rfl).1 (by rw [y]; simp)
    have hd : Hid (x.d = false) := y
    clear y hq
    have a1 : ((w.alloc (.cells (ec x s) 45)).alloc (.cells (cc c s') 39)).cell? ⟨w.heap.size, 1, none⟩ = some (.bool false) := by rw [hW.out]; rw [← hd.out]; exact HA.out.e1
    go_enter Try.func24, Try.ntmps24
    go_wp2
    go_ret
    exact ⟨by rw [hres.out]; rfl, by rw [hW.out]; exact BW.out⟩

set_option maxHeartbeats 1000000 in
theorem mayBegin_any (x : Ev) (s : S3) (q : Bool) (w : World) (P : RSee w w.heap.size s x.r) (F : FewR x.r) (hq : Hid (q = true ↔ 0 ≤ x.t ∧ x.t < 64 ∧ x.d = false ∧ x.r = noR)) : Calls Try.prog 23 #[.agg (ec x s)] w (Drew (.bool q) w) := by
  obtain ⟨W, hW⟩ : ∃ W, Hid (w.alloc (.cells (ec x s) 45) = W) := ⟨_, rfl⟩
  have BW : Hid (Below w.heap.size w W) := by show Below _ _ _; rw [← hW.out]; exact ((Below.refl _ _).alloc (Nat.le_refl _) _)
  have HA : Hid (Bx W (w.heap.size) (ec x s) 45) := by
    have h := (Bx.new w (ec x s) 45)
    show Bx _ _ _ _
    rw [← hW.out]
    simpa using h
  by_cases y : 0 ≤ x.t
  case neg =>
    have hres : Hid (q = false) := by show _ = _; cases q; rfl; exact absurd (hq.out.1 rfl).1 y
    have t0 : decide (x.t ≥ 0) = false := by simpa using y
    have t0' : decide (0 ≤ x.t) = false := by simpa using y
    clear y hq P F
    have a0 : (w.alloc (.cells (ec x s) 45)).cell? ⟨w.heap.size, 0, none⟩ = some (.int .i64 x.t) := by rw [hW.out]; exact HA.out.e0
    go_enter Try.func23, Try.ntmps23
    go_wp2
    go_ret
    exact ⟨by rw [hres.out]; rfl, by rw [hW.out]; exact BW.out⟩
  have t0 : decide (x.t ≥ 0) = true := by simpa using y
  have t0' : decide (0 ≤ x.t) = true := by simpa using y
  by_cases y2 : x.t < 64
  case neg =>
    have hres : Hid (q = false) := by show _ = _; cases q; rfl; exact absurd (hq.out.1 rfl).2.1 y2
    have t1 : decide (x.t < 64) = false := by simpa using y2
    clear y y2 hq P F
    have a0 : (w.alloc (.cells (ec x s) 45)).cell? ⟨w.heap.size, 0, none⟩ = some (.int .i64 x.t) := by rw [hW.out]; exact HA.out.e0
    go_enter Try.func23, Try.ntmps23
    go_wp2
    go_ret
    exact ⟨by rw [hres.out]; rfl, by rw [hW.out]; exact BW.out⟩
  have t1 : decide (x.t < 64) = true := by simpa using y2
  rcases Bool.eq_false_or_eq_true x.d with y3 | y3
  · have hres : Hid (q = false) := by show _ = _; cases q; rfl; exact absurd (hq.out.1 rfl).2.2.1 (by rw [y3]; simp)
    have hd : Hid (x.d = true) := y3
    clear y y2 y3 hq P F
    have a0 : (w.alloc (.cells (ec x s) 45)).cell? ⟨w.heap.size, 0, none⟩ = some (.int .i64 x.t) := by rw [hW.out]; exact HA.out.e0
    have a1 : (w.alloc (.cells (ec x s) 45)).cell? ⟨w.heap.size, 1, none⟩ = some (.bool true) := by rw [hW.out]; rw [← hd.out]; exact HA.out.e1
    go_enter Try.func23, Try.ntmps23
    go_wp2
    go_ret
    exact ⟨by rw [hres.out]; rfl, by rw [hW.out]; exact BW.out⟩
  · have hd : Hid (x.d = false) := y3
    have hqr : Hid (q = true ↔ x.r = noR) := hq.out.trans ⟨fun h => h.2.2.2, fun h => ⟨y, y2, y3, h⟩⟩
    clear y y2 y3 hq
    have a0 : (w.alloc (.cells (ec x s) 45)).cell? ⟨w.heap.size, 0, none⟩ = some (.int .i64 x.t) := by rw [hW.out]; exact HA.out.e0
    have a1 : (w.alloc (.cells (ec x s) 45)).cell? ⟨w.heap.size, 1, none⟩ = some (.bool false) := by rw [hW.out]; rw [← hd.out]; exact HA.out.e1
    go_enter Try.func23, Try.ntmps23
    have ar : Lies (w.alloc (.cells (ec x s) 45)) w.heap.size 7 (rc x.r s) := by rw [hW.out]; exact HA.out.er
    go_wp2_with ((with_reducible refine ld37 (.tmp 17) w.heap.size 7 ?_ ?_ x.r s ?_ ?_); (exact rfl); (exact rfl); (exact ar))
    have hW' := hW.out
    rw [hW']
    clear hW hW'
    clear ar
    refine (same30 x.r noR s noS3 q _ ((P.below BW.out (Nat.le_refl _)).more BW.out.size) (RSee.nil _ _) F.most FewR.nil.most hqr).mono ?_
    rintro e u1 ⟨rfl, hb⟩
    have HA := hide (HA.out.step hb)
    have BW := hide (BW.out.trans (hb.mono BW.out.size))
    clear hb
    go_wp2
    go_ret
    exact ⟨rfl, BW.out⟩

theorem nums_nil {u : World} {B s n : Nat} {A : Option Addr} {zs : List Int} (h : Nums u B s A n zs) : A = none → n = 0 := fun e => by
  rcases Nat.eq_zero_or_pos n with h0 | h0
  · exact h0
  · obtain ⟨b, off, e', _⟩ := h.2 h0
    rw [e] at e'
    cases e'
theorem info56 : (Try.prog.info? 56).map (fun i => (i.zero, i.size, i.bytes)) = some (some (.agg #[.int .i64 0, .int .i64 0]), 2, 16) := by kernel_rfl
theorem info59 : (Try.prog.info? 59).map (fun i => (i.zero, i.size, i.bytes)) = some (some (.agg #[.int .i64 0, .int .i64 0]), 2, 16) := by kernel_rfl
set_option maxRecDepth 100000 in
set_option maxHeartbeats 2000000 in
theorem cloneP_any (A : Option Addr) (n c : Nat) (L : List Pr) (w : World) (hN : Nums w w.heap.size 2 A n (flat2 L)) (hA : A = none → c = 0) (hn : n ≤ 1000) :
    Calls Try.prog 33 #[.slice A n c] w (Told w 56 2 (flat2 L)) := by
  obtain ⟨i0, hi0, hz0, hz1, hz2⟩ := info_parts info56
  have H1 := hide hi0
  have H2 := hide hz0
  have H3 := hide hz1
  have H4 := hide hz2
  clear hi0 hz0 hz1 hz2
  have HN := hide hN
  clear hN
  have q0 : ∀ (w : World) (a : Option Addr) (n c n' c' : Nat), (binOp .eql 34 (.slice a n c) (.slice none n' c')).run Try.prog w = .ok (.bool a.isNone) w := fun w a n c n' c' => Lib.run_eql_slice_nil w _ _ a n c n' c' Try.underlying34
  rcases A with _ | ad
  · obtain rfl := nums_nil HN.out rfl
    obtain rfl := hA rfl
    have h0 : flat2 L = [] := by have := HN.out.1; simpa using this
    go_enter Try.func33, Try.ntmps33
    go_wp2
    go_ret
    refine ⟨none, 0, 0, rfl, fun _ => rfl, ?_, Below.refl _ _⟩
    exact World.ownsRow_nil _ _ _ _
  · have HC := hide HN.out.cells
    go_enter Try.func33, Try.ntmps33
    go_wp2_with (at_builtin; refine wpList_append_own _ rfl _ _ 34 rfl w.heap.size 56 i0 (.agg #[.int .i64 0, .int .i64 0]) 2 16 Try.underlying34 H1.out H2.out H3.out H4.out rfl (by decide) _ _ _ rfl (World.ownsRow_made w #[] 0 (Nat.le_refl _) (Nat.zero_le _) (by simp)) ad n c (ints (flat2 L)) rfl (by simpa using HN.out.1) (fun j u hj => Lib.cell?_alloc_some _ (HC.out j u hj)) (ints_oneCell _ _) (by simp only [maxLen]; omega) (by omega) (by simp) ?_)
    intro v' w1 hown hgrow _
    have HB := hide (((Below.refl _ w).alloc (Nat.le_refl _) _).grown hgrow (by simp) (by intro k hk; simp [Value.ownBlock] at hk; omega))
    obtain ⟨A2, c2, rfl, hA2⟩ := own_form hown
    have HO := hide hown
    clear hown hgrow
    go_wp2
    go_ret
    exact ⟨A2, _, c2, rfl, hA2, by simpa using HO.out, HB.out⟩

set_option maxRecDepth 100000 in
set_option maxHeartbeats 2000000 in
theorem cloneE_any (A : Option Addr) (n c : Nat) (L : List Pr) (w : World) (hN : Nums w w.heap.size 2 A n (flat2 L)) (hA : A = none → c = 0) (hn : n ≤ 1000) :
    Calls Try.prog 34 #[.slice A n c] w (Told w 59 2 (flat2 L)) := by
  obtain ⟨i0, hi0, hz0, hz1, hz2⟩ := info_parts info59
  have H1 := hide hi0
  have H2 := hide hz0
  have H3 := hide hz1
  have H4 := hide hz2
  clear hi0 hz0 hz1 hz2
  have HN := hide hN
  clear hN
  have q0 : ∀ (w : World) (a : Option Addr) (n c n' c' : Nat), (binOp .eql 35 (.slice a n c) (.slice none n' c')).run Try.prog w = .ok (.bool a.isNone) w := fun w a n c n' c' => Lib.run_eql_slice_nil w _ _ a n c n' c' Try.underlying35
  rcases A with _ | ad
  · obtain rfl := nums_nil HN.out rfl
    obtain rfl := hA rfl
    have h0 : flat2 L = [] := by have := HN.out.1; simpa using this
    go_enter Try.func34, Try.ntmps34
    go_wp2
    go_ret
    refine ⟨none, 0, 0, rfl, fun _ => rfl, ?_, Below.refl _ _⟩
    exact World.ownsRow_nil _ _ _ _
  · have HC := hide HN.out.cells
    go_enter Try.func34, Try.ntmps34
    go_wp2_with (at_builtin; refine wpList_append_own _ rfl _ _ 35 rfl w.heap.size 59 i0 (.agg #[.int .i64 0, .int .i64 0]) 2 16 Try.underlying35 H1.out H2.out H3.out H4.out rfl (by decide) _ _ _ rfl (World.ownsRow_made w #[] 0 (Nat.le_refl _) (Nat.zero_le _) (by simp)) ad n c (ints (flat2 L)) rfl (by simpa using HN.out.1) (fun j u hj => Lib.cell?_alloc_some _ (HC.out j u hj)) (ints_oneCell _ _) (by simp only [maxLen]; omega) (by omega) (by simp) ?_)
    intro v' w1 hown hgrow _
    have HB := hide (((Below.refl _ w).alloc (Nat.le_refl _) _).grown hgrow (by simp) (by intro k hk; simp [Value.ownBlock] at hk; omega))
    obtain ⟨A2, c2, rfl, hA2⟩ := own_form hown
    have HO := hide hown
    clear hown hgrow
    go_wp2
    go_ret
    exact ⟨A2, _, c2, rfl, hA2, by simpa using HO.out, HB.out⟩


end Go.Proofs.Ytfefkdedgceomaa
