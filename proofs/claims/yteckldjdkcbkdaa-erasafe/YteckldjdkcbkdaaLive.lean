/- An era that stands in a box; the chapter's example is live. -/
import Derived.Test.YteckldjdkcbkdaaWalksF
import Derived.Test.YteckldjdkcbkdaaWalksG
namespace Go.Proofs.Yteckldjdkcbkdaa
open Go.RowKit
set_option linter.unusedVariables false

/-- In world u block h is the box of an era, which reads as zs; what lay below w's end is as it was. -/
structure Stand (w u : World) (h : Nat) (t : Int) (A : Option Addr) (n c : Nat) (zs : List Int) : Prop where
  bel : Below w.heap.size w u
  ge : w.heap.size ≤ h
  box : EBox u h (C2 t A n c)
  reads : Reads u u.heap.size A n c zs
section
variable {w u u' : World} {h n c n' c' B : Nat} {t t' : Int} {A A' : Option Addr} {zs zs' : List Int}
theorem Stand.first (b : Below w.heap.size w u) (r : Row u B A n c zs) (t : Int) : Stand w (u.alloc (.cells (C2 t A n c) 24)) u.heap.size t A n c zs :=
  ⟨b.alloc b.size _, b.size, EBox.new u _, (r.alloc _).reads⟩
theorem Stand.next (s : Stand w u h t A n c zs) (r : Row u' u.heap.size A' n' c' zs') (b : Below u.heap.size u u') (t' : Int) :
    Stand w ((u'.setCell ⟨h, 0, none⟩ (.int .i64 t')).setCell ⟨h, 1, none⟩ (.slice A' n' c')) h t' A' n' c' zs' :=
  ⟨set2_below (next_call s.bel (Nat.le_refl _) b) s.ge _ _, s.ge, set2_box (s.box.step b) _ _, (set2_row r (s.box.step b) _ _).reads⟩
theorem Stand.step (s : Stand w u h t A n c zs) (b : Below u.heap.size u u') : Stand w u' h t A n c zs := ⟨next_call s.bel (Nat.le_refl _) b, s.ge, s.box.step b, s.reads.step b⟩
theorem Stand.alloc (s : Stand w u h t A n c zs) (o : Obj) : Stand w (u.alloc o) h t A n c zs := s.step ((Below.refl _ _).alloc (Nat.le_refl _) _)
/-- One that came in, behind its box. -/
theorem stand_in (t : Int) (r : Reads w w.heap.size A n c zs) : Stand w (w.alloc (.cells (C2 t A n c) 24)) w.heap.size t A n c zs :=
  ⟨(Below.refl _ _).alloc (Nat.le_refl _) _, Nat.le_refl _, EBox.new w _, r.step ((Below.refl _ _).alloc (Nat.le_refl _) _)⟩
theorem yes_of {p : Prop} (h : p) : Hid (true = true ↔ p) := ⟨fun _ => h, fun _ => rfl⟩
theorem no_of {p : Prop} (h : ¬ p) : Hid (false = true ↔ p) := ⟨(fun h => by cases h), fun hp => absurd hp h⟩
theorem bool_of (p : Prop) [Decidable p] : ∃ b : Bool, Hid (b = true ↔ p) := ⟨decide p, by show _ ↔ _; simp⟩
end

theorem ok0 : Ok 0 [-1, -1] := by decide
theorem ok1 : Ok 0 [-1, 0] := by decide
theorem ok2 : Ok 1 [-1, 0] := by decide
theorem in1 : Step 0 [-1, 0] := by decide
theorem out2 : ¬ Step 1 [-1, 0] := by decide

section
variable (A : Option Addr) (n c B : Nat) (w : World)
theorem live_new : Calls Try.prog 10 #[.int .i64 2] w (Tell2 w 0 [-1, -1] (.int .i64 0)) := new_ok 2 w (by omega) (by omega)
theorem live_pin (hr : Reads w B A n c [-1, -1]) (hB : B ≤ w.heap.size) : Calls Try.prog 18 #[V2 0 A n c, .int .i64 1] w (Tell2 w 0 [-1, 0] (.int .i64 0)) := by
  have h := pin_any 0 A n c B [-1, -1] true 1 w hr hB (yes_of ok0)
  have e : pinE true [-1, -1] 1 = 0 := by decide
  rw [show pinT true 0 [-1, -1] 1 = 0 by decide, show pinZ true 0 [-1, -1] 1 = [-1, 0] by decide, e] at h
  exact h
theorem live_turn (hr : Reads w B A n c [-1, 0]) (hB : B ≤ w.heap.size) : Calls Try.prog 22 #[V2 0 A n c] w (Tell2 w 1 [-1, 0] (.bool true)) := by
  have h := turn_any 0 A n c B [-1, 0] true true w hr hB (yes_of ok1) (yes_of in1)
  rw [show turnT true true 0 = 1 by decide, show turnZ true [-1, 0] = [-1, 0] by decide, show turnB true true 0 = true by decide] at h
  exact h
theorem live_stuck (hr : Reads w B A n c [-1, 0]) (hB : B ≤ w.heap.size) : Calls Try.prog 22 #[V2 1 A n c] w (Tell2 w 1 [-1, 0] (.bool false)) := by
  have h := turn_any 1 A n c B [-1, 0] true false w hr hB (yes_of ok2) (no_of out2)
  rw [show turnT true false 1 = 1 by decide, show turnZ true [-1, 0] = [-1, 0] by decide, show turnB true false 1 = false by decide] at h
  exact h
end

set_option maxHeartbeats 2000000 in
theorem live_yes (w : World) : Calls Try.prog 9 #[] w (Drew (.bool true) w) := by
  go_enter Try.func9, Try.ntmps9
  go_wp2_with fail
  refine (live_new w).mono ?_
  rintro e u1 ⟨A1, n1, c1, rfl, r1, b1⟩
  have S1 := hide (Stand.first b1 r1 0)
  obtain ⟨h, hh⟩ : ∃ h, Hid (u1.heap.size = h) := ⟨_, rfl⟩
  clear r1 b1
  go_wp2_with fail
  refine (live_pin A1 n1 c1 _ _ S1.out.reads (Nat.le_refl _)).mono ?_
  rintro e u2 ⟨A2, n2, c2, rfl, r2, b2⟩
  have S2 := hide (S1.out.next r2 b2 0)
  have X2 := hide (S1.out.box.step b2)
  clear r2 b2 S1
  rw [hh.out] at S2 X2 ⊢
  have hc := X2.out.cells
  have hf := X2.out.frozen
  have hl := X2.out.lt
  go_wp2_with fail
  refine (live_turn A2 n2 c2 _ _ S2.out.reads (Nat.le_refl _)).mono ?_
  rintro e u3 ⟨A3, n3, c3, rfl, r3, b3⟩
  have S3 := hide (S2.out.next r3 b3 1)
  have X3 := hide (S2.out.box.step b3)
  clear r3 b3 S2 hc hf hl
  have hc := X3.out.cells
  have hf := X3.out.frozen
  have hl := X3.out.lt
  go_wp2_with fail
  refine (live_stuck A3 n3 c3 _ _ S3.out.reads (Nat.le_refl _)).mono ?_
  rintro e u4 ⟨A4, n4, c4, rfl, r4, b4⟩
  have B4 := hide (next_call S3.out.bel (Nat.le_refl _) b4)
  clear r4 b4 S3 hc hf hl
  go_wp2
  go_ret
  exact ⟨rfl, B4.out.alloc B4.out.size _⟩
end Go.Proofs.Yteckldjdkcbkdaa
