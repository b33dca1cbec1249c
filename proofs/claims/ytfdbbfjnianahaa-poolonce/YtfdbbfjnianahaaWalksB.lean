/- What slices.Clone, slices.Index and slices.Contains tell, and the document's Copy and Same, of numbers; Few. -/
import Derived.Test.YtfdbbfjnianahaaPools
import Derived.Deep.QuietTactic
import Derived.BigQuiet
import Derived.Lib.SliceRun
namespace Go.Proofs.Ytfdbbfjnianahaa
open Go.RowKit
set_option linter.unusedVariables false

theorem Try.info3 : (Try.prog.info? 3).map (fun i => (i.zero, i.size, i.bytes)) = some (some (.int .i64 0), 1, 8) := by kernel_rfl

/-- A told slice of numbers. -/
def Tell (w : World) (n : Nat) (zs : List Int) (e : Ending) (w' : World) : Prop :=
  ∃ A c, e = .returned (.slice A n c) ∧ (A = none → c = 0) ∧ w'.ownsRow w.heap.size 3 1 (.slice A n c) n (ints zs) ∧ Below w.heap.size w w'

theorem own_len {u : World} {B e s n m : Nat} {A : Option Addr} {c : Nat} {xs : List Value} (h : u.ownsRow B e s (.slice A n c) m xs) : n = m := by
  rcases h.2 with ⟨h1, h2⟩ | ⟨g, cap, cur, h1, _⟩
  · simp at h1; omega
  · simp at h1; omega

set_option maxHeartbeats 400000 in
theorem rcopy_any (A : Option Addr) (n c B : Nat) (zs : List Int) (w : World) (h : Nums w B 1 A n zs) (hA : Hid (A = none → c = 0)) (hn : n ≤ 200) :
    Calls Try.prog 29 #[.slice A n c] w (Tell w n zs) := by
  obtain ⟨i0, hi0, hz0, hz1, hz2⟩ := info_parts Try.info3
  have H1 := hide hi0
  have H2 := hide hz0
  have H3 := hide hz1
  have H4 := hide hz2
  clear hi0 hz0 hz1 hz2
  have HN := hide h
  clear h
  go_enter Try.func29, Try.ntmps29
  go_wp2_with (at_builtin; refine wpList_append_nums _ rfl _ _ 22 rfl w.heap.size 3 i0 (.int .i64 0) 1 8 Try.underlying22 H1.out H2.out H3.out H4.out rfl (by decide) (.slice none 0 0) 0 [] rfl (World.ownsRow_nil _ _ _ _) A n c B zs rfl hA.out HN.out (by simp only [maxLen]; omega) (by omega) (Nat.le_refl _) ?_; intro v1 w1 hown hb; obtain ⟨A1, c1, rfl, hA1⟩ := own_form hown; have HO := hide hown; clear hown; have HZ := hide hA1; clear hA1)
  go_ret
  have ho := HO.out
  rw [Nat.zero_add, List.nil_append] at ho
  exact ⟨A1, c1, rfl, HZ.out, by simpa using ho, hb⟩

set_option maxHeartbeats 400000 in
theorem clone_any (A : Option Addr) (n c B : Nat) (zs : List Int) (w : World) (h : Nums w B 1 A n zs) (hA : Hid (A = none → c = 0)) (hB : B ≤ w.heap.size) (hn : n ≤ 200) :
    Calls Try.prog 38 #[.slice A n c] w (Tell w n zs) := by
  have q22 : ∀ (w : World) (a : Option Addr) (n c n' c' : Nat), (binOp .eql 22 (.slice a n c) (.slice none n' c')).run Try.prog w = .ok (.bool a.isNone) w := fun w a n c n' c' => Lib.run_eql_slice_nil w _ _ a n c n' c' Try.underlying22
  obtain ⟨i0, hi0, hz0, hz1, hz2⟩ := info_parts Try.info3
  have H1 := hide hi0
  have H2 := hide hz0
  have H3 := hide hz1
  have H4 := hide hz2
  clear hi0 hz0 hz1 hz2
  have HN := hide h
  clear h
  cases A with
  | none =>
    have hn0 : n = 0 := by
      rcases Nat.eq_zero_or_pos n with h0 | h0
      · exact h0
      · obtain ⟨_, _, e, _⟩ := HN.out.2 h0
        cases e
    subst hn0
    have hc0 : c = 0 := hA.out rfl
    subst hc0
    go_enter Try.func38, Try.ntmps38
    go_wp2
    go_ret
    have hz : zs = [] := by have := HN.out.1; simpa using this
    subst hz
    exact ⟨none, 0, rfl, fun _ => rfl, World.ownsRow_nil _ _ _ _, Below.refl _ _⟩
  | some a =>
    have HM := hide (HN.out.below ((Below.refl w.heap.size w).alloc (Nat.le_refl _) (.cells #[] 3)) hB)
    have HW : Hid ((w.alloc (.cells #[] 3)).ownsRow w.heap.size 3 1 (.slice (some ⟨w.heap.size, 0, none⟩) 0 0) 0 (ints [])) := World.ownsRow_lit w #[] 0 (Nat.le_refl _) (by simp [maxLen]) (by simp)
    go_enter Try.func38, Try.ntmps38
    go_wp2_with (at_builtin; refine wpList_append_nums _ rfl _ _ 22 rfl w.heap.size 3 i0 (.int .i64 0) 1 8 Try.underlying22 H1.out H2.out H3.out H4.out rfl (by decide) _ 0 [] rfl HW.out (some a) n c B zs rfl (fun h => by cases h) HM.out (by simp only [maxLen]; omega) (by omega) (by simp) ?_; intro v1 w1 hown hb; obtain ⟨A1, c1, rfl, hA1⟩ := own_form hown; have HO := hide hown; clear hown; have HZ := hide hA1; clear hA1)
    go_ret
    have ho := HO.out
    rw [Nat.zero_add, List.nil_append] at ho
    exact ⟨A1, c1, rfl, HZ.out, by simpa using ho, ((Below.refl _ _).alloc (Nat.le_refl _) _).trans hb⟩

set_option maxHeartbeats 400000 in
theorem same_yes (A A' : Option Addr) (n c c' B B' : Nat) (zs : List Int) (w : World) (h : Nums w B 1 A n zs) (h' : Nums w B' 1 A' n zs) (hn : n ≤ 200) :
    Calls Try.prog 28 #[.slice A n c, .slice A' n c'] w (Drew (.bool true) w) := by
  have h0 : (((n : Nat) : Int) != (n : Int)) = false := by simp
  go_enter Try.func28, Try.ntmps28
  go_wp2
  go_loopw [13] (fun i wr => ∃ k q : Nat, k ≤ n ∧ i = .int .i64 k ∧ wr = w.drewN q) (fun i _ => n - (intOf i).toNat)
  case atStart => exact ⟨0, 0, by omega, rfl, rfl⟩
  case round =>
    obtain ⟨k, q, hk, rfl, rfl⟩ := hrel
    by_cases hlt : k < n
    · obtain ⟨b, off, rfl, _, hc⟩ := h.at_ hlt
      obtain ⟨b', off', rfl, _, hc'⟩ := h'.at_ hlt
      generalize zs.getD k 0 = z at hc hc'
      go_wp2
      go_quiet (fail)
      go_wp2
      go_roundw
      case rel => exact ⟨k + 1, _, by omega, by go_num, rfl⟩
      case measure => simp [intOf]; omega
    · go_wp2
      go_ret
      exact ⟨rfl, Below.drewN (Below.refl _ _) _⟩

/-- Where 0 first stands, from k on. -/
def idx0 : List Int → Nat → Int
  | [], _ => -1
  | x :: xs, k => if x = 0 then (k : Int) else idx0 xs (k + 1)

theorem idx0_next (zs : List Int) (k : Nat) (hk : k < zs.length) : idx0 (zs.drop k) k = if zs.getD k 0 = 0 then (k : Int) else idx0 (zs.drop (k + 1)) (k + 1) := by
  rw [List.drop_eq_getElem_cons hk, idx0]
  simp [List.getD_eq_getElem?_getD, hk]

set_option maxHeartbeats 400000 in
theorem index_any (A : Option Addr) (n c B : Nat) (zs : List Int) (w : World) (h : Nums w B 1 A n zs) (hn : n ≤ 200) :
    Calls Try.prog 40 #[.slice A n c, .int .i64 0] w fun e w' => e = .returned (.int .i64 (idx0 zs 0)) ∧ w = w' := by
  have HL := hide h.1
  go_enter Try.func40, Try.ntmps40
  go_wp2
  go_loopw [8] (fun i wr => ∃ k : Nat, k ≤ n ∧ i = .int .i64 k ∧ wr = w ∧ Hid (idx0 zs 0 = idx0 (zs.drop k) k)) (fun i _ => n - (intOf i).toNat)
  case atStart => exact ⟨0, by omega, rfl, rfl, rfl⟩
  case round =>
    obtain ⟨k, hk, rfl, rfl, HI⟩ := hrel
    by_cases hlt : k < n
    · obtain ⟨b, off, rfl, _, hc⟩ := h.at_ hlt
      have HX := hide (idx0_next zs k (by have := HL.out; omega))
      generalize zs.getD k 0 = z at hc HX
      by_cases hz : z = 0
      · subst hz
        go_wp2
        go_ret
        refine ⟨?_, rfl⟩
        rw [HI.out, HX.out]; simp
      · have hz0 : ((0 : Int) == z) = false := by simp; omega
        have HZ := hide hz
        clear hz
        go_wp2
        go_roundw
        case rel => exact ⟨k + 1, by omega, by go_num, trivial, by show _ = _; rw [HI.out, HX.out, if_neg HZ.out]⟩
        case measure => simp [intOf]; omega
    · go_wp2
      go_ret
      refine ⟨?_, rfl⟩
      rw [HI.out, List.drop_of_length_le (by have := HL.out; omega)]; rfl

theorem idx0_bool (zs : List Int) (k : Nat) : decide (0 ≤ idx0 zs k) = zs.contains 0 := by
  induction zs generalizing k with
  | nil => simp [idx0]
  | cons x xs ih =>
    rw [idx0]
    by_cases hx : x = 0
    · subst hx; simp
    · rw [if_neg hx, ih]; simp; omega

set_option maxHeartbeats 400000 in
theorem contains_any (A : Option Addr) (n c B : Nat) (zs : List Int) (w : World) (h : Nums w B 1 A n zs) (hn : n ≤ 200) :
    Calls Try.prog 39 #[.slice A n c, .int .i64 0] w fun e w' => e = .returned (.bool (zs.contains 0)) ∧ w = w' := by
  have HB := hide (idx0_bool zs 0)
  go_enter Try.func39, Try.ntmps39
  go_wp2_with fail
  refine (index_any _ _ _ _ _ _ h hn).mono ?_
  rintro e w' ⟨rfl, rfl⟩
  generalize idx0 zs 0 = z at HB
  go_wp2
  go_ret
  exact ⟨congrArg (fun b => Ending.returned (Value.bool b)) HB.out, rfl⟩

set_option maxHeartbeats 400000 in
theorem few_yes (A0 A1 A2 A3 : Option Addr) (n0 n1 n2 n3 c0 c1 c2 c3 : Nat) (w : World) (h0 : n0 ≤ 200) (h1 : n1 ≤ 200) (h2 : n2 ≤ 200) (h3 : n3 ≤ 200) :
    Calls Try.prog 10 #[V4 A0 A1 A2 A3 n0 n1 n2 n3 c0 c1 c2 c3] w (Drew (.bool true) w) := by
  have d0 : decide ((n0 : Int) ≤ 200) = true := by simp; omega
  have d1 : decide ((n1 : Int) ≤ 200) = true := by simp; omega
  have d2 : decide ((n2 : Int) ≤ 200) = true := by simp; omega
  have d3 : decide ((n3 : Int) ≤ 200) = true := by simp; omega
  go_enter Try.func10, Try.ntmps10
  go_wp2
  go_ret
  exact ⟨rfl, (Below.refl _ _).alloc (Nat.le_refl _) _⟩

set_option maxHeartbeats 400000 in
theorem few_no (A0 A1 A2 A3 : Option Addr) (n0 n1 n2 n3 c0 c1 c2 c3 : Nat) (w : World) (h : Hid (¬ (n0 ≤ 200 ∧ n1 ≤ 200 ∧ n2 ≤ 200 ∧ n3 ≤ 200))) :
    Calls Try.prog 10 #[V4 A0 A1 A2 A3 n0 n1 n2 n3 c0 c1 c2 c3] w (Drew (.bool false) w) := by
  by_cases h0 : n0 ≤ 200
  · have d0 : decide ((n0 : Int) ≤ 200) = true := by simp; omega
    by_cases h1 : n1 ≤ 200
    · have d1 : decide ((n1 : Int) ≤ 200) = true := by simp; omega
      by_cases h2 : n2 ≤ 200
      · have d2 : decide ((n2 : Int) ≤ 200) = true := by simp; omega
        have d3 : decide ((n3 : Int) ≤ 200) = false := by have := h.out; simp; omega
        clear h0 h1 h2
        go_enter Try.func10, Try.ntmps10
        go_wp2
        go_ret
        exact ⟨rfl, (Below.refl _ _).alloc (Nat.le_refl _) _⟩
      · have d2 : decide ((n2 : Int) ≤ 200) = false := by simp; omega
        clear h0 h1 h2
        go_enter Try.func10, Try.ntmps10
        go_wp2
        go_ret
        exact ⟨rfl, (Below.refl _ _).alloc (Nat.le_refl _) _⟩
    · have d1 : decide ((n1 : Int) ≤ 200) = false := by simp; omega
      clear h0 h1
      go_enter Try.func10, Try.ntmps10
      go_wp2
      go_ret
      exact ⟨rfl, (Below.refl _ _).alloc (Nat.le_refl _) _⟩
  · have d0 : decide ((n0 : Int) ≤ 200) = false := by simp; omega
    clear h0
    go_enter Try.func10, Try.ntmps10
    go_wp2
    go_ret
    exact ⟨rfl, (Below.refl _ _).alloc (Nat.le_refl _) _⟩

end Go.Proofs.Ytfdbbfjnianahaa
