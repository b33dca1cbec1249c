/- What slices.Clone and the document's Copy and Same tell of numbers; mayBe and allInStep, Check and Safe, the code's and the document's, of any era. -/
import Derived.Test.YteckldjdkcbkdaaWalksA
namespace Go.Proofs.Yteckldjdkcbkdaa
open Go.RowKit
set_option linter.unusedVariables false

set_option maxHeartbeats 400000 in
theorem rcopy_any (A : Option Addr) (n c B : Nat) (zs : List Int) (w : World) (h : Reads w B A n c zs) (hn : n ≤ 200) :
    Calls Try.prog 17 #[.slice A n c] w (Tell w zs) := by
  obtain ⟨i0, hi0, hz0, hz1, hz2⟩ := info_parts Try.info3
  have H1 := hide hi0
  have H2 := hide hz0
  have H3 := hide hz1
  have H4 := hide hz2
  clear hi0 hz0 hz1 hz2
  have HN := hide h
  clear h
  go_enter Try.func17, Try.ntmps17
  go_wp2_with (at_builtin; refine wpList_append_nums _ rfl _ _ 22 rfl w.heap.size 3 i0 (.int .i64 0) 1 8 Try.underlying22 H1.out H2.out H3.out H4.out rfl (by decide) (.slice none 0 0) 0 [] rfl (World.ownsRow_nil _ _ _ _) A n c B zs rfl HN.out.2 HN.out.1 (by simp only [maxLen]; omega) (by omega) (Nat.le_refl _) ?_; intro v1 w1 hown hb; obtain ⟨A1, c1, rfl, hA1⟩ := own_form hown; have HO := hide hown; clear hown; have HZ := hide hA1; clear hA1)
  go_ret
  have ho := HO.out
  rw [Nat.zero_add, List.nil_append] at ho
  exact ⟨A1, n, c1, by simp, ⟨ho, HZ.out⟩, hb⟩

set_option maxHeartbeats 400000 in
theorem clone_any (A : Option Addr) (n c B : Nat) (zs : List Int) (w : World) (h : Reads w B A n c zs) (hB : B ≤ w.heap.size) (hn : n ≤ 200) :
    Calls Try.prog 34 #[.slice A n c] w (Tell w zs) := by
  have q22 : ∀ (w : World) (a : Option Addr) (n c n' c' : Nat), (binOp .eql 22 (.slice a n c) (.slice none n' c')).run Try.prog w = .ok (.bool a.isNone) w := fun w a n c n' c' => Lib.run_eql_slice_nil w _ _ a n c n' c' Try.underlying22
  obtain ⟨i0, hi0, hz0, hz1, hz2⟩ := info_parts Try.info3
  have H1 := hide hi0
  have H2 := hide hz0
  have H3 := hide hz1
  have H4 := hide hz2
  clear hi0 hz0 hz1 hz2
  have HN := hide h
  clear h
  cases A with
  | none =>
    have hn0 : n = 0 := by
      rcases Nat.eq_zero_or_pos n with h0 | h0
      · exact h0
      · obtain ⟨_, _, e, _⟩ := HN.out.1.2 h0
        cases e
    subst hn0
    have hc0 : c = 0 := HN.out.2 rfl
    subst hc0
    go_enter Try.func34, Try.ntmps34
    go_wp2
    go_ret
    have hz : zs = [] := by have := HN.out.1.1; simpa using this
    subst hz
    exact ⟨none, 0, 0, rfl, Row.nil _ _, Below.refl _ _⟩
  | some a =>
    have HM := hide (HN.out.below ((Below.refl w.heap.size w).alloc (Nat.le_refl _) (.cells #[] 3)) hB)
    have HW : Hid ((w.alloc (.cells #[] 3)).ownsRow w.heap.size 3 1 (.slice (some ⟨w.heap.size, 0, none⟩) 0 0) 0 (ints [])) := World.ownsRow_lit w #[] 0 (Nat.le_refl _) (by simp [maxLen]) (by simp)
    go_enter Try.func34, Try.ntmps34
    go_wp2_with (at_builtin; refine wpList_append_nums _ rfl _ _ 22 rfl w.heap.size 3 i0 (.int .i64 0) 1 8 Try.underlying22 H1.out H2.out H3.out H4.out rfl (by decide) _ 0 [] rfl HW.out (some a) n c B zs rfl (fun h => by cases h) HM.out.1 (by simp only [maxLen]; omega) (by omega) (by simp) ?_; intro v1 w1 hown hb; obtain ⟨A1, c1, rfl, hA1⟩ := own_form hown; have HO := hide hown; clear hown; have HZ := hide hA1; clear hA1)
    go_ret
    have ho := HO.out
    rw [Nat.zero_add, List.nil_append] at ho
    exact ⟨A1, n, c1, by simp, ⟨ho, HZ.out⟩, ((Below.refl _ _).alloc (Nat.le_refl _) _).trans hb⟩

set_option maxHeartbeats 400000 in
theorem same_yes (A A' : Option Addr) (n c c' B B' : Nat) (zs : List Int) (w : World) (h : Nums w B 1 A n zs) (h' : Nums w B' 1 A' n zs) (hn : n ≤ 200) :
    Calls Try.prog 24 #[.slice A n c, .slice A' n c'] w (Drew (.bool true) w) := by
  have h0 : (((n : Nat) : Int) != (n : Int)) = false := by simp
  go_enter Try.func24, Try.ntmps24
  go_wp2
  go_loopw [13] (fun i wr => ∃ k q : Nat, k ≤ n ∧ i = .int .i64 k ∧ wr = w.drewN q) (fun i _ => n - (intOf i).toNat)
  case atStart => exact ⟨0, 0, by omega, rfl, rfl⟩
  case round =>
    obtain ⟨k, q, hk, rfl, rfl⟩ := hrel
    by_cases hlt : k < n
    · obtain ⟨b, off, rfl, _, hc⟩ := h.at_ hlt
      obtain ⟨b', off', rfl, _, hc'⟩ := h'.at_ hlt
      generalize zs.getD k 0 = z at hc hc'
      go_wp2
      go_quiet (fail)
      go_wp2
      go_roundw
      case rel => exact ⟨k + 1, _, by omega, by go_num, rfl⟩
      case measure => simp [intOf]; omega
    · go_wp2
      go_ret
      exact ⟨rfl, Below.drewN (Below.refl _ _) _⟩

set_option maxHeartbeats 400000 in
theorem samee_yes (t : Int) (A A' : Option Addr) (n n' c c' B B' : Nat) (zs : List Int) (w : World) (h : Reads w B A n c zs) (h' : Reads w B' A' n' c' zs) (hB : B ≤ w.heap.size) (hB' : B' ≤ w.heap.size) (hn : n ≤ 200) :
    Calls Try.prog 12 #[V2 t A n c, V2 t A' n' c'] w (Drew (.bool true) w) := by
  obtain rfl : n = n' := by have h1 := h.len; have h2 := h'.len; omega
  have B0 := hide (((Below.refl w.heap.size w).alloc (Nat.le_refl _) (.cells (C2 t A n c) 24)).alloc (by simp) (.cells (C2 t A' n c') 24))
  have HN := hide (h.1.below B0.out hB)
  have HN' := hide (h'.1.below B0.out hB')
  clear h h'
  go_enter Try.func12, Try.ntmps12
  go_wp2_with fail
  refine (same_yes _ _ _ _ _ _ _ zs _ HN.out HN'.out hn).mono ?_
  rintro e u1 ⟨rfl, b1⟩
  have B1 := hide (next_call B0.out (Nat.le_refl _) b1)
  clear b1
  go_wp2
  go_ret
  exact ⟨rfl, B1.out⟩

theorem not_ok {t : Int} {zs : List Int} {b : Bool} (hb : Hid (b = true ↔ Ok t zs)) (h : ¬ Ok t zs) : b = false := by
  cases b with
  | false => rfl
  | true => exact absurd (hb.out.1 rfl) h
theorem is_ok {t : Int} {zs : List Int} {b : Bool} (hb : Hid (b = true ↔ Ok t zs)) (h : Ok t zs) : b = true := hb.out.2 h

set_option maxHeartbeats 1000000 in
theorem mayBe_any (t : Int) (A : Option Addr) (n c B : Nat) (zs : List Int) (b : Bool) (w : World) (hr : Reads w B A n c zs) (hB : B ≤ w.heap.size) (hb : Hid (b = true ↔ Ok t zs)) :
    Calls Try.prog 26 #[V2 t A n c] w (Drew (.bool b) w) := by
  have hmf : ∀ (fn : Fn) (first cap : Array Value) (w : World), (Instr.makeFunc fn first cap).run Try.prog w = .ok (.func fn first cap) w := fun _ _ _ _ => rfl
  have B0 := hide ((Below.refl w.heap.size w).alloc (Nat.le_refl _) (.cells (C2 t A n c) 24))
  have X0 := hide (EBox.new w (C2 t A n c))
  have HL := hide hr.len
  have HR := hide (hr.below B0.out hB)
  clear hr
  by_cases h1 : t < 0
  · obtain rfl := not_ok hb (by intro h; have := h.1; omega)
    have d1 : decide (t < 0) = true := by simpa using h1
    clear hb
    go_enter Try.func26, Try.ntmps26
    go_wp2
    go_ret
    exact ⟨rfl, B0.out⟩
  have d1 : decide (t < 0) = false := by simpa using h1
  by_cases h2 : 1152921504606846976 < t
  · obtain rfl := not_ok hb (by intro h; have := h.1; omega)
    have d2 : decide ((1152921504606846976 : Int) < t) = true := by simpa using h2
    clear hb
    go_enter Try.func26, Try.ntmps26
    go_wp2
    go_ret
    exact ⟨rfl, B0.out⟩
  have d2 : decide ((1152921504606846976 : Int) < t) = false := by simpa using h2
  by_cases h3 : 1 ≤ n ∧ n ≤ 64
  case neg =>
    obtain rfl := not_ok hb (by intro h; have := h.2.1; have := HL.out; omega)
    clear hb
    go_enter Try.func26, Try.ntmps26
    go_wp2_with fail
    refine (isCount_no _ _ (by omega)).mono ?_
    rintro e w' ⟨rfl, rfl⟩
    go_wp2
    go_ret
    exact ⟨rfl, B0.out⟩
  obtain ⟨h4, h5⟩ := h3
  have HE : Hid ((!zs.any (bad t)) = b) := by
    show _ = _
    have := hb.out
    rw [Bool.eq_iff_iff, any_bad, this]
    exact ⟨fun h => ⟨by omega, by have := HL.out; omega, h⟩, fun h => h.2.2⟩
  have hc0 := X0.out.cells 0
  have HC := hide (show (w.alloc (.cells (C2 t A n c) 24)).cell? ⟨w.heap.size, 0, none⟩ = some (.int .i64 t) from hc0)
  clear hc0 hb
  go_enter Try.func26, Try.ntmps26
  go_wp2_with fail
  refine (isCount_yes _ _ (by omega) (by omega)).mono ?_
  rintro e w' ⟨rfl, rfl⟩
  go_wp2_with fail
  refine (has_bad _ _ _ _ _ _ zs _ HR.out.1 h5 HC (by omega) (by omega)).mono ?_
  rintro e w' ⟨rfl, rfl⟩
  generalize zs.any (bad t) = q at HE
  go_wp2
  go_ret
  exact ⟨congrArg (fun b => Ending.returned (Value.bool b)) HE.out, B0.out⟩

set_option maxHeartbeats 1000000 in
theorem step_any (t : Int) (A : Option Addr) (n c B : Nat) (zs : List Int) (b : Bool) (w : World) (hr : Reads w B A n c zs) (hB : B ≤ w.heap.size) (hn : n ≤ 64) (hb : Hid (b = true ↔ Step t zs)) :
    Calls Try.prog 31 #[V2 t A n c] w (Drew (.bool b) w) := by
  have hmf : ∀ (fn : Fn) (first cap : Array Value) (w : World), (Instr.makeFunc fn first cap).run Try.prog w = .ok (.func fn first cap) w := fun _ _ _ _ => rfl
  have B0 := hide ((Below.refl w.heap.size w).alloc (Nat.le_refl _) (.cells (C2 t A n c) 24))
  have X0 := hide (EBox.new w (C2 t A n c))
  have HR := hide (hr.below B0.out hB)
  have HE : Hid ((!zs.any (out t)) = b) := by
    show _ = _
    have := hb.out
    rw [Bool.eq_iff_iff, any_out, this]
  have hc0 := X0.out.cells 0
  have HC := hide (show (w.alloc (.cells (C2 t A n c) 24)).cell? ⟨w.heap.size, 0, none⟩ = some (.int .i64 t) from hc0)
  clear hc0 hb hr
  go_enter Try.func31, Try.ntmps31
  go_wp2_with fail
  refine (has_out _ _ _ _ _ _ zs _ HR.out.1 hn HC).mono ?_
  rintro e w' ⟨rfl, rfl⟩
  generalize zs.any (out t) = q at HE
  go_wp2
  go_ret
  exact ⟨congrArg (fun b => Ending.returned (Value.bool b)) HE.out, B0.out⟩

set_option maxHeartbeats 1000000 in
theorem check_any (t : Int) (A : Option Addr) (n c B : Nat) (zs : List Int) (b : Bool) (w : World) (hr : Reads w B A n c zs) (hB : B ≤ w.heap.size) (hb : Hid (b = true ↔ Ok t zs)) :
    Calls Try.prog 13 #[V2 t A n c] w (Drew (.int .i64 (chk b)) w) := by
  have B0 := hide ((Below.refl w.heap.size w).alloc (Nat.le_refl _) (.cells (C2 t A n c) 24))
  have HR := hide (hr.below B0.out hB)
  go_enter Try.func13, Try.ntmps13
  go_wp2_with fail
  refine (mayBe_any t A n c B zs b _ HR.out (by simp; omega) hb).mono ?_
  rintro e u1 ⟨rfl, b1⟩
  have B1 := hide (next_call B0.out (Nat.le_refl _) b1)
  clear b1 hb hr
  cases b with
  | true =>
    go_wp2
    go_ret
    exact ⟨rfl, B1.out⟩
  | false =>
    go_wp2
    go_ret
    exact ⟨rfl, B1.out⟩

set_option maxHeartbeats 1000000 in
theorem safe_any (t : Int) (A : Option Addr) (n c B : Nat) (zs : List Int) (b : Bool) (w : World) (hr : Reads w B A n c zs) (hB : B ≤ w.heap.size) (hb : Hid (b = true ↔ Ok t zs)) :
    Calls Try.prog 15 #[V2 t A n c] w (Drew (.int .i64 (safeV b t)) w) := by
  have B0 := hide ((Below.refl w.heap.size w).alloc (Nat.le_refl _) (.cells (C2 t A n c) 24))
  have X0 := hide (EBox.new w (C2 t A n c))
  have HR := hide (hr.below B0.out hB)
  go_enter Try.func15, Try.ntmps15
  go_wp2_with fail
  refine (mayBe_any t A n c B zs b _ HR.out (by simp; omega) hb).mono ?_
  rintro e u1 ⟨rfl, b1⟩
  have B1 := hide (next_call B0.out (Nat.le_refl _) b1)
  have X1 := hide (X0.out.step b1)
  clear b1 hr
  cases b with
  | true =>
    have ho := (hb.out.1 rfl).1
    clear hb
    have hc := X1.out.cells
    have hl := X1.out.lt
    go_wp2
    go_ret
    exact ⟨by go_num, B1.out⟩
  | false =>
    clear hb
    go_wp2
    go_ret
    exact ⟨rfl, B1.out⟩

set_option maxHeartbeats 2000000 in
theorem rcheck_any (t : Int) (A : Option Addr) (n c B : Nat) (zs : List Int) (b : Bool) (w : World) (hr : Reads w B A n c zs) (hB : B ≤ w.heap.size) (hb : Hid (b = true ↔ Ok t zs)) :
    Calls Try.prog 14 #[V2 t A n c] w (Drew (.int .i64 (chk b)) w) := by
  have B0 := hide ((Below.refl w.heap.size w).alloc (Nat.le_refl _) (.cells (C2 t A n c) 24))
  have HL := hide hr.len
  have HR := hide (hr.below B0.out hB)
  clear hr
  by_cases h1 : t < 0
  · obtain rfl := not_ok hb (by intro h; have := h.1; omega)
    have d1 : decide (t < 0) = true := by simpa using h1
    clear hb
    go_enter Try.func14, Try.ntmps14
    go_wp2
    go_ret
    exact ⟨rfl, B0.out⟩
  have d1 : decide (t < 0) = false := by simpa using h1
  by_cases h2 : 1152921504606846976 < t
  · obtain rfl := not_ok hb (by intro h; have := h.1; omega)
    have d2 : decide ((1152921504606846976 : Int) < t) = true := by simpa using h2
    clear hb
    go_enter Try.func14, Try.ntmps14
    go_wp2
    go_ret
    exact ⟨rfl, B0.out⟩
  have d2 : decide ((1152921504606846976 : Int) < t) = false := by simpa using h2
  by_cases h3 : n < 1
  · obtain rfl := not_ok hb (by intro h; have := h.2.1; have := HL.out; omega)
    have d3 : decide ((n : Int) < 1) = true := by simp; omega
    clear hb
    go_enter Try.func14, Try.ntmps14
    go_wp2
    go_ret
    exact ⟨rfl, B0.out⟩
  have d3 : decide ((n : Int) < 1) = false := by simp; omega
  by_cases h4 : 64 < n
  · obtain rfl := not_ok hb (by intro h; have := h.2.1; have := HL.out; omega)
    have d4 : decide ((64 : Int) < (n : Int)) = true := by simp; omega
    clear hb
    go_enter Try.func14, Try.ntmps14
    go_wp2
    go_ret
    exact ⟨rfl, B0.out⟩
  have d4 : decide ((64 : Int) < (n : Int)) = false := by simp; omega
  go_enter Try.func14, Try.ntmps14
  go_wp2
  go_loopw [28] (fun i wr => ∃ k : Nat, k ≤ n ∧ i = .int .i64 k ∧ wr = w.alloc (.cells (C2 t A n c) 24) ∧ Hid (∀ j, j < k → PinOk t (zs.getD j 0))) (fun i _ => n - (intOf i).toNat)
  case atStart => exact ⟨0, by omega, rfl, rfl, by intro j hj; omega⟩
  case round =>
    obtain ⟨k, hk, rfl, rfl, HA⟩ := hrel
    by_cases hlt : k < n
    · obtain ⟨b0, off, rfl, _, hx⟩ := HR.out.1.at_ hlt
      have HZ : Hid (zs.getD k 0 = zs.getD k 0) := rfl
      obtain ⟨z, EZ⟩ : ∃ z, Hid (zs.getD k 0 = z) := ⟨_, rfl⟩
      rw [EZ.out] at hx
      by_cases hz : PinOk t z
      · have HN : Hid (∀ j, j < k + 1 → PinOk t (zs.getD j 0)) := by
          intro j hj
          by_cases hjk : j = k
          · subst hjk; rw [EZ.out]; exact hz
          · exact HA.out j (by omega)
        by_cases e1 : z = -1
        · subst e1
          clear hz
          go_wp2
          go_roundw
          case rel => exact ⟨k + 1, by omega, by go_num, trivial, HN⟩
          case measure => simp [intOf]; omega
        have f1 : (z != -1) = true := by simpa using e1
        by_cases e2 : z = t
        · subst e2
          have f2 : (z != z) = false := by simp
          clear hz
          go_wp2
          go_roundw
          case rel => exact ⟨k + 1, by omega, by go_num, trivial, HN⟩
          case measure => simp [intOf]; omega
        have f2 : (z != t) = true := by simpa using e2
        have e3 : z = t - 1 := by unfold PinOk at hz; omega
        have f3 : (z != t - 1) = false := by simpa using e3
        have f4 : decide (z < 0) = false := by simp; omega
        clear hz e3
        go_wp2
        go_roundw
        case rel => exact ⟨k + 1, by omega, by go_num, trivial, HN⟩
        case measure => simp [intOf]; omega
      · obtain rfl := not_ok hb (by intro h; exact hz (by rw [← EZ.out]; exact h.2.2 _ (get_mem (by have := HL.out; omega))))
        have HNZ := hide hz
        have e1 : (z != -1) = true := by have := HNZ.out; unfold PinOk at this; simp; omega
        have e2 : (z != t) = true := by have := HNZ.out; unfold PinOk at this; simp; omega
        have e3 : (z != t - 1) = true := by have := HNZ.out; unfold PinOk at this; simp; omega
        clear hz hb
        go_wp2
        go_ret
        exact ⟨rfl, B0.out⟩
    · obtain rfl := is_ok hb ⟨by omega, by have := HL.out; omega, fun z hz => by
        obtain ⟨i, hi, rfl⟩ := mem_get hz
        exact HA.out i (by have := HL.out; omega)⟩
      clear hb
      go_wp2
      go_ret
      exact ⟨rfl, B0.out⟩

set_option maxHeartbeats 1000000 in
theorem rsafe_any (t : Int) (A : Option Addr) (n c B : Nat) (zs : List Int) (b : Bool) (w : World) (hr : Reads w B A n c zs) (hB : B ≤ w.heap.size) (hb : Hid (b = true ↔ Ok t zs)) :
    Calls Try.prog 16 #[V2 t A n c] w (Drew (.int .i64 (safeV b t)) w) := by
  have B0 := hide ((Below.refl w.heap.size w).alloc (Nat.le_refl _) (.cells (C2 t A n c) 24))
  have X0 := hide (EBox.new w (C2 t A n c))
  have HR := hide (hr.below B0.out hB)
  go_enter Try.func16, Try.ntmps16
  go_wp2_with fail
  refine (rcheck_any t A n c B zs b _ HR.out (by simp; omega) hb).mono ?_
  rintro e u1 ⟨rfl, b1⟩
  have B1 := hide (next_call B0.out (Nat.le_refl _) b1)
  have X1 := hide (X0.out.step b1)
  clear b1 hr
  cases b with
  | true =>
    have ho := (hb.out.1 rfl).1
    clear hb
    have hc := X1.out.cells
    have hl := X1.out.lt
    rw [show chk true = 0 from rfl]
    go_wp2
    go_ret
    exact ⟨by go_num, B1.out⟩
  | false =>
    clear hb
    rw [show chk false = 1 from rfl]
    go_wp2
    go_ret
    exact ⟨rfl, B1.out⟩

end Go.Proofs.Yteckldjdkcbkdaa
