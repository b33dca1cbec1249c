/- What the small functions of layer 3 answer: a part's words, whether it has a thing, the list of the parts. -/
import Derived.Test.YtknbllhkifigbaaDoorRows
import Derived.Test.YtknbllhkifigbaaDoorTab
import Derived.WalkKit
import Derived.IntWalk
import Derived.Deep.QuietTactic
import Derived.BigQuiet
namespace Go.Proofs.YtknbllhkifigbaaDoor
open Go.RowKit
set_option linter.unusedVariables false

set_option maxHeartbeats 400000 in
theorem words_any (t : Nat) (f c L : Int) (w : World) (ht : t < 6) (hc0 : 0 ≤ c) (hc1 : c ≤ 64) (hl0 : 0 ≤ L) (hl1 : L ≤ 5) (hw : 0 < w.heap.size) (hc : w.cell? ⟨0, t, none⟩ = some (.int .i64 L)) :
    Calls Tryd.prog 27 #[.agg #[.int .i64 (t : Int), .int .i64 f, .int .i64 c]] w (Drew (.int .i64 (c * L)) w) := by
  obtain ⟨m0, m1⟩ := mul_bd hc0 hc1 hl0 hl1
  have hm := IntWalk.i64_in (c * L) (by omega)
  go_enter Tryd.func27, Tryd.ntmps27
  go_wp2
  go_quiet (fail)
  go_wp2
  go_ret
  exact ⟨rfl, Below.drewN ((Below.refl _ _).alloc (Nat.le_refl _) _) _⟩

set_option maxHeartbeats 400000 in
theorem has_yes (t : Nat) (f c L m fd : Int) (w : World) (ht : t < 6) (hc0 : 0 ≤ c) (hc1 : c ≤ 64) (hf0 : 0 ≤ f) (hf1 : f ≤ 1) (hw : 0 < w.heap.size) (hc : w.cell? ⟨0, t, none⟩ = some (.int .i64 L))
    (h1 : f ≤ m) (h2 : m < f + c) (h3 : 0 ≤ fd) (h4 : fd < L) :
    Calls Tryd.prog 30 #[.agg #[.int .i64 (t : Int), .int .i64 f, .int .i64 c], .int .i64 m, .int .i64 fd] w (Drew (.bool true) w) := by
  have b1 : decide (f ≤ m) = true := by simpa using h1
  have b2 : decide (m < f + c) = true := by simpa using h2
  have b3 : decide (0 ≤ fd) = true := by simpa using h3
  have b4 : decide (fd < L) = true := by simpa using h4
  go_enter Tryd.func30, Tryd.ntmps30
  go_wp2
  go_ret
  exact ⟨rfl, (Below.refl _ _).alloc (Nat.le_refl _) _⟩

set_option maxHeartbeats 1000000 in
theorem has_no (t : Nat) (f c L m fd : Int) (w : World) (ht : t < 6) (hc0 : 0 ≤ c) (hc1 : c ≤ 64) (hf0 : 0 ≤ f) (hf1 : f ≤ 1) (hw : 0 < w.heap.size) (hc : w.cell? ⟨0, t, none⟩ = some (.int .i64 L))
    (hn : Hid (¬ (f ≤ m ∧ m < f + c ∧ 0 ≤ fd ∧ fd < L))) :
    Calls Tryd.prog 30 #[.agg #[.int .i64 (t : Int), .int .i64 f, .int .i64 c], .int .i64 m, .int .i64 fd] w (Drew (.bool false) w) := by
  by_cases c1 : f ≤ m
  · have b1 : decide (f ≤ m) = true := by simpa using c1
    by_cases c2 : m < f + c
    · have b2 : decide (m < f + c) = true := by simpa using c2
      by_cases c3 : 0 ≤ fd
      · have b3 : decide (0 ≤ fd) = true := by simpa using c3
        have c4 : ¬ fd < L := fun h => hn.out ⟨c1, c2, c3, h⟩
        have b4 : decide (fd < L) = false := by simpa using c4
        go_enter Tryd.func30, Tryd.ntmps30
        go_wp2
        go_ret
        exact ⟨rfl, (Below.refl _ _).alloc (Nat.le_refl _) _⟩
      · have b3 : decide (0 ≤ fd) = false := by simpa using c3
        go_enter Tryd.func30, Tryd.ntmps30
        go_wp2
        go_ret
        exact ⟨rfl, (Below.refl _ _).alloc (Nat.le_refl _) _⟩
    · have b2 : decide (m < f + c) = false := by simpa using c2
      go_enter Tryd.func30, Tryd.ntmps30
      go_wp2
      go_ret
      exact ⟨rfl, (Below.refl _ _).alloc (Nat.le_refl _) _⟩
  · have b1 : decide (f ≤ m) = false := by simpa using c1
    go_enter Tryd.func30, Tryd.ntmps30
    go_wp2
    go_ret
    exact ⟨rfl, (Below.refl _ _).alloc (Nat.le_refl _) _⟩

/-- The list of the parts, as the program lays it out. -/
abbrev partsA (n e p i j : Int) : Array Value := #[.int .i64 0, .int .i64 1, .int .i64 2, .int .i64 4, .int .i64 1, .int .i64 i, .int .i64 5, .int .i64 1, .int .i64 j, .int .i64 1, .int .i64 0, .int .i64 n, .int .i64 2, .int .i64 0, .int .i64 e, .int .i64 3, .int .i64 0, .int .i64 p]
def partsV (n e p i j : Int) : Value := .agg (partsA n e p i j)

theorem Tryd.size47 : (Tryd.prog.info? 47).map (·.size) = some 18 := by kernel_rfl
theorem heap_two (w : World) (o o' : Obj) : ((w.alloc o).alloc o').heap[w.heap.size + 1]? = some o' := by
  have := heap_alloc_new (w.alloc o) o'
  simpa using this
theorem parts_one (n e p i j : Int) : (partsA n e p i j).all (·.oneCell') = true := by kernel_rfl
theorem parts_size (n e p i j : Int) : (Tryd.prog.info? 47).map (·.size) = some (partsA n e p i j).size := Tryd.size47
abbrev zeros18 : Array Value := #[.int .i64 0, .int .i64 0, .int .i64 0, .int .i64 0, .int .i64 0, .int .i64 0, .int .i64 0, .int .i64 0, .int .i64 0, .int .i64 0, .int .i64 0, .int .i64 0, .int .i64 0, .int .i64 0, .int .i64 0, .int .i64 0, .int .i64 0, .int .i64 0]
set_option maxHeartbeats 1000000 in
theorem parts_any (n e p i j : Int) (w : World) :
    Calls Tryd.prog 26 #[.agg #[.int .i64 n, .int .i64 e, .int .i64 p, .int .i64 i, .int .i64 j]] w (Drew (partsV n e p i j) w) := by
  go_enter Tryd.func26, Tryd.ntmps26
  go_wp2_with (refine wpList_store_row rfl 47 (.tmp 2) (.tmp 19) rfl (w.heap.size + 1) (partsA n e p i j) rfl rfl 47 zeros18 (heap_two _ _ _) (parts_size n e p i j) rfl (parts_one n e p i j) ?_)
  refine bodyPost_ret (v := partsV n e p i j) (results_cell_row Tryd.results26 _ _ (w.heap.size + 1) 47 (partsA n e p i j) (0, 0) _ rfl ?_ Tryd.underlying47 rfl Tryd.size47) rfl ⟨rfl, ?_⟩
  · exact setRow_heap _ _ _ _ _ _ (heap_two _ _ _)
  · exact below_setRow (((Below.refl _ _).alloc (Nat.le_refl _) _).alloc (by simp) _) (by omega) _
theorem parts_index (n e p i j : Int) (k : Nat) (hk : k < 6) : ∀ w, (Instr.index 47 (partsV n e p i j) (.int .i64 (k : Int))).run Tryd.prog w = .ok (.agg #[.int .i64 (pw k : Int), .int .i64 (pf k), .int .i64 (pc n e p i j k)]) w :=
  six (P := fun k => ∀ w, (Instr.index 47 (partsV n e p i j) (.int .i64 (k : Int))).run Tryd.prog w = .ok (.agg #[.int .i64 (pw k : Int), .int .i64 (pf k), .int .i64 (pc n e p i j k)]) w)
    (fun _ => by kernel_rfl) (fun _ => by kernel_rfl) (fun _ => by kernel_rfl) (fun _ => by kernel_rfl) (fun _ => by kernel_rfl) (fun _ => by kernel_rfl) k hk

theorem three {P : Nat → Prop} (h0 : P 0) (h1 : P 1) (h2 : P 2) (k : Nat) (hk : k < 3) : P k := by
  match k, hk with
  | 0, _ => exact h0
  | 1, _ => exact h1
  | 2, _ => exact h2
/-- The first numbers that are checked. -/
def ca (n e p : Int) : Nat → Int
  | 0 => n
  | 1 => e
  | _ => p
def cb (i j : Int) : Nat → Int
  | 0 => i
  | _ => j
theorem index41 (n e p : Int) (k : Nat) (hk : k < 3) : ∀ w, (Instr.index 41 (.agg #[.int .i64 n, .int .i64 e, .int .i64 p]) (.int .i64 (k : Int))).run Tryd.prog w = .ok (.int .i64 (ca n e p k)) w :=
  three (P := fun k => ∀ w, (Instr.index 41 (.agg #[.int .i64 n, .int .i64 e, .int .i64 p]) (.int .i64 (k : Int))).run Tryd.prog w = .ok (.int .i64 (ca n e p k)) w) (fun _ => by kernel_rfl) (fun _ => by kernel_rfl) (fun _ => by kernel_rfl) k hk
theorem index44 (i j : Int) (k : Nat) (hk : k < 2) : ∀ w, (Instr.index 44 (.agg #[.int .i64 i, .int .i64 j]) (.int .i64 (k : Int))).run Tryd.prog w = .ok (.int .i64 (cb i j k)) w := by
  match k, hk with
  | 0, _ => exact (fun _ => by kernel_rfl)
  | 1, _ => exact (fun _ => by kernel_rfl)

set_option maxHeartbeats 1000000 in
theorem check_ok (n e p i j : Int) (w : World) (h : Hid (Ok n e p i j)) :
    Calls Tryd.prog 12 #[.agg #[.int .i64 n, .int .i64 e, .int .i64 p, .int .i64 i, .int .i64 j]] w (Drew (.int .i64 0) w) := by
  have hA : Hid (∀ k, k < 3 → 1 ≤ ca n e p k ∧ ca n e p k ≤ 64) := by
    have h' := h.out
    unfold Ok at h'
    exact three (P := fun k => 1 ≤ ca n e p k ∧ ca n e p k ≤ 64) (by simp only [ca]; omega) (by simp only [ca]; omega) (by simp only [ca]; omega)
  have hB : Hid (∀ k, k < 2 → 1 ≤ cb i j k ∧ cb i j k ≤ 64) := by
    have h' := h.out
    unfold Ok at h'
    intro k hk
    match k, hk with
    | 0, _ => simp only [cb]; omega
    | 1, _ => simp only [cb]; omega
  go_enter Tryd.func12, Tryd.ntmps12
  go_wp2
  go_loop [14] (fun c => ∃ k : Nat, k ≤ 3 ∧ c = .int .i64 k) (fun c => 3 - (intOf c).toNat)
  case atStart => exact ⟨0, by omega, rfl⟩
  case round =>
    obtain ⟨k, hk, rfl⟩ := hrel
    by_cases hlt : k < 3
    · have hi := index41 n e p k hlt
      obtain ⟨g1, g2⟩ := hA.out k hlt
      generalize ca n e p k = x at hi g1 g2
      have b1 : decide (x < 1) = false := by simp; omega
      have b2 : decide (64 < x) = false := by simp; omega
      go_wp2
      go_round
      case rel => exact ⟨k + 1, by omega, by go_num⟩
      case measure => simp [intOf]; omega
    · go_wp2
      go_loop [29] (fun c => ∃ k : Nat, k ≤ 2 ∧ c = .int .i64 k) (fun c => 2 - (intOf c).toNat)
      case atStart => exact ⟨0, by omega, rfl⟩
      case round =>
        obtain ⟨m, hm, rfl⟩ := hrel
        by_cases hlm : m < 2
        · have hi := index44 i j m hlm
          obtain ⟨g1, g2⟩ := hB.out m hlm
          generalize cb i j m = x at hi g1 g2
          have b1 : decide (x < 1) = false := by simp; omega
          have b2 : decide (64 < x) = false := by simp; omega
          go_wp2
          go_round
          case rel => exact ⟨m + 1, by omega, by go_num⟩
          case measure => simp [intOf]; omega
        · go_wp2
          go_ret
          exact ⟨rfl, (Below.refl _ _).alloc (Nat.le_refl _) _⟩

set_option maxHeartbeats 1000000 in
theorem check_no (n e p i j : Int) (w : World) (h : Hid (¬ Ok n e p i j)) :
    Calls Tryd.prog 12 #[.agg #[.int .i64 n, .int .i64 e, .int .i64 p, .int .i64 i, .int .i64 j]] w (Drew (.int .i64 1) w) := by
  go_enter Tryd.func12, Tryd.ntmps12
  go_wp2
  go_loop [14] (fun c => ∃ k : Nat, k ≤ 3 ∧ c = .int .i64 k ∧ Hid (∀ m, m < k → 1 ≤ ca n e p m ∧ ca n e p m ≤ 64)) (fun c => 3 - (intOf c).toNat)
  case atStart => exact ⟨0, by omega, rfl, fun m hm => absurd hm (by omega)⟩
  case round =>
    obtain ⟨k, hk, rfl, HA⟩ := hrel
    by_cases hlt : k < 3
    · have hi := index41 n e p k hlt
      by_cases g1 : ca n e p k < 1
      · generalize ca n e p k = x at hi g1
        have b1 : decide (x < 1) = true := by simpa using g1
        go_wp2
        go_ret
        exact ⟨rfl, (Below.refl _ _).alloc (Nat.le_refl _) _⟩
      by_cases g2 : 64 < ca n e p k
      · generalize ca n e p k = x at hi g1 g2
        have b1 : decide (x < 1) = false := by simpa using g1
        have b2 : decide (64 < x) = true := by simpa using g2
        go_wp2
        go_ret
        exact ⟨rfl, (Below.refl _ _).alloc (Nat.le_refl _) _⟩
      · have HA' : Hid (∀ m, m < k + 1 → 1 ≤ ca n e p m ∧ ca n e p m ≤ 64) := fun m hm => by
          by_cases hmk : m = k
          · subst hmk; omega
          · exact HA.out m (by omega)
        generalize ca n e p k = x at hi g1 g2
        have b1 : decide (x < 1) = false := by simpa using g1
        have b2 : decide (64 < x) = false := by simpa using g2
        go_wp2
        go_round
        case rel => exact ⟨k + 1, by omega, by go_num, HA'⟩
        case measure => simp [intOf]; omega
    · obtain rfl : k = 3 := by omega
      go_wp2
      go_loop [29] (fun c => ∃ k : Nat, k ≤ 2 ∧ c = .int .i64 k ∧ Hid (∀ m, m < k → 1 ≤ cb i j m ∧ cb i j m ≤ 64)) (fun c => 2 - (intOf c).toNat)
      case atStart => exact ⟨0, by omega, rfl, fun m hm => absurd hm (by omega)⟩
      case round =>
        obtain ⟨k, hk, rfl, HB⟩ := hrel
        by_cases hlt : k < 2
        · have hi := index44 i j k hlt
          by_cases g1 : cb i j k < 1
          · generalize cb i j k = x at hi g1
            have b1 : decide (x < 1) = true := by simpa using g1
            go_wp2
            go_ret
            exact ⟨rfl, (Below.refl _ _).alloc (Nat.le_refl _) _⟩
          by_cases g2 : 64 < cb i j k
          · generalize cb i j k = x at hi g1 g2
            have b1 : decide (x < 1) = false := by simpa using g1
            have b2 : decide (64 < x) = true := by simpa using g2
            go_wp2
            go_ret
            exact ⟨rfl, (Below.refl _ _).alloc (Nat.le_refl _) _⟩
          · have HB' : Hid (∀ m, m < k + 1 → 1 ≤ cb i j m ∧ cb i j m ≤ 64) := fun m hm => by
              by_cases hmk : m = k
              · subst hmk; omega
              · exact HB.out m (by omega)
            generalize cb i j k = x at hi g1 g2
            have b1 : decide (x < 1) = false := by simpa using g1
            have b2 : decide (64 < x) = false := by simpa using g2
            go_wp2
            go_round
            case rel => exact ⟨k + 1, by omega, by go_num, HB'⟩
            case measure => simp [intOf]; omega
        · exfalso
          obtain rfl : k = 2 := by omega
          exact h.out ⟨HA.out 0 (by omega), HA.out 1 (by omega), HA.out 2 (by omega), HB.out 0 (by omega), HB.out 1 (by omega)⟩

end Go.Proofs.YtknbllhkifigbaaDoor
