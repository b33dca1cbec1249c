/- What New, Same and Few tell; the example; the rows' frames. (Several texts, one behind the other.) -/
import Derived.Test.YthficfmakbblkaaArA
import Derived.Test.YthficfmakbblkaaArB
import Derived.Test.YthficfmakbblkaaPoolB
import Derived.Great.BuildSlice
import Derived.Great.FillDense
import Derived.Laws.CopyRow

/- What layer 3's Check and Cap tell, the code's and the document's, and arena's sizes. -/
namespace Go.Proofs.Ythficfmakbblkaa.Place
open Go.RowKit
open Pool (Drew)
set_option linter.unusedVariables false
set_option maxRecDepth 100000

def Ok (n e p i j : Int) : Prop := (1 ≤ n ∧ n ≤ 64) ∧ (1 ≤ e ∧ e ≤ 64) ∧ (1 ≤ p ∧ p ≤ 64) ∧ (1 ≤ i ∧ i ≤ 64) ∧ (1 ≤ j ∧ j ≤ 64)
/-- The first numbers that are checked. -/
def ca (n e p : Int) : Nat → Int
  | 0 => n
  | 1 => e
  | _ => p
def cb (i j : Int) : Nat → Int
  | 0 => i
  | _ => j
theorem index41 (n e p : Int) (k : Nat) (hk : k < 3) : ∀ w, (Instr.index 67 (.agg #[.int .i64 n, .int .i64 e, .int .i64 p]) (.int .i64 (k : Int))).run Try.prog w = .ok (.int .i64 (ca n e p k)) w :=
  three (P := fun k => ∀ w, (Instr.index 67 (.agg #[.int .i64 n, .int .i64 e, .int .i64 p]) (.int .i64 (k : Int))).run Try.prog w = .ok (.int .i64 (ca n e p k)) w) (fun _ => by kernel_rfl) (fun _ => by kernel_rfl) (fun _ => by kernel_rfl) k hk
theorem index44 (i j : Int) (k : Nat) (hk : k < 2) : ∀ w, (Instr.index 54 (.agg #[.int .i64 i, .int .i64 j]) (.int .i64 (k : Int))).run Try.prog w = .ok (.int .i64 (cb i j k)) w := by
  match k, hk with
  | 0, _ => exact (fun _ => by kernel_rfl)
  | 1, _ => exact (fun _ => by kernel_rfl)

set_option maxHeartbeats 1000000 in
theorem check_ok (n e p i j : Int) (w : World) (h : Hid (Ok n e p i j)) :
    Calls Try.prog 34 #[.agg #[.int .i64 n, .int .i64 e, .int .i64 p, .int .i64 i, .int .i64 j]] w (Drew (.int .i64 0) w) := by
  have hA : Hid (∀ k, k < 3 → 1 ≤ ca n e p k ∧ ca n e p k ≤ 64) := by
    have h' := h.out
    unfold Ok at h'
    exact three (P := fun k => 1 ≤ ca n e p k ∧ ca n e p k ≤ 64) (by simp only [ca]; omega) (by simp only [ca]; omega) (by simp only [ca]; omega)
  have hB : Hid (∀ k, k < 2 → 1 ≤ cb i j k ∧ cb i j k ≤ 64) := by
    have h' := h.out
    unfold Ok at h'
    intro k hk
    match k, hk with
    | 0, _ => simp only [cb]; omega
    | 1, _ => simp only [cb]; omega
  go_enter Try.func34, Try.ntmps34
  go_wp2
  go_loop [14] (fun c => ∃ k : Nat, k ≤ 3 ∧ c = .int .i64 k) (fun c => 3 - (intOf c).toNat)
  case atStart => exact ⟨0, by omega, rfl⟩
  case round =>
    obtain ⟨k, hk, rfl⟩ := hrel
    by_cases hlt : k < 3
    · have hi := index41 n e p k hlt
      obtain ⟨g1, g2⟩ := hA.out k hlt
      generalize ca n e p k = x at hi g1 g2
      have b1 : decide (x < 1) = false := by simp; omega
      have b2 : decide (64 < x) = false := by simp; omega
      go_wp2
      go_round
      case rel => exact ⟨k + 1, by omega, by go_num⟩
      case measure => simp [intOf]; omega
    · go_wp2
      go_loop [29] (fun c => ∃ k : Nat, k ≤ 2 ∧ c = .int .i64 k) (fun c => 2 - (intOf c).toNat)
      case atStart => exact ⟨0, by omega, rfl⟩
      case round =>
        obtain ⟨m, hm, rfl⟩ := hrel
        by_cases hlm : m < 2
        · have hi := index44 i j m hlm
          obtain ⟨g1, g2⟩ := hB.out m hlm
          generalize cb i j m = x at hi g1 g2
          have b1 : decide (x < 1) = false := by simp; omega
          have b2 : decide (64 < x) = false := by simp; omega
          go_wp2
          go_round
          case rel => exact ⟨m + 1, by omega, by go_num⟩
          case measure => simp [intOf]; omega
        · go_wp2
          go_ret
          exact ⟨rfl, (Below.refl _ _).alloc (Nat.le_refl _) _⟩

set_option maxHeartbeats 1000000 in
theorem check_no (n e p i j : Int) (w : World) (h : Hid (¬ Ok n e p i j)) :
    Calls Try.prog 34 #[.agg #[.int .i64 n, .int .i64 e, .int .i64 p, .int .i64 i, .int .i64 j]] w (Drew (.int .i64 1) w) := by
  go_enter Try.func34, Try.ntmps34
  go_wp2
  go_loop [14] (fun c => ∃ k : Nat, k ≤ 3 ∧ c = .int .i64 k ∧ Hid (∀ m, m < k → 1 ≤ ca n e p m ∧ ca n e p m ≤ 64)) (fun c => 3 - (intOf c).toNat)
  case atStart => exact ⟨0, by omega, rfl, fun m hm => absurd hm (by omega)⟩
  case round =>
    obtain ⟨k, hk, rfl, HA⟩ := hrel
    by_cases hlt : k < 3
    · have hi := index41 n e p k hlt
      by_cases g1 : ca n e p k < 1
      · generalize ca n e p k = x at hi g1
        have b1 : decide (x < 1) = true := by simpa using g1
        go_wp2
        go_ret
        exact ⟨rfl, (Below.refl _ _).alloc (Nat.le_refl _) _⟩
      by_cases g2 : 64 < ca n e p k
      · generalize ca n e p k = x at hi g1 g2
        have b1 : decide (x < 1) = false := by simpa using g1
        have b2 : decide (64 < x) = true := by simpa using g2
        go_wp2
        go_ret
        exact ⟨rfl, (Below.refl _ _).alloc (Nat.le_refl _) _⟩
      · have HA' : Hid (∀ m, m < k + 1 → 1 ≤ ca n e p m ∧ ca n e p m ≤ 64) := fun m hm => by
          by_cases hmk : m = k
          · subst hmk; omega
          · exact HA.out m (by omega)
        generalize ca n e p k = x at hi g1 g2
        have b1 : decide (x < 1) = false := by simpa using g1
        have b2 : decide (64 < x) = false := by simpa using g2
        go_wp2
        go_round
        case rel => exact ⟨k + 1, by omega, by go_num, HA'⟩
        case measure => simp [intOf]; omega
    · obtain rfl : k = 3 := by omega
      go_wp2
      go_loop [29] (fun c => ∃ k : Nat, k ≤ 2 ∧ c = .int .i64 k ∧ Hid (∀ m, m < k → 1 ≤ cb i j m ∧ cb i j m ≤ 64)) (fun c => 2 - (intOf c).toNat)
      case atStart => exact ⟨0, by omega, rfl, fun m hm => absurd hm (by omega)⟩
      case round =>
        obtain ⟨k, hk, rfl, HB⟩ := hrel
        by_cases hlt : k < 2
        · have hi := index44 i j k hlt
          by_cases g1 : cb i j k < 1
          · generalize cb i j k = x at hi g1
            have b1 : decide (x < 1) = true := by simpa using g1
            go_wp2
            go_ret
            exact ⟨rfl, (Below.refl _ _).alloc (Nat.le_refl _) _⟩
          by_cases g2 : 64 < cb i j k
          · generalize cb i j k = x at hi g1 g2
            have b1 : decide (x < 1) = false := by simpa using g1
            have b2 : decide (64 < x) = true := by simpa using g2
            go_wp2
            go_ret
            exact ⟨rfl, (Below.refl _ _).alloc (Nat.le_refl _) _⟩
          · have HB' : Hid (∀ m, m < k + 1 → 1 ≤ cb i j m ∧ cb i j m ≤ 64) := fun m hm => by
              by_cases hmk : m = k
              · subst hmk; omega
              · exact HB.out m (by omega)
            generalize cb i j k = x at hi g1 g2
            have b1 : decide (x < 1) = false := by simpa using g1
            have b2 : decide (64 < x) = false := by simpa using g2
            go_wp2
            go_round
            case rel => exact ⟨k + 1, by omega, by go_num, HB'⟩
            case measure => simp [intOf]; omega
        · exfalso
          obtain rfl : k = 2 := by omega
          exact h.out ⟨HA.out 0 (by omega), HA.out 1 (by omega), HA.out 2 (by omega), HB.out 0 (by omega), HB.out 1 (by omega)⟩

/-- The five numbers that are checked. -/
def cc (n e p i j : Int) : Nat → Int
  | 0 => n
  | 1 => e
  | 2 => p
  | 3 => i
  | _ => j

theorem five {P : Nat → Prop} (h0 : P 0) (h1 : P 1) (h2 : P 2) (h3 : P 3) (h4 : P 4) (k : Nat) (hk : k < 5) : P k := by
  match k, hk with
  | 0, _ => exact h0
  | 1, _ => exact h1
  | 2, _ => exact h2
  | 3, _ => exact h3
  | 4, _ => exact h4

theorem five_cell (w : World) (o : Obj) (n e p i j : Int) (k : Nat) (hk : k < 5) :
    ((w.alloc o).alloc (.cells #[.int .i64 n, .int .i64 e, .int .i64 p, .int .i64 i, .int .i64 j] 3)).cell? ⟨w.heap.size + 1, k, none⟩ = some (.int .i64 (cc n e p i j k)) := by
  rw [cell_of_row _ _ _ _ _ _ (heap_alloc2_new w o _)]
  exact five (P := fun k => (#[Value.int .i64 n, Value.int .i64 e, Value.int .i64 p, Value.int .i64 i, Value.int .i64 j] : Array Value)[k]? = some (.int .i64 (cc n e p i j k))) rfl rfl rfl rfl rfl k hk

set_option maxHeartbeats 1000000 in
theorem rcheck_ok (n e p i j : Int) (w : World) (h : Hid (Ok n e p i j)) :
    Calls Try.prog 39 #[.agg #[.int .i64 n, .int .i64 e, .int .i64 p, .int .i64 i, .int .i64 j]] w (Drew (.int .i64 0) w) := by
  have hA : Hid (∀ k, k < 5 → 1 ≤ cc n e p i j k ∧ cc n e p i j k ≤ 64) := by
    have h' := h.out
    unfold Ok at h'
    exact five (P := fun k => 1 ≤ cc n e p i j k ∧ cc n e p i j k ≤ 64) (by simp only [cc]; omega) (by simp only [cc]; omega) (by simp only [cc]; omega) (by simp only [cc]; omega) (by simp only [cc]; omega)
  have HC : Hid (∀ o k, k < 5 → ((w.alloc o).alloc (.cells #[.int .i64 n, .int .i64 e, .int .i64 p, .int .i64 i, .int .i64 j] 3)).cell? ⟨w.heap.size + 1, k, none⟩ = some (.int .i64 (cc n e p i j k))) := fun o k hk => five_cell w o n e p i j k hk
  go_enter Try.func39, Try.ntmps39
  go_wp2
  go_loopw [17] (fun c wr => ∃ k : Nat, k ≤ 5 ∧ c = .int .i64 k ∧ Hid (Below w.heap.size w wr) ∧ Hid (∀ k, k < 5 → wr.cell? ⟨w.heap.size + 1, k, none⟩ = some (.int .i64 (cc n e p i j k)))) (fun c _ => 5 - (intOf c).toNat)
  case atStart => exact ⟨0, by omega, rfl, ((Below.refl _ _).alloc (Nat.le_refl _) _).alloc (by simp) _, fun k hk => HC.out _ k hk⟩
  case round =>
    obtain ⟨k, hk, rfl, HB, HR⟩ := hrel
    by_cases hlt : k < 5
    · have hi := HR.out k hlt
      obtain ⟨g1, g2⟩ := hA.out k hlt
      generalize cc n e p i j k = x at hi g1 g2
      have b1 : decide (x < 1) = false := by simp; omega
      have b2 : decide (64 < x) = false := by simp; omega
      go_wp2
      go_roundw
      case rel => exact ⟨k + 1, by omega, by go_num, HB, HR⟩
      case measure => simp [intOf]; omega
    · go_wp2
      go_ret
      exact ⟨rfl, HB.out⟩

set_option maxHeartbeats 1000000 in
theorem rcheck_no (n e p i j : Int) (w : World) (h : Hid (¬ Ok n e p i j)) :
    Calls Try.prog 39 #[.agg #[.int .i64 n, .int .i64 e, .int .i64 p, .int .i64 i, .int .i64 j]] w (Drew (.int .i64 1) w) := by
  have HC : Hid (∀ o k, k < 5 → ((w.alloc o).alloc (.cells #[.int .i64 n, .int .i64 e, .int .i64 p, .int .i64 i, .int .i64 j] 3)).cell? ⟨w.heap.size + 1, k, none⟩ = some (.int .i64 (cc n e p i j k))) := fun o k hk => five_cell w o n e p i j k hk
  go_enter Try.func39, Try.ntmps39
  go_wp2
  go_loopw [17] (fun c wr => ∃ k : Nat, k ≤ 5 ∧ c = .int .i64 k ∧ Hid (Below w.heap.size w wr) ∧ Hid (∀ k, k < 5 → wr.cell? ⟨w.heap.size + 1, k, none⟩ = some (.int .i64 (cc n e p i j k))) ∧ Hid (∀ m, m < k → 1 ≤ cc n e p i j m ∧ cc n e p i j m ≤ 64)) (fun c _ => 5 - (intOf c).toNat)
  case atStart => exact ⟨0, by omega, rfl, ((Below.refl _ _).alloc (Nat.le_refl _) _).alloc (by simp) _, fun k hk => HC.out _ k hk, fun m hm => absurd hm (by omega)⟩
  case round =>
    obtain ⟨k, hk, rfl, HB, HR, HA⟩ := hrel
    by_cases hlt : k < 5
    · have hi := HR.out k hlt
      by_cases g1 : cc n e p i j k < 1
      · generalize cc n e p i j k = x at hi g1
        have b1 : decide (x < 1) = true := by simpa using g1
        go_wp2
        go_ret
        exact ⟨rfl, HB.out⟩
      by_cases g2 : 64 < cc n e p i j k
      · generalize cc n e p i j k = x at hi g1 g2
        have b1 : decide (x < 1) = false := by simpa using g1
        have b2 : decide (64 < x) = true := by simpa using g2
        go_wp2
        go_ret
        exact ⟨rfl, HB.out⟩
      · have HA' : Hid (∀ m, m < k + 1 → 1 ≤ cc n e p i j m ∧ cc n e p i j m ≤ 64) := fun m hm => by
          by_cases hmk : m = k
          · subst hmk; omega
          · exact HA.out m (by omega)
        generalize cc n e p i j k = x at hi g1 g2
        have b1 : decide (x < 1) = false := by simpa using g1
        have b2 : decide (64 < x) = false := by simpa using g2
        go_wp2
        go_roundw
        case rel => exact ⟨k + 1, by omega, by go_num, HB, HR, HA'⟩
        case measure => simp [intOf]; omega
    · exfalso
      obtain rfl : k = 5 := by omega
      exact h.out ⟨HA.out 0 (by omega), HA.out 1 (by omega), HA.out 2 (by omega), HA.out 3 (by omega), HA.out 4 (by omega)⟩

/-- How many fields a record of a kind has. -/
def fl : Nat → Int
  | 0 => 4
  | 1 => 5
  | _ => 3
set_option maxHeartbeats 400000 in
theorem cap_is (n e p i j : Int) (k : Nat) (w : World) (hk : k < 3) :
    Calls Try.prog 40 #[.agg #[.int .i64 n, .int .i64 e, .int .i64 p, .int .i64 i, .int .i64 j], .int .i64 ((k : Int) + 1)] w (Drew (.tuple #[.int .i64 (ca n e p k), .int .i64 (fl k)]) w) := by
  match k, hk with
  | 0, _ =>
    show Calls Try.prog 40 #[.agg #[.int .i64 n, .int .i64 e, .int .i64 p, .int .i64 i, .int .i64 j], .int .i64 1] w (Drew (.tuple #[.int .i64 n, .int .i64 4]) w)
    go_enter Try.func40, Try.ntmps40
    go_wp2
    go_ret2
    exact ⟨rfl, (Below.refl _ _).alloc (Nat.le_refl _) _⟩
  | 1, _ =>
    show Calls Try.prog 40 #[.agg #[.int .i64 n, .int .i64 e, .int .i64 p, .int .i64 i, .int .i64 j], .int .i64 2] w (Drew (.tuple #[.int .i64 e, .int .i64 5]) w)
    go_enter Try.func40, Try.ntmps40
    go_wp2
    go_ret2
    exact ⟨rfl, (Below.refl _ _).alloc (Nat.le_refl _) _⟩
  | 2, _ =>
    show Calls Try.prog 40 #[.agg #[.int .i64 n, .int .i64 e, .int .i64 p, .int .i64 i, .int .i64 j], .int .i64 3] w (Drew (.tuple #[.int .i64 p, .int .i64 3]) w)
    go_enter Try.func40, Try.ntmps40
    go_wp2
    go_ret2
    exact ⟨rfl, (Below.refl _ _).alloc (Nat.le_refl _) _⟩

def szV (n e p : Int) : Value := .agg #[.int .i64 n, .int .i64 e, .int .i64 p]
theorem size67 : (Try.prog.info? 67).map (·.size) = some 3 := by kernel_rfl
set_option maxHeartbeats 400000 in
theorem sizes_any (n e p i j : Int) (w : World) :
    Calls Try.prog 36 #[.agg #[.int .i64 n, .int .i64 e, .int .i64 p, .int .i64 i, .int .i64 j]] w (Drew (szV n e p) w) := by
  go_enter Try.func36, Try.ntmps36
  go_wp2
  exact bodyPost_ret (v := szV n e p) (results_cell_row rfl _ _ (w.heap.size + 1) 67 _ (0, 0) _ rfl (heap_alloc2_new w _ _) Try.underlying67 rfl size67) rfl ⟨rfl, ((Below.refl _ _).alloc (Nat.le_refl _) _).alloc (by simp) _⟩

end Go.Proofs.Ythficfmakbblkaa.Place

/- What New tells: words. -/
namespace Go.Proofs.Ythficfmakbblkaa
open Go.RowKit
open Pool (Pl PL MayBe noP noPl Drew Told4 Row)
set_option linter.unusedVariables false
set_option maxRecDepth 100000

/-- The pools that are made, k of them. -/
def nX (a b c : Nat) (zs : List Int) (k : Nat) : SL := ⟨[], [], if 0 < k then Pool.newP a else noP, if 1 < k then Pool.newP b else noP, if 2 < k then Pool.newP c else noP, 0, zs⟩
def sz (a b c : Nat) : Nat → Nat
  | 0 => a
  | 1 => b
  | _ => c
theorem nX_next (a b c : Nat) (zs : List Int) {k : Nat} (hk : k < 3) : (nX a b c zs k).setPl k (Pool.newP (sz a b c k)) = nX a b c zs (k + 1) := by
  match k, hk with
  | 0, _ | 1, _ | 2, _ => rfl
theorem ca_sz (a b c : Nat) {k : Nat} (hk : k < 3) : Place.ca (a : Int) (b : Int) (c : Int) k = ((sz a b c k : Nat) : Int) := by
  match k, hk with
  | 0, _ | 1, _ | 2, _ => rfl
def nwOk (n e p i j t : Int) : Prop := Place.Ok n e p i j ∧ 1 ≤ t ∧ t ≤ 64
instance (n e p i j t : Int) : Decidable (nwOk n e p i j t) := by unfold nwOk Place.Ok; infer_instance
def nwE (n e p i j t : Int) : Int := if nwOk n e p i j t then 0 else 1
def nwX (n e p i j t : Int) : SL := if nwOk n e p i j t then nX n.toNat e.toNat p.toNat (List.replicate t.toNat (-1)) 3 else noS
theorem nw_no {n e p i j t : Int} (h : ¬ nwOk n e p i j t) : nwE n e p i j t = 1 ∧ nwX n e p i j t = noS := ⟨by unfold nwE; rw [if_neg h], by unfold nwX; rw [if_neg h]⟩
theorem nw_yes {n e p i j t : Int} (h : nwOk n e p i j t) : nwE n e p i j t = 0 ∧ nwX n e p i j t = nX n.toNat e.toNat p.toNat (List.replicate t.toNat (-1)) 3 := ⟨by unfold nwE; rw [if_pos h], by unfold nwX; rw [if_pos h]⟩

/-- Two boxes, the argument's and the result's, still empty. -/
structure Nb (w u : World) (cs : Array Value) : Prop where
  bel : Below w.heap.size w u
  box : u.heap[w.heap.size]? = some (.cells cs 23 (0, 0))
  res : SBox u (w.heap.size + 1) noSh
section
variable {w u u' : World} {cs : Array Value}
theorem Nb.first (w : World) (cs : Array Value) : Nb w ((w.alloc (.cells cs 23)).alloc (.cells zeros16 31)) cs :=
  ⟨((Below.refl _ _).alloc (Nat.le_refl _) _).alloc (by simp) _, heap_alloc2_old w _ _, heap_alloc2_new w _ _⟩
theorem Nb.size (h : Nb w u cs) : w.heap.size + 2 ≤ u.heap.size := by have := h.res.lt; omega
theorem Nb.step (h : Nb w u cs) (b : Below u.heap.size u u') : Nb w u' cs := ⟨Pool.next_call h.bel (Nat.le_refl _) b, (b.block _ (by have := h.size; omega)).trans h.box, h.res.step b⟩
theorem Nb.alloc (h : Nb w u cs) (o : Obj) : Nb w (u.alloc o) cs := h.step ((Below.refl _ _).alloc (Nat.le_refl _) _)
theorem Nb.cells (h : Nb w u cs) : ∀ i, u.cell? ⟨w.heap.size, i, none⟩ = cs[i]? := fun i => cell_of_row u _ i _ 23 (0, 0) h.box
theorem Nb.zero (h : Nb w u cs) :
    SBox (u.setRow (w.heap.size + 1) noSh.cs) (w.heap.size + 1) noSh ∧ Sees (u.setRow (w.heap.size + 1) noSh.cs) noSh noS ∧ Kin w noSh noSh ∧ Below w.heap.size w (u.setRow (w.heap.size + 1) noSh.cs) := by
  obtain ⟨x1, x2, x3⟩ := tell_row h.bel h.res (by omega) (noSh_sees u) fun hb => noSh_has hb
  exact ⟨x1, x2, fun b hb => (noSh_has hb).elim, x3⟩
/-- The era stands in a box, and what is told in another one. -/
theorem nb_first {A : Option Addr} {n c g B : Nat} {Z : List Int} (N : Nb w u cs) (R : Era.Row u B A n c Z) (hB : w.heap.size + 2 ≤ B) (E : Era.EBox u g (Era.C2 0 A n c)) :
    Tn w ((u.alloc (.cells zeros16 31)).setRow u.heap.size (noSh.setEra 0 ⟨A, n, c⟩).cs) noSh (nX 0 0 0 Z 0) (noSh.setEra 0 ⟨A, n, c⟩) u.heap.size g 0 A n c Z := by
  have hza : ∀ b, InA A n b → b < u.heap.size := fun b hb => nums_lt (zs := Z) R.reads.1 hb
  have hg4 := E.lt
  have hs := N.size
  have hh : ∀ b, (noSh.setEra 0 ⟨A, n, c⟩).Has b → InA A n b := fun b hb => by
    rcases has_setEra hb with x | x
    · exact (noSh_has x).elim
    · exact x
  have hn : ¬ (noSh.setEra 0 ⟨A, n, c⟩).Has u.heap.size := fun h => by have := hza _ (hh _ h); omega
  have hc : ∀ b i, InA A n b → ((u.alloc (.cells zeros16 31)).setRow u.heap.size (noSh.setEra 0 ⟨A, n, c⟩).cs).cell? ⟨b, i, none⟩ = u.cell? ⟨b, i, none⟩ := fun b i hb => by
    have := hza b hb
    rw [cell_setRow_other _ _ _ _ (by show b ≠ _; omega)]
    simp only [World.cell?]
    rw [Below.heap_alloc u _ b this]
  have S : Sees u (noSh.setEra 0 ⟨A, n, c⟩) (nX 0 0 0 Z 0) := (noSh_sees u).setEra (t := 0) R.reads
  exact ⟨below_setRow (N.bel.alloc N.bel.size _) N.bel.size _, (N.res.alloc _).far (by omega) _, setRow_heap _ _ _ _ 31 (0, 0) (heap_alloc_new _ _), (S.alloc _).row hn _,
    fun b hb => .inl ⟨by have := inA_row R (hh b hb); omega, fun e => hn (e ▸ hb)⟩, (setRow_other _ _ _ _ (by omega)).trans (E.alloc _), ⟨Era.Nums.more (nums_same R.reads.1 hc) (by simp), R.2⟩, fun b hb => by have := hza b hb; omega, N.bel.size, by omega, by omega, fun b hb => (noSh_has hb).elim⟩
theorem Nb.row (h : Nb w u cs) {g : Nat} (hg : w.heap.size + 2 ≤ g) (c : Array Value) : Nb w (u.setRow g c) cs :=
  ⟨below_setRow h.bel (by omega) _, (setRow_other _ _ _ _ (by omega)).trans h.box, h.res.far (by omega) _⟩
theorem Nb.cell (h : Nb w u cs) {g : Nat} (hg : w.heap.size + 2 ≤ g) (i : Nat) (v : Value) : Nb w (u.setCell ⟨g, i, none⟩ v) cs :=
  ⟨h.bel.setCell (p := ⟨g, i, none⟩) (by show _ ≤ g; omega) _, (heap_setCell_other _ _ _ _ (by show w.heap.size ≠ g; omega)).trans h.box, h.res.other (by omega) _ _⟩
theorem sz_at (a b c : Nat) {k : Nat} (hk : k < 3) : ∀ w, (Instr.index 67 (Place.szV (a : Int) (b : Int) (c : Int)) (.int .i64 (k : Int))).run Try.prog w = .ok (.int .i64 ((sz a b c k : Nat) : Int)) w := by
  intro w
  rw [← ca_sz a b c hk]
  exact Place.index41 _ _ _ k hk w
theorem sz_le {a b c : Nat} {i j : Int} (h : Place.Ok (a : Int) (b : Int) (c : Int) i j) {k : Nat} (hk : k < 3) : 1 ≤ sz a b c k ∧ sz a b c k ≤ 64 := by
  obtain ⟨⟨a1, a2⟩, ⟨b1, b2⟩, ⟨c1, c2⟩, _⟩ := h
  match k, hk with
  | 0, _ => exact ⟨by simp only [sz]; omega, by simp only [sz]; omega⟩
  | 1, _ => exact ⟨by simp only [sz]; omega, by simp only [sz]; omega⟩
  | 2, _ => exact ⟨by simp only [sz]; omega, by simp only [sz]; omega⟩
theorem nX_zero (a b c : Nat) (Z : List Int) : nX 0 0 0 Z 0 = nX a b c Z 0 := rfl
end

end Go.Proofs.Ythficfmakbblkaa

/- What New tells, the code's. -/
namespace Go.Proofs.Ythficfmakbblkaa
open Go.RowKit
open Pool (Pl PL MayBe noP noPl Drew Told4 Row)
set_option linter.unusedVariables false
set_option maxRecDepth 100000

set_option maxHeartbeats 4000000 in
theorem new_any (n e p i j t : Int) (w : World) :
    Calls Try.prog 11 #[.agg #[.int .i64 n, .int .i64 e, .int .i64 p, .int .i64 i, .int .i64 j], .int .i64 t] w (TellS w noSh (nwX n e p i j t) (fun v => .tuple #[v, .int .i64 (nwE n e p i j t)])) := by
  have N0 := hide (Nb.first w #[.int .i64 n, .int .i64 e, .int .i64 p, .int .i64 i, .int .i64 j])
  by_cases ho : Place.Ok n e p i j
  · have C0 := hide (Place.check_ok n e p i j ((w.alloc (.cells #[.int .i64 n, .int .i64 e, .int .i64 p, .int .i64 i, .int .i64 j] 23)).alloc (.cells zeros16 31)) ho)
    have hc := N0.out.cells
    go_enter Try.func11, Try.ntmps11
    go_wp2_with fail
    refine C0.out.mono ?_
    rintro r u1 ⟨rfl, b1⟩
    have N1 := hide (N0.out.step b1)
    clear b1 C0 N0 hc
    by_cases ht : 1 ≤ t ∧ t ≤ 64
    · have E := hide (nw_yes (t := t) ⟨ho, ht⟩)
      obtain ⟨TN, rfl⟩ : ∃ TN : Nat, t = (TN : Int) := ⟨t.toNat, by omega⟩
      obtain ⟨a, rfl⟩ : ∃ a : Nat, n = (a : Int) := ⟨n.toNat, by have := ho.1.1; omega⟩
      obtain ⟨b, rfl⟩ : ∃ b : Nat, e = (b : Int) := ⟨e.toNat, by have := ho.2.1.1; omega⟩
      obtain ⟨c, rfl⟩ : ∃ c : Nat, p = (c : Int) := ⟨p.toNat, by have := ho.2.2.1.1; omega⟩
      simp only [Int.toNat_natCast] at E
      have HO := hide ho
      have CE := hide (Era.new_ok TN u1 (by omega) (by omega))
      clear ho ht
      go_wp2_with fail
      refine CE.out.mono ?_
      rintro r u2 ⟨A, m, d, rfl, rz, b2⟩
      have N2 := hide (N1.out.step b2)
      have N3 := hide (N2.out.alloc (.cells (Era.C2 0 A m d) 29))
      have Z3 : Hid (Era.Row (u2.alloc (.cells (Era.C2 0 A m d) 29)) u1.heap.size A m d (List.replicate TN (-1))) := hide (rz.alloc _)
      have E3 := hide (Era.EBox.new u2 (Era.C2 0 A m d))
      have TT := hide (nb_first N3.out Z3.out N1.out.size E3.out)
      have ec := E3.out.cells
      have hsz : (u2.alloc (.cells (Era.C2 0 A m d) 29)).heap.size = u2.heap.size + 1 := by simp
      rw [hsz] at TT
      have NB := hide ((N3.out.alloc (.cells zeros16 31)).row (g := u2.heap.size + 1) (by have := N2.out.size; omega) (noSh.setEra 0 ⟨A, m, d⟩).cs)
      have hc := NB.out.cells
      have hl := NB.out.size
      have CZ : Hid (∀ u, Calls Try.prog 36 #[.agg #[.int .i64 (a : Int), .int .i64 (b : Int), .int .i64 (c : Int), .int .i64 i, .int .i64 j]] u (Drew (Place.szV (a : Int) (b : Int) (c : Int)) u)) := fun u => Place.sizes_any _ _ _ _ _ u
      clear b2 rz CE N1 N2 Z3 hsz N3
      go_wp2_with (first | ((with_reducible refine st31 (.tmp 9) (.tmp 28) (u2.heap.size + 1) ?_ (noSh.setEra 0 ⟨A, m, d⟩) ?_ noSh ?_ ?_); (exact rfl); (exact rfl); (exact heap_alloc2_new _ _ _)) | fail)
      refine (CZ.out _).mono ?_
      rintro r u3 ⟨rfl, b3⟩
      have TS := hide (TT.out.step b3)
      rw [nX_zero a b c] at TS
      clear b3 TT NB hc hl CZ ec E3
      generalize u2.heap.size + 1 = h at TS ⊢
      go_wp2_with fail
      go_loopw [8, 31] (fun r i wr => ∃ (k : Nat) (q : Sh), k ≤ 3 ∧ r = .int .i64 0 ∧ i = .int .i64 k ∧ Hid (Tn w wr noSh (nX a b c (List.replicate TN (-1)) k) q h u2.heap.size 0 A m d (List.replicate TN (-1)))) (fun _ i _ => 3 - (intOf i).toNat)
      case atStart => exact ⟨0, _, by omega, rfl, rfl, TS⟩
      case round =>
        obtain ⟨k, q, hk, rfl, rfl, TR⟩ := hrel
        clear TS
        by_cases hlt : k < 3
        · have hi := sz_at a b c hlt
          have hi0 : (0 : Int) ≤ (k : Int) := by omega
          have hi1 : (k : Int) < 3 := by omega
          obtain ⟨g1, g2⟩ := sz_le HO.out hlt
          have EN : Hid ((nX a b c (List.replicate TN (-1)) k).setPl k (Pool.newP (sz a b c k)) = nX a b c (List.replicate TN (-1)) (k + 1)) := nX_next _ _ _ _ hlt
          have CP := hide (Pool.new_ok (sz a b c k) wr g1 g2)
          have hlo := TR.out.own.lt
          have hre := TR.out.res.lt
          generalize sz a b c k = z at hi g1 g2 EN CP
          go_wp2_with fail
          refine CP.out.mono ?_
          rintro r uR ⟨p', rfl, oR, bR⟩
          have TU := hide (TR.out.step bR)
          obtain ⟨v0, v1, v2, v3, y0, f0, y1, f1, y2, f2, y3, f3⟩ := pool_room TU.out.own hlt
          have FN := hide (TU.out.put hlt oR.told (by omega) (by omega))
          rw [EN.out] at FN
          clear oR bR CP EN TR
          go_wp2
          go_roundw
          case rel => exact ⟨k + 1, _, by omega, rfl, by go_num, FN⟩
          case measure => simp [intOf]; omega
        · obtain rfl : k = 3 := by omega
          have ZT := hide TR.out.tell
          go_wp2_with (first | ((with_reducible refine ld31 (.tmp 9) h ?_ q ?_ ?_); (exact rfl); (exact TR.out.own)) | ((with_reducible refine st31 (.tmp 4) (.tmp 48) (w.heap.size + 1) ?_ q ?_ noSh ?_ ?_); (exact rfl); (exact rfl); (exact TR.out.res)))
          exact bodyPost_ret (Era.results_row_one rfl _ _ (w.heap.size + 1) 31 _ (0, 0) _ rfl ZT.out.1 Try.underlying31 rfl (cs_info _)) rfl ⟨q, by rw [E.out.1]; rfl, by rw [E.out.2]; exact ZT.out.2.1, ZT.out.2.2⟩
    · have E := hide (nw_no (n := n) (e := e) (p := p) (i := i) (j := j) (t := t) fun h => ht h.2)
      have CE := hide (Era.new_no t u1 (by omega))
      clear ho ht
      go_wp2_with fail
      refine CE.out.mono ?_
      rintro r u2 ⟨A, m, d, rfl, rz, b2⟩
      have N2 := hide ((N1.out.step b2).alloc (.cells (Era.C2 0 A m d) 29))
      clear b2 rz CE N1
      have Z := hide N2.out.zero
      go_wp2_with (first | ((with_reducible refine st31 (.tmp 4) (.tmp 25) (w.heap.size + 1) ?_ noSh ?_ noSh ?_ ?_); (exact rfl); (exact rfl); (exact N2.out.res)))
      exact bodyPost_ret (Era.results_row_one rfl _ _ (w.heap.size + 1) 31 _ (0, 0) _ rfl Z.out.1 Try.underlying31 rfl (cs_info _)) rfl ⟨noSh, by rw [E.out.1]; rfl, by rw [E.out.2]; exact Z.out.2.1, Z.out.2.2⟩
  · have C0 := hide (Place.check_no n e p i j ((w.alloc (.cells #[.int .i64 n, .int .i64 e, .int .i64 p, .int .i64 i, .int .i64 j] 23)).alloc (.cells zeros16 31)) ho)
    have E := hide (nw_no (t := t) fun h => ho h.1)
    have hc := N0.out.cells
    clear ho
    go_enter Try.func11, Try.ntmps11
    go_wp2_with fail
    refine C0.out.mono ?_
    rintro r u1 ⟨rfl, b1⟩
    have N1 := hide (N0.out.step b1)
    clear b1 C0 N0 hc
    have Z := hide N1.out.zero
    go_wp2_with (first | ((with_reducible refine st31 (.tmp 4) (.tmp 16) (w.heap.size + 1) ?_ noSh ?_ noSh ?_ ?_); (exact rfl); (exact rfl); (exact N1.out.res)))
    exact bodyPost_ret (Era.results_row_one rfl _ _ (w.heap.size + 1) 31 _ (0, 0) _ rfl Z.out.1 Try.underlying31 rfl (cs_info _)) rfl ⟨noSh, by rw [E.out.1]; rfl, by rw [E.out.2]; exact Z.out.2.1, Z.out.2.2⟩

end Go.Proofs.Ythficfmakbblkaa

/- What New tells, the document's. -/
namespace Go.Proofs.Ythficfmakbblkaa
open Go.RowKit
open Pool (Pl PL MayBe noP noPl Drew Told4 Row)
set_option linter.unusedVariables false
set_option maxRecDepth 100000

set_option maxHeartbeats 4000000 in
theorem rnew_any (n e p i j t : Int) (w : World) :
    Calls Try.prog 12 #[.agg #[.int .i64 n, .int .i64 e, .int .i64 p, .int .i64 i, .int .i64 j], .int .i64 t] w (TellS w noSh (nwX n e p i j t) (fun v => .tuple #[v, .int .i64 (nwE n e p i j t)])) := by
  have N0 := hide (Nb.first w #[.int .i64 n, .int .i64 e, .int .i64 p, .int .i64 i, .int .i64 j])
  by_cases ht : 1 ≤ t ∧ t ≤ 64
  · by_cases ho : Place.Ok n e p i j
    · have E := hide (nw_yes (t := t) ⟨ho, ht⟩)
      obtain ⟨TN, rfl⟩ : ∃ TN : Nat, t = (TN : Int) := ⟨t.toNat, by omega⟩
      obtain ⟨a, rfl⟩ : ∃ a : Nat, n = (a : Int) := ⟨n.toNat, by have := ho.1.1; omega⟩
      obtain ⟨b, rfl⟩ : ∃ b : Nat, e = (b : Int) := ⟨e.toNat, by have := ho.2.1.1; omega⟩
      obtain ⟨c, rfl⟩ : ∃ c : Nat, p = (c : Int) := ⟨p.toNat, by have := ho.2.2.1.1; omega⟩
      simp only [Int.toNat_natCast] at E
      have HO := hide ho
      have CC : Hid (∀ u, Calls Try.prog 39 #[.agg #[.int .i64 (a : Int), .int .i64 (b : Int), .int .i64 (c : Int), .int .i64 i, .int .i64 j]] u (Drew (.int .i64 0) u)) := fun u => Place.rcheck_ok _ _ _ _ _ u HO.out
      have CE : Hid (∀ u, Calls Try.prog 38 #[.int .i64 (TN : Int)] u (Era.Tell2 u 0 (List.replicate TN (-1)) (.int .i64 0))) := fun u => Era.rnew_ok TN u (by omega) (by omega)
      clear ho ht
      go_enter Try.func12, Try.ntmps12
      go_wp2_with fail
      refine (CE.out _).mono ?_
      rintro r u2 ⟨A, m, d, rfl, rz, b2⟩
      have N2 := hide (N0.out.step b2)
      have N3 := hide (N2.out.alloc (.cells (Era.C2 0 A m d) 29))
      have Z3 : Hid (Era.Row (u2.alloc (.cells (Era.C2 0 A m d) 29)) (w.heap.size + 2) A m d (List.replicate TN (-1))) := hide ((rz.alloc _).less (by simp))
      have E3 := hide (Era.EBox.new u2 (Era.C2 0 A m d))
      have hc := N3.out.cells
      have hs2 := N2.out.size
      clear b2 rz CE N0
      go_wp2_with fail
      refine (CC.out _).mono ?_
      rintro r u3 ⟨rfl, b3⟩
      have N4 := hide (N3.out.step b3)
      have Z4 := hide (Z3.out.below b3)
      have E4 := hide (E3.out.step b3)
      have TT := hide (nb_first N4.out Z4.out (Nat.le_refl _) E4.out)
      have ec := E4.out.cells
      have el := E4.out.lt
      have NB := hide ((N4.out.alloc (.cells zeros16 31)).row (g := u3.heap.size) N4.out.size (noSh.setEra 0 ⟨A, m, d⟩).cs)
      rw [nX_zero a b c] at TT
      clear b3 hc N2 N3 E3 Z3 Z4 E4 CC
      have hs4 := N4.out.size
      go_wp2_with (first | ((with_reducible refine st31 (.tmp 8) (.tmp 26) u3.heap.size ?_ (noSh.setEra 0 ⟨A, m, d⟩) ?_ noSh ?_ ?_); (exact rfl); (exact rfl); (exact heap_alloc_new _ _)) | fail)
      clear ec el N4
      generalize u3.heap.size = h at TT NB hs4 ⊢
      go_loopw [27] (fun i_ wr => ∃ (k : Nat) (q : Sh), k ≤ 3 ∧ i_ = .int .i64 k ∧ Hid (Nb w wr #[.int .i64 (a : Int), .int .i64 (b : Int), .int .i64 (c : Int), .int .i64 i, .int .i64 j]) ∧ Hid (Tn w wr noSh (nX a b c (List.replicate TN (-1)) k) q h u2.heap.size 0 A m d (List.replicate TN (-1)))) (fun i_ _ => 3 - (intOf i_).toNat)
      case atStart => exact ⟨0, _, by omega, rfl, NB, TT⟩
      case round =>
        obtain ⟨k, q, hk, rfl, NR, TR⟩ := hrel
        clear TT NB
        by_cases hlt : k < 3
        · have hi0 : (0 : Int) ≤ (k : Int) := by omega
          have hi1 : (k : Int) < 3 := by omega
          obtain ⟨g1, g2⟩ := sz_le HO.out hlt
          have EN : Hid ((nX a b c (List.replicate TN (-1)) k).setPl k (Pool.newP (sz a b c k)) = nX a b c (List.replicate TN (-1)) (k + 1)) := nX_next _ _ _ _ hlt
          have CP : Hid (∀ u, Calls Try.prog 41 #[.int .i64 ((sz a b c k : Nat) : Int)] u (Pool.TellE u (Pool.newP (sz a b c k)) 0)) := fun u => Pool.rnew_ok (sz a b c k) u g1 g2
          have CQ : Hid (Calls Try.prog 40 #[.agg #[.int .i64 (a : Int), .int .i64 (b : Int), .int .i64 (c : Int), .int .i64 i, .int .i64 j], .int .i64 ((k : Int) + 1)] wr (Drew (.tuple #[.int .i64 ((sz a b c k : Nat) : Int), .int .i64 (Place.fl k)]) wr)) := by
            have h := Place.cap_is (a : Int) (b : Int) (c : Int) i j k wr hlt
            rw [ca_sz a b c hlt] at h
            exact h
          have hc := NR.out.cells
          have hl := NR.out.size
          generalize sz a b c k = z at g1 g2 EN CP CQ
          go_wp2_with fail
          refine CQ.out.mono ?_
          rintro r uQ ⟨rfl, bQ⟩
          have NQ := hide (NR.out.step bQ)
          have TQ := hide (TR.out.step bQ)
          clear bQ hc hl NR TR CQ
          have hlo := TQ.out.own.lt
          have hre := TQ.out.res.lt
          go_wp2_with fail
          refine (CP.out _).mono ?_
          rintro r uR ⟨p', rfl, oR, bR⟩
          have TU := hide (TQ.out.step bR)
          have NU := hide (NQ.out.step bR)
          obtain ⟨v0, v1, v2, v3, y0, f0, y1, f1, y2, f2, y3, f3⟩ := pool_room TU.out.own hlt
          have FN := hide (TU.out.put hlt oR.told (by omega) (by omega))
          have NN := hide ((((NU.out.cell hs4 (2 + k * 4) (.slice p'.A0 p'.n0 p'.c0)).cell hs4 (2 + k * 4 + 1) (.slice p'.A1 p'.n1 p'.c1)).cell hs4 (2 + k * 4 + 2) (.slice p'.A2 p'.n2 p'.c2)).cell hs4 (2 + k * 4 + 3) (.slice p'.A3 p'.n3 p'.c3))
          rw [EN.out] at FN
          clear oR bR CP EN TQ NQ
          go_wp2
          go_roundw
          case rel => exact ⟨k + 1, _, by omega, by go_num, NN, FN⟩
          case measure => simp [intOf]; omega
        · obtain rfl : k = 3 := by omega
          have ZT := hide TR.out.tell
          go_wp2_with (first | ((with_reducible refine ld31 (.tmp 8) h ?_ q ?_ ?_); (exact rfl); (exact TR.out.own)) | ((with_reducible refine st31 (.tmp 4) (.tmp 46) (w.heap.size + 1) ?_ q ?_ noSh ?_ ?_); (exact rfl); (exact rfl); (exact TR.out.res)))
          exact bodyPost_ret (Era.results_row_one rfl _ _ (w.heap.size + 1) 31 _ (0, 0) _ rfl ZT.out.1 Try.underlying31 rfl (cs_info _)) rfl ⟨q, by rw [E.out.1]; rfl, by rw [E.out.2]; exact ZT.out.2.1, ZT.out.2.2⟩
    · have E := hide (nw_no (t := t) fun h => ho h.1)
      have CC : Hid (∀ u, Calls Try.prog 39 #[.agg #[.int .i64 n, .int .i64 e, .int .i64 p, .int .i64 i, .int .i64 j]] u (Drew (.int .i64 1) u)) := fun u => Place.rcheck_no _ _ _ _ _ u ho
      obtain ⟨TN, rfl⟩ : ∃ TN : Nat, t = (TN : Int) := ⟨t.toNat, by omega⟩
      have CE : Hid (∀ u, Calls Try.prog 38 #[.int .i64 (TN : Int)] u (Era.Tell2 u 0 (List.replicate TN (-1)) (.int .i64 0))) := fun u => Era.rnew_ok TN u (by omega) (by omega)
      clear ho ht
      go_enter Try.func12, Try.ntmps12
      go_wp2_with fail
      refine (CE.out _).mono ?_
      rintro r u2 ⟨A, m, d, rfl, rz, b2⟩
      have N3 := hide ((N0.out.step b2).alloc (.cells (Era.C2 0 A m d) 29))
      have hc := N3.out.cells
      have hl := (N0.out.step b2).size
      clear b2 rz CE N0
      go_wp2_with fail
      refine (CC.out _).mono ?_
      rintro r u3 ⟨rfl, b3⟩
      have N4 := hide (N3.out.step b3)
      clear b3 N3 hc CC
      have Z := hide N4.out.zero
      go_wp2_with (first | ((with_reducible refine st31 (.tmp 4) (.tmp 24) (w.heap.size + 1) ?_ noSh ?_ noSh ?_ ?_); (exact rfl); (exact rfl); (exact N4.out.res)))
      exact bodyPost_ret (Era.results_row_one rfl _ _ (w.heap.size + 1) 31 _ (0, 0) _ rfl Z.out.1 Try.underlying31 rfl (cs_info _)) rfl ⟨noSh, by rw [E.out.1]; rfl, by rw [E.out.2]; exact Z.out.2.1, Z.out.2.2⟩
  · have E := hide (nw_no (n := n) (e := e) (p := p) (i := i) (j := j) (t := t) fun h => ht h.2)
    obtain ⟨v, CC⟩ : ∃ v, Hid (∀ u, Calls Try.prog 39 #[.agg #[.int .i64 n, .int .i64 e, .int .i64 p, .int .i64 i, .int .i64 j]] u (Drew (.int .i64 v) u)) ∧ (v = 0 ∨ v = 1) := by
      by_cases ho : Place.Ok n e p i j
      · exact ⟨0, fun u => Place.rcheck_ok _ _ _ _ _ u ho, .inl rfl⟩
      · exact ⟨1, fun u => Place.rcheck_no _ _ _ _ _ u ho, .inr rfl⟩
    obtain ⟨CC, hv⟩ := CC
    have CE : Hid (∀ u, Calls Try.prog 38 #[.int .i64 t] u (Era.Tell2 u 0 [] (.int .i64 1))) := fun u => Era.rnew_no t u (by show _ ∨ _; omega)
    clear ht
    go_enter Try.func12, Try.ntmps12
    go_wp2_with fail
    refine (CE.out _).mono ?_
    rintro r u2 ⟨A, m, d, rfl, rz, b2⟩
    have N3 := hide ((N0.out.step b2).alloc (.cells (Era.C2 0 A m d) 29))
    have hc := N3.out.cells
    have hl := (N0.out.step b2).size
    clear b2 rz CE N0
    go_wp2_with fail
    refine (CC.out _).mono ?_
    rintro r u3 ⟨rfl, b3⟩
    have N4 := hide (N3.out.step b3)
    clear b3 N3 hc CC
    rcases hv with rfl | rfl
    · have Z := hide N4.out.zero
      go_wp2_with (first | ((with_reducible refine st31 (.tmp 4) (.tmp 24) (w.heap.size + 1) ?_ noSh ?_ noSh ?_ ?_); (exact rfl); (exact rfl); (exact N4.out.res)))
      exact bodyPost_ret (Era.results_row_one rfl _ _ (w.heap.size + 1) 31 _ (0, 0) _ rfl Z.out.1 Try.underlying31 rfl (cs_info _)) rfl ⟨noSh, by rw [E.out.1]; rfl, by rw [E.out.2]; exact Z.out.2.1, Z.out.2.2⟩
    · have Z := hide N4.out.zero
      go_wp2_with (first | ((with_reducible refine st31 (.tmp 4) (.tmp 24) (w.heap.size + 1) ?_ noSh ?_ noSh ?_ ?_); (exact rfl); (exact rfl); (exact N4.out.res)))
      exact bodyPost_ret (Era.results_row_one rfl _ _ (w.heap.size + 1) 31 _ (0, 0) _ rfl Z.out.1 Try.underlying31 rfl (cs_info _)) rfl ⟨noSh, by rw [E.out.1]; rfl, by rw [E.out.2]; exact Z.out.2.1, Z.out.2.2⟩

end Go.Proofs.Ythficfmakbblkaa

/- What the document's Same and Few tell. -/
namespace Go.Proofs.Ythficfmakbblkaa
open Go.RowKit
open Pool (Pl PL MayBe noP noPl Drew Told4 Row)
set_option linter.unusedVariables false
set_option maxRecDepth 100000

set_option maxHeartbeats 400000 in
theorem same_list (A A' : Option Addr) (n n' c c' B B' : Nat) (zs : List Int) (w : World) (h : Pool.Nums w B 1 A n zs) (h' : Pool.Nums w B' 1 A' n' zs) (hn : n ≤ 2000) :
    Calls Try.prog 42 #[.slice A n c, .slice A' n' c'] w (Drew (.bool true) w) := by
  obtain rfl : n = n' := by have h1 := h.1; have h2 := h'.1; omega
  have h0 : (((n : Nat) : Int) != (n : Int)) = false := by simp
  go_enter Try.func42, Try.ntmps42
  go_wp2
  go_loopw [13] (fun i wr => ∃ k q : Nat, k ≤ n ∧ i = .int .i64 k ∧ wr = w.drewN q) (fun i _ => n - (intOf i).toNat)
  case atStart => exact ⟨0, 0, by omega, rfl, rfl⟩
  case round =>
    obtain ⟨k, q, hk, rfl, rfl⟩ := hrel
    by_cases hlt : k < n
    · obtain ⟨b, off, rfl, _, hc⟩ := h.at_ hlt
      obtain ⟨b', off', rfl, _, hc'⟩ := h'.at_ hlt
      generalize zs.getD k 0 = z at hc hc'
      go_wp2
      go_quiet (fail)
      go_wp2
      go_roundw
      case rel => exact ⟨k + 1, _, by omega, by go_num, rfl⟩
      case measure => simp [intOf]; omega
    · go_wp2
      go_ret
      exact ⟨rfl, Pool.Below.drewN (Below.refl _ _) _⟩

/-- Two boxes, and what both read as. -/
structure Bo (w u : World) (s1 s2 : Sh) (X : SL) : Prop where
  bel : Below w.heap.size w u
  b1 : SBox u w.heap.size s1
  b2 : SBox u (w.heap.size + 1) s2
  s1 : Sees u s1 X
  s2 : Sees u s2 X
theorem Bo.first {w : World} {s1 s2 : Sh} {X : SL} (S1 : Sees w s1 X) (S2 : Sees w s2 X) : Bo w ((w.alloc (.cells s1.cs 31)).alloc (.cells s2.cs 31)) s1 s2 X :=
  ⟨((Below.refl _ _).alloc (Nat.le_refl _) _).alloc (by simp) _, (SBox.new w s1).alloc _, heap_alloc2_new w _ _, (S1.alloc _).alloc _, (S2.alloc _).alloc _⟩
theorem Bo.step {w u u' : World} {s1 s2 : Sh} {X : SL} (h : Bo w u s1 s2 X) (b : Below u.heap.size u u') : Bo w u' s1 s2 X := ⟨Pool.next_call h.bel (Nat.le_refl _) b, h.b1.step b, h.b2.step b, h.s1.step b, h.s2.step b⟩
theorem Bo.drew {w u : World} {s1 s2 : Sh} {X : SL} (h : Bo w u s1 s2 X) : Bo w u.drew s1 s2 X := h.step (Below.refl _ _).drew

set_option maxHeartbeats 4000000 in
theorem same_yes (s1 s2 : Sh) (X : SL) (w : World) (S1 : Sees w s1 X) (S2 : Sees w s2 X) (F : Few X) :
    Calls Try.prog 13 #[s1.val, s2.val] w (Drew (.bool true) w) := by
  have B0 := hide (Bo.first S1 S2)
  have HF := hide F
  clear S1 S2 F
  go_enter Try.func13, Try.ntmps13
  go_wp2_with fail
  go_loopw [6] (fun i wr => ∃ k : Nat, k ≤ 3 ∧ i = .int .i64 k ∧ Hid (Bo w wr s1 s2 X)) (fun i _ => 3 - (intOf i).toNat)
  case atStart => exact ⟨0, by omega, rfl, B0⟩
  case round =>
    obtain ⟨k, hk, rfl, BR⟩ := hrel
    clear B0
    by_cases hlt : k < 3
    · have hi0 : (0 : Int) ≤ (k : Int) := by omega
      have hi1 : (k : Int) < 3 := by omega
      obtain ⟨p0, p1, p2, p3⟩ := BR.out.b1.pool hlt
      obtain ⟨q0, q1, q2, q3⟩ := BR.out.b2.pool hlt
      have l1 := BR.out.b1.lt
      have l2 := BR.out.b2.lt
      have BD := hide BR.out.drew
      have CP := hide (Pool.samep_yes (s1.pl k) (s2.pl k) (X.pl k) _ _ wr.drew (BD.out.s1.p k hlt) (BD.out.s2.p k hlt) (Nat.le_refl _) (Nat.le_refl _) (small_of (BD.out.s1.p k hlt) (HF.out.p k hlt)))
      go_wp2_with fail
      go_region_with (first | (go_at_call 30; refine CP.out.mono ?_; rintro e u1 ⟨rfl, b1⟩; have BU := hide (BD.out.step b1)))
      all_goals
        clear b1 BD CP p0 p1 p2 p3 q0 q1 q2 q3 l1 l2 BR
        go_wp2
        go_roundw
        case rel => exact ⟨k + 1, by omega, by go_num, BU⟩
        case measure => simp [intOf]; omega
    · obtain ⟨e0, e1⟩ := BR.out.b1.era
      obtain ⟨f0, f1⟩ := BR.out.b2.era
      rw [BR.out.s1.t] at e0
      rw [BR.out.s2.t] at f0
      have l1 := BR.out.b1.lt
      have l2 := BR.out.b2.lt
      have CE := hide (Era.samee_yes X.T s1.z.A s2.z.A s1.z.n s2.z.n s1.z.c s2.z.c _ _ X.Z wr BR.out.s1.z BR.out.s2.z (Nat.le_refl _) (Nat.le_refl _) (by rw [← BR.out.s1.z.len]; exact HF.out.z))
      go_wp2_with fail
      refine CE.out.mono ?_
      rintro e u1 ⟨rfl, b1⟩
      have BU := hide (BR.out.step b1)
      clear b1 CE e0 e1 f0 f1 l1 l2 BR
      have e0 : u1.cell? ⟨w.heap.size, 0, none⟩ = some (.slice s1.m.A s1.m.n s1.m.c) := BU.out.b1.cells 0
      have f0 : u1.cell? ⟨w.heap.size + 1, 0, none⟩ = some (.slice s2.m.A s2.m.n s2.m.c) := BU.out.b2.cells 0
      have l1 := BU.out.b1.lt
      have l2 := BU.out.b2.lt
      have CM := hide (same_list s1.m.A s2.m.A s1.m.n s2.m.n s1.m.c s2.m.c _ _ X.M u1 BU.out.s1.m BU.out.s2.m (by have := BU.out.s1.m.1; have := HF.out.m; omega))
      go_wp2_with fail
      refine CM.out.mono ?_
      rintro e u2 ⟨rfl, b2⟩
      have BV := hide (BU.out.step b2)
      clear b2 CM e0 f0 l1 l2 BU
      have e0 : u2.cell? ⟨w.heap.size, 1, none⟩ = some (.slice s1.l.A s1.l.n s1.l.c) := BV.out.b1.cells 1
      have f0 : u2.cell? ⟨w.heap.size + 1, 1, none⟩ = some (.slice s2.l.A s2.l.n s2.l.c) := BV.out.b2.cells 1
      have l1 := BV.out.b1.lt
      have l2 := BV.out.b2.lt
      have CL := hide (same_list s1.l.A s2.l.A s1.l.n s2.l.n s1.l.c s2.l.c _ _ X.L u2 BV.out.s1.l BV.out.s2.l (by have := BV.out.s1.l.1; have := HF.out.l; omega))
      go_wp2_with fail
      refine CL.out.mono ?_
      rintro e u3 ⟨rfl, b3⟩
      have BW := hide (BV.out.step b3)
      clear b3 CL e0 f0 l1 l2 BV
      go_wp2
      go_ret
      exact ⟨rfl, BW.out.bel⟩

/-- What Few asks. -/
def FewP (p : Pl) : Prop := p.n0 ≤ 200 ∧ p.n1 ≤ 200 ∧ p.n2 ≤ 200 ∧ p.n3 ≤ 200
def FewV (s : Sh) : Prop := (∀ k, k < 3 → FewP (s.pl k)) ∧ s.z.n ≤ 200 ∧ s.m.n ≤ 2000 ∧ s.l.n ≤ 200
theorem few_of {w : World} {s : Sh} {X : SL} (S : Sees w s X) (h : FewV s) : Few X := by
  obtain ⟨hp, hz, hm, hl⟩ := h
  refine ⟨by have := S.m.1; omega, by have := S.l.1; omega, fun k hk => ?_, by rw [S.z.len]; exact hz⟩
  have R := S.p k hk
  obtain ⟨h0, h1, h2, h3⟩ := hp k hk
  have g0 := R.g.1
  have g1 := R.s.1
  have g2 := R.t.1
  have g3 := R.f.1
  exact ⟨by omega, by omega, by omega, by omega⟩
theorem fewp_any (p : Pl) (f : Bool) (w : World) (hf : Hid (f = true ↔ FewP p)) : Calls Try.prog 33 #[p.val] w (Drew (.bool f) w) := by
  cases f with
  | true => obtain ⟨h0, h1, h2, h3⟩ := hf.out.1 rfl; exact Pool.few_yes _ _ _ _ _ _ _ _ _ _ _ _ w h0 h1 h2 h3
  | false => exact Pool.few_no _ _ _ _ _ _ _ _ _ _ _ _ w fun h => absurd (hf.out.2 h) (by simp)

set_option maxHeartbeats 4000000 in
theorem few_any (s : Sh) (f : Bool) (w : World) (hf : Hid (f = true ↔ FewV s)) :
    Calls Try.prog 10 #[s.val] w (Drew (.bool f) w) := by
  have X0 := hide (SBox.new w s)
  have B0 := hide ((Below.refl w.heap.size w).alloc (Nat.le_refl _) (.cells s.cs 31))
  go_enter Try.func10, Try.ntmps10
  go_wp2_with ((with_reducible refine ld27 (.tmp 5) w.heap.size ?_ s ?_ ?_); (exact rfl); (exact X0.out))
  go_loopw [7] (fun i wr => ∃ k : Nat, k ≤ 3 ∧ i = .int .i64 k ∧ Hid (SBox wr w.heap.size s) ∧ Hid (Below w.heap.size w wr) ∧ Hid (∀ j, j < k → FewP (s.pl j))) (fun i _ => 3 - (intOf i).toNat)
  case atStart => exact ⟨0, by omega, rfl, X0, B0, fun j hj => absurd hj (by omega)⟩
  case round =>
    obtain ⟨k, hk, rfl, XB, HB, HA⟩ := hrel
    clear X0 B0
    by_cases hlt : k < 3
    · have hi := ps_at s k hlt
      obtain ⟨b', hb'⟩ := Pool.bool_of (FewP (s.pl k))
      have HB' := hide hb'
      clear hb'
      have XA := hide (XB.out.alloc (.cells (s.pl k).cs 26))
      have HBA := hide (HB.out.alloc HB.out.size (.cells (s.pl k).cs 26))
      have CF : Hid (Calls Try.prog 33 #[(s.pl k).val] (wr.alloc (.cells (s.pl k).cs 26)) _) := hide (fewp_any (s.pl k) b' _ HB')
      generalize s.pl k = p at hi XA HBA CF
      have hsz := HB.out.size
      go_wp2_with fail
      refine CF.out.mono ?_
      rintro e u1 ⟨rfl, b1⟩
      have X2 := hide (XA.out.step b1)
      have HB2 := hide (Pool.next_call HBA.out (Nat.le_refl _) b1)
      clear b1 hi XA HBA CF
      cases b' with
      | true =>
        have HA' : Hid (∀ j, j < k + 1 → FewP (s.pl j)) := fun j hj => by
          rcases Nat.lt_or_ge j k with h | h
          · exact HA.out j h
          · obtain rfl : j = k := by omega
            exact HB'.out.1 rfl
        clear HB' hf
        go_wp2
        go_roundw
        case rel => exact ⟨k + 1, by omega, by go_num, X2, HB2, HA'⟩
        case measure => simp [intOf]; omega
      | false =>
        have E : Hid (f = false) := by
          show _ = _
          cases f with
          | false => rfl
          | true => exact absurd (HB'.out.2 ((hf.out.1 rfl).1 k hlt)) (by simp)
        clear HB' hf
        go_wp2
        go_ret
        exact ⟨by rw [E.out]; rfl, HB2.out⟩
    · have e0 : wr.cell? ⟨w.heap.size, 15, none⟩ = some (.slice s.z.A s.z.n s.z.c) := XB.out.cells 15
      have e1 : wr.cell? ⟨w.heap.size, 0, none⟩ = some (.slice s.m.A s.m.n s.m.c) := XB.out.cells 0
      have e2 : wr.cell? ⟨w.heap.size, 1, none⟩ = some (.slice s.l.A s.l.n s.l.c) := XB.out.cells 1
      have ls := XB.out.lt
      have HA3 : Hid (∀ j, j < 3 → FewP (s.pl j)) := fun j hj => HA.out j (by omega)
      clear HA
      by_cases h1 : s.z.n ≤ 200
      · by_cases h2 : s.m.n ≤ 2000
        · by_cases h3 : s.l.n ≤ 200
          · obtain rfl : f = true := hf.out.2 ⟨HA3.out, h1, h2, h3⟩
            clear hf
            have t3 : decide ((s.l.n : Int) ≤ 200) = true := by simp; omega
            go_wp2
            go_ret
            exact ⟨rfl, HB.out⟩
          · obtain rfl : f = false := by
              cases f with
              | false => rfl
              | true => exact absurd (hf.out.1 rfl).2.2.2 h3
            clear hf
            have t3 : decide ((s.l.n : Int) ≤ 200) = false := by simp; omega
            go_wp2
            go_ret
            exact ⟨rfl, HB.out⟩
        · obtain rfl : f = false := by
            cases f with
            | false => rfl
            | true => exact absurd (hf.out.1 rfl).2.2.1 h2
          clear hf
          have t3 : decide (s.m.n ≤ 2000) = false := by simpa using h2
          go_wp2
          go_ret
          exact ⟨rfl, HB.out⟩
      · obtain rfl : f = false := by
          cases f with
          | false => rfl
          | true => exact absurd (hf.out.1 rfl).2.1 h1
        clear hf
        have t3 : decide (s.z.n ≤ 200) = false := by simpa using h1
        go_wp2
        go_ret
        exact ⟨rfl, HB.out⟩

end Go.Proofs.Ythficfmakbblkaa

/- The chapter's example is live. -/
namespace Go.Proofs.Ythficfmakbblkaa
open Go.RowKit
open Pool (Pl PL MayBe noP noPl Drew Told4 Row)
set_option linter.unusedVariables false
set_option maxRecDepth 100000

/-- In world u block h is the box of s, which reads as X; what lay below w's end is as it was. -/
structure St (w u : World) (h : Nat) (s : Sh) (X : SL) : Prop where
  bel : Below w.heap.size w u
  ge : w.heap.size ≤ h
  box : SBox u h s
  sees : Sees u s X
  off : ¬ s.Has h
section
variable {w u u' : World} {h g : Nat} {s s' : Sh} {X X' : SL}
theorem St.first (b : Below w.heap.size w u) (S : Sees u s X) : St w ((u.alloc (.cells zeros16 31)).setRow u.heap.size s.cs) u.heap.size s X := by
  have hn : ¬ s.Has u.heap.size := fun h => by have := S.lt h; omega
  exact ⟨below_setRow (b.alloc b.size _) b.size _, b.size, setRow_heap _ _ _ _ 31 (0, 0) (heap_alloc_new _ _), (S.alloc _).row hn _, hn⟩
theorem St.arg (S : Sees w s X) : St w (w.alloc (.cells s.cs 31)) w.heap.size s X := by
  have hn : ¬ s.Has w.heap.size := fun h => by have := S.lt h; omega
  exact ⟨(Below.refl _ _).alloc (Nat.le_refl _) _, Nat.le_refl _, SBox.new w s, S.alloc _, hn⟩
theorem St.step (T : St w u h s X) (b : Below u.heap.size u u') : St w u' h s X := ⟨Pool.next_call T.bel (Nat.le_refl _) b, T.ge, T.box.step b, T.sees.step b, T.off⟩
theorem St.alloc (T : St w u h s X) (o : Obj) : St w (u.alloc o) h s X := T.step ((Below.refl _ _).alloc (Nat.le_refl _) _)
theorem St.drew (T : St w u h s X) : St w u.drew h s X := T.step (Below.refl _ _).drew
/-- Another box is written. -/
theorem St.row (T : St w u h s X) (hw : w.heap.size ≤ g) (hg : h ≠ g) (hn : ¬ s.Has g) (cs : Array Value) : St w (u.setRow g cs) h s X := ⟨below_setRow T.bel hw _, T.ge, T.box.far hg _, T.sees.row hn _, T.off⟩
/-- A box that was just laid. -/
theorem St.side (T : St w u h s X) (b : Below u.heap.size u u') (cs : Array Value) : St w ((u'.alloc (.cells zeros16 31)).setRow u'.heap.size cs) h s X := by
  have h1 := (T.step b).box.lt
  have h2 := (T.step b).bel.size
  exact ((T.step b).alloc _).row h2 (by omega) (fun hb => by have := (T.step b).sees.lt hb; omega) _
/-- What was told is laid into the box. -/
theorem St.next (T : St w u h s X) (S : Sees u' s' X') (K : Kin u s s') (b : Below u.heap.size u u') : St w (u'.setRow h s'.cs) h s' X' := by
  have h1 := T.box.lt
  have hn : ¬ s'.Has h := fun hb => by
    rcases K h hb with x | x
    · omega
    · exact T.off x
  exact ⟨below_setRow (Pool.next_call T.bel (Nat.le_refl _) b) T.ge _, T.ge, (T.box.step b).put _, S.row hn _, hn⟩
end

def pA : PL := ⟨[0], [0], [0], [0]⟩
def pB : PL := ⟨[0], [1], [0], []⟩
def pC : PL := ⟨[0], [2], [0], []⟩
def pD : PL := ⟨[1], [0], [0], [0]⟩
def pE : PL := ⟨[1], [1], [0], []⟩
def lL (p : PL) (t : Int) : SL := ⟨[], [], pA, p, pA, t, [-1]⟩
theorem mayC : MayBe pC := by
  refine ⟨by simp [pC], by simp [pC], by simp [pC], by simp [pC], fun k hk => ?_, ?_, by simp [pC], ?_⟩
  · obtain rfl : k = 0 := by simp [pC] at hk; omega
    simp [Pool.SlotOk, pC]
  · simp [pC]
  · intro k hk h
    obtain rfl : k = 0 := by simp [pC] at hk; omega
    simp [pC] at h
theorem okL {p : PL} {t : Int} (hp : MayBe p) (h0 : 0 ≤ t) (h1 : t ≤ 2) : OkS (lL p t) :=
  ⟨three (P := fun k => MayBe ((lL p t).pl k)) Pool.may0 hp Pool.may0, ⟨h0, by show t ≤ _; omega⟩, ⟨by simp [lL], by simp [lL]⟩, fun z hz => by
    have : z = -1 := by simpa [lL] using hz
    exact .inl this⟩
theorem fewL {p : PL} {t : Int} (hp : MayBe p) : Few (lL p t) := by
  refine ⟨by simp [lL], by simp [lL], three (P := fun k => Pool.Few ((lL p t).pl k)) (Pool.few_may Pool.may0) (Pool.few_may hp) (Pool.few_may Pool.may0), by simp [lL]⟩
theorem stepL (p : PL) (t : Int) : Era.Step (lL p t).T (lL p t).Z := fun z hz => .inl (by simpa [lL] using hz)

section
variable {w : World} {s : Sh}
theorem live_new (w : World) : Calls Try.prog 11 #[.agg #[.int .i64 1, .int .i64 1, .int .i64 1, .int .i64 2, .int .i64 1], .int .i64 1] w (TellS w noSh (lL pA 0) (fun v => .tuple #[v, .int .i64 0])) := new_any 1 1 1 2 1 1 w
theorem live_take (S : Sees w s (lL pA 0)) : Calls Try.prog 16 #[s.val, .int .i64 2] w (TellS w s (lL pB 0) (fun v => .tuple #[v, .int .i64 1, .int .i64 0])) :=
  take_any s _ true 2 w S (fewL Pool.may0) (Era.yes_of (okL Pool.may0 (by omega) (by omega)))
theorem live_retire (S : Sees w s (lL pB 0)) : Calls Try.prog 18 #[s.val, .int .i64 2, .int .i64 1] w (TellS w s (lL pC 0) (fun v => .tuple #[v, .int .i64 0])) :=
  retire_any s _ true 2 1 w S (fewL Pool.may1) (Era.yes_of (okL Pool.may1 (by omega) (by omega)))
theorem live_turn (S : Sees w s (lL pC 0)) : Calls Try.prog 24 #[s.val] w (TellS w s (lL pC 1) (fun v => .tuple #[v, .bool true])) :=
  turn_any s _ true true w S (fewL mayC) (Era.yes_of (okL mayC (by omega) (by omega))) (Era.yes_of (stepL _ _))
theorem live_full (S : Sees w s (lL pC 1)) : Calls Try.prog 16 #[s.val, .int .i64 2] w (TellS w s noS (fun v => .tuple #[v, .int .i64 0, .int .i64 3])) :=
  take_any s _ true 2 w S (fewL mayC) (Era.yes_of (okL mayC (by omega) (by omega)))
theorem live_turn2 (S : Sees w s (lL pC 1)) : Calls Try.prog 24 #[s.val] w (TellS w s (lL pD 2) (fun v => .tuple #[v, .bool true])) :=
  turn_any s _ true true w S (fewL mayC) (Era.yes_of (okL mayC (by omega) (by omega))) (Era.yes_of (stepL _ _))
theorem live_again (S : Sees w s (lL pD 2)) : Calls Try.prog 16 #[s.val, .int .i64 2] w (TellS w s (lL pE 2) (fun v => .tuple #[v, .int .i64 1025, .int .i64 0])) :=
  take_any s _ true 2 w S (fewL Pool.may3) (Era.yes_of (okL Pool.may3 (by omega) (by omega)))
end

set_option maxHeartbeats 400000 in
theorem plain_any (w : World) : Calls Try.prog 32 #[] w (Drew (.agg #[.int .i64 1, .int .i64 1, .int .i64 1, .int .i64 2, .int .i64 1]) w) := by
  go_enter Try.func32, Try.ntmps32
  go_wp2
  exact bodyPost_ret (results_cell_row rfl _ _ w.heap.size 23 _ (0, 0) _ rfl (heap_alloc_new w _) Try.underlying23 rfl (by kernel_rfl)) rfl ⟨rfl, (Below.refl _ _).alloc (Nat.le_refl _) _⟩

set_option maxHeartbeats 4000000 in
theorem live_yes (w : World) : Calls Try.prog 9 #[] w (Drew (.bool true) w) := by
  go_enter Try.func9, Try.ntmps9
  go_wp2_with fail
  refine (plain_any w).mono ?_
  rintro e u0 ⟨rfl, b0⟩
  go_wp2_with fail
  refine (live_new u0).mono ?_
  rintro e u1 ⟨s1, rfl, S1, K1, b1⟩
  have T1 := hide (St.first (Pool.next_call b0 (Nat.le_refl _) b1) S1)
  clear b0 S1 K1 b1
  go_wp2_with (first | ((with_reducible refine st31 (.tmp 1) (.tmp 17) u1.heap.size ?_ s1 ?_ noSh ?_ ?_); (exact rfl); (exact rfl); (exact heap_alloc_new _ _)) | ((with_reducible refine ld31 (.tmp 1) u1.heap.size ?_ s1 ?_ ?_); (exact rfl); (exact T1.out.box)))
  refine (live_take T1.out.sees).mono ?_
  rintro e u2 ⟨s2, rfl, S, K, b⟩
  have BX := hide (T1.out.box.step b)
  have T2 := hide (T1.out.next S K b)
  clear S K b T1
  go_wp2_with (first | ((with_reducible refine st31 (.tmp 1) (.tmp 22) u1.heap.size ?_ s2 ?_ s1 ?_ ?_); (exact rfl); (exact rfl); (exact BX.out)) | ((with_reducible refine ld31 (.tmp 1) u1.heap.size ?_ s2 ?_ ?_); (exact rfl); (exact T2.out.box)))
  refine (live_retire T2.out.sees).mono ?_
  rintro e u3 ⟨s3, rfl, S, K, b⟩
  have BX := hide (T2.out.box.step b)
  have T3 := hide (T2.out.next S K b)
  clear S K b T2
  go_wp2_with (first | ((with_reducible refine st31 (.tmp 1) (.tmp 29) u1.heap.size ?_ s3 ?_ s2 ?_ ?_); (exact rfl); (exact rfl); (exact BX.out)) | ((with_reducible refine ld31 (.tmp 1) u1.heap.size ?_ s3 ?_ ?_); (exact rfl); (exact T3.out.box)))
  refine (live_turn T3.out.sees).mono ?_
  rintro e u4 ⟨s4, rfl, S, K, b⟩
  have BX := hide (T3.out.box.step b)
  have T4 := hide (T3.out.next S K b)
  clear S K b T3
  go_wp2_with (first | ((with_reducible refine st31 (.tmp 1) (.tmp 34) u1.heap.size ?_ s4 ?_ s3 ?_ ?_); (exact rfl); (exact rfl); (exact BX.out)) | ((with_reducible refine ld31 (.tmp 1) u1.heap.size ?_ s4 ?_ ?_); (exact rfl); (exact T4.out.box)))
  refine (live_full T4.out.sees).mono ?_
  rintro e u5 ⟨s5, rfl, S, K, b⟩
  have T5 := hide (T4.out.side b s5.cs)
  clear S K b
  go_wp2_with (first | ((with_reducible refine st31 (.tmp 7) (.tmp 39) u5.heap.size ?_ s5 ?_ noSh ?_ ?_); (exact rfl); (exact rfl); (exact heap_alloc_new _ _)) | ((with_reducible refine ld31 (.tmp 1) u1.heap.size ?_ s4 ?_ ?_); (exact rfl); (exact T5.out.box)))
  refine (live_turn2 T5.out.sees).mono ?_
  rintro e u6 ⟨s6, rfl, S, K, b⟩
  have BX := hide (T5.out.box.step b)
  have T6 := hide (T5.out.next S K b)
  clear S K b T5
  go_wp2_with (first | ((with_reducible refine st31 (.tmp 1) (.tmp 45) u1.heap.size ?_ s6 ?_ s4 ?_ ?_); (exact rfl); (exact rfl); (exact BX.out)) | ((with_reducible refine ld31 (.tmp 1) u1.heap.size ?_ s6 ?_ ?_); (exact rfl); (exact T6.out.box)))
  refine (live_again T6.out.sees).mono ?_
  rintro e u7 ⟨s7, rfl, S, K, b⟩
  have T7 := hide (T6.out.side b s7.cs)
  clear S K b
  go_wp2_with (first | ((with_reducible refine st31 (.tmp 11) (.tmp 50) u7.heap.size ?_ s7 ?_ noSh ?_ ?_); (exact rfl); (exact rfl); (exact heap_alloc_new _ _)))
  go_ret
  exact ⟨rfl, T7.out.bel⟩

end Go.Proofs.Ythficfmakbblkaa

/- What the rows' frames share: what is shared, and a configuration, opened. No conditions. -/
namespace Go.Proofs.Ythficfmakbblkaa
open Go.Joins Go.ChangeShapes Go.WideShapes Go.ChangeAt Go.RowKit Go.Deep
open Pool (Pl PL)
set_option maxRecDepth 100000
set_option linter.unusedVariables false

theorem cells23 : Try.prog.cellsOf 23 = 5 := by kernel_rfl
theorem cells27 : Try.prog.cellsOf 27 = 12 := by kernel_rfl
theorem cells29 : Try.prog.cellsOf 29 = 2 := by kernel_rfl
theorem cells31 : Try.prog.cellsOf 31 = 16 := by kernel_rfl
theorem own : ownKnob Try.prog.godebug = none := by kernel_rfl
theorem laidOut : laidOutB Try.prog = true := by kernel_rfl

section
variable {H : Type} {enc : TypeId × Value → H} {w : World} {base : Nat} {held : Bool}
theorem pool_of {m : Nat} {cs : List Value} {y : DataW H × List MemPlace} (hf : DataW.trod enc Try.prog w base (fun _ => true) held m 26 cs = some y) : ∃ (p : Pl) (P : PL), cs = [.slice p.A0 p.n0 p.c0, .slice p.A1 p.n1 p.c1, .slice p.A2 p.n2 p.c2, .slice p.A3 p.n3 p.c3] ∧ Pool.Reads w w.heap.size p P := by
  obtain ⟨xs, m', _, hx, hl, hlen, hg⟩ := DataW.trod_struct Try.underlying26 hf
  rw [Pool.cells26] at hl
  match cs, hl with
  | [v0, v1, v2, v3], _ =>
    match xs, hlen with
    | [y0, y1, y2, y3], _ =>
      have g0 : DataW.trod enc Try.prog w base (fun _ => true) held m' 24 (([v0, v1, v2, v3].drop 0).take (Try.prog.cellsOf 24)) = some y0 := hg 0 _ rfl
      have g1 : DataW.trod enc Try.prog w base (fun _ => true) held m' 24 (([v0, v1, v2, v3].drop 1).take (Try.prog.cellsOf 24)) = some y1 := hg 1 _ rfl
      have g2 : DataW.trod enc Try.prog w base (fun _ => true) held m' 24 (([v0, v1, v2, v3].drop 2).take (Try.prog.cellsOf 24)) = some y2 := hg 2 _ rfl
      have g3 : DataW.trod enc Try.prog w base (fun _ => true) held m' 24 (([v0, v1, v2, v3].drop 3).take (Try.prog.cellsOf 24)) = some y3 := hg 3 _ rfl
      rw [Pool.cells24] at g0 g1 g2 g3
      obtain ⟨A0, n0, c0, z0, e0, k0⟩ := Pool.flat_of g0
      obtain ⟨A1, n1, c1, z1, e1, k1⟩ := Pool.flat_of g1
      obtain ⟨A2, n2, c2, z2, e2, k2⟩ := Pool.flat_of g2
      obtain ⟨A3, n3, c3, z3, e3, k3⟩ := Pool.flat_of g3
      simp at e0 e1 e2 e3
      subst e0 e1 e2 e3
      exact ⟨⟨A0, A1, A2, A3, n0, n1, n2, n3, c0, c1, c2, c3⟩, ⟨z0, z1, z2, z3⟩, rfl, k0.1, k1.1, k2.1, k3.1, k0.2.2.1, k1.2.2.1, k2.2.2.1, k3.2.2.1⟩

theorem era_of {m : Nat} {cs : List Value} {y : DataW H × List MemPlace} (hf : DataW.trod enc Try.prog w base (fun _ => true) held m 29 cs = some y) : ∃ (t : Int) (z : Sl) (zs : List Int), cs = [.int .i64 t, .slice z.A z.n z.c] ∧ (Lit.int .i64 t).wf = true ∧ Era.Reads w w.heap.size z.A z.n z.c zs := by
  obtain ⟨xs, m', _, hx, hl, hlen, hg⟩ := DataW.trod_struct Try.underlying29 hf
  rw [cells29] at hl
  match cs, hl with
  | [v0, v1], _ =>
    match xs, hlen with
    | [y0, y1], _ =>
      have g0 : DataW.trod enc Try.prog w base (fun _ => true) held m' 3 (([v0, v1].drop 0).take (Try.prog.cellsOf 3)) = some y0 := hg 0 _ rfl
      have g1 : DataW.trod enc Try.prog w base (fun _ => true) held m' 24 (([v0, v1].drop 1).take (Try.prog.cellsOf 24)) = some y1 := hg 1 _ rfl
      rw [Pool.cells3] at g0
      rw [Pool.cells24] at g1
      obtain ⟨z, e0, hw⟩ := Pool.elem3 g0 0 (by omega)
      obtain ⟨A1, n1, c1, z1, e1, k1⟩ := Pool.flat_of g1
      simp at e0 e1
      subst e0 e1
      exact ⟨z, ⟨A1, n1, c1⟩, z1, rfl, hw, k1.1, k1.2.2.1⟩

/-- What is shared, that came in. -/
theorem open_shared {r : Reach} {b0 : Nat} {v : Value} {d : DataW H} {q : List MemPlace} (hv : Value.okWide Try.prog w r b0 31 v) (h : DataW.Trod enc Try.prog w base (fun _ => true) held 31 v d q) :
    ∃ (s : Sh) (X : SL), v = s.val ∧ Sees w s X ∧ (Lit.int .i64 s.t).wf = true := by
  obtain ⟨⟨l⟩, rfl, hsz⟩ := okWide_struct Try.underlying31 hv
  rw [cells31] at hsz
  match l, hsz with
  | [v0, v1, v2, v3, v4, v5, v6, v7, v8, v9, v10, v11, v12, v13, v14, v15], _ =>
    obtain ⟨fuel, hf⟩ := h
    obtain ⟨xs, m', _, hx, _, hlen, hg⟩ := DataW.trod_struct Try.underlying31 hf
    match xs, hlen with
    | [y0, y1, y2, y3], _ =>
      have g0 : DataW.trod enc Try.prog w base (fun _ => true) held m' 24 (([v0, v1, v2, v3, v4, v5, v6, v7, v8, v9, v10, v11, v12, v13, v14, v15].drop 0).take (Try.prog.cellsOf 24)) = some y0 := hg 0 _ rfl
      have g1 : DataW.trod enc Try.prog w base (fun _ => true) held m' 24 (([v0, v1, v2, v3, v4, v5, v6, v7, v8, v9, v10, v11, v12, v13, v14, v15].drop 1).take (Try.prog.cellsOf 24)) = some y1 := hg 1 _ rfl
      have g2 : DataW.trod enc Try.prog w base (fun _ => true) held m' 27 (([v0, v1, v2, v3, v4, v5, v6, v7, v8, v9, v10, v11, v12, v13, v14, v15].drop 2).take (Try.prog.cellsOf 27)) = some y2 := hg 2 _ rfl
      have g3 : DataW.trod enc Try.prog w base (fun _ => true) held m' 29 (([v0, v1, v2, v3, v4, v5, v6, v7, v8, v9, v10, v11, v12, v13, v14, v15].drop 14).take (Try.prog.cellsOf 29)) = some y3 := hg 3 _ rfl
      rw [Pool.cells24] at g0 g1
      rw [cells27] at g2
      rw [cells29] at g3
      obtain ⟨A0, n0, c0, z0, e0, k0⟩ := Pool.flat_of g0
      obtain ⟨A1, n1, c1, z1, e1, k1⟩ := Pool.flat_of g1
      obtain ⟨ys, m'', _, _, _, hl2, hg2⟩ := DataW.trod_array Try.underlying27 g2
      match ys, hl2 with
      | [u0, u1, u2], _ =>
        have a0 := hg2 0 (by omega)
        have a1 := hg2 1 (by omega)
        have a2 := hg2 2 (by omega)
        rw [Pool.cells26] at a0 a1 a2
        obtain ⟨p0, P0, f0, r0⟩ := pool_of a0
        obtain ⟨p1, P1, f1, r1⟩ := pool_of a1
        obtain ⟨p2, P2, f2, r2⟩ := pool_of a2
        obtain ⟨t, z, zs, f3, hw, rz⟩ := era_of g3
        simp at e0 e1 f0 f1 f2 f3
        obtain ⟨rfl, rfl, rfl, rfl⟩ := f0
        obtain ⟨rfl, rfl, rfl, rfl⟩ := f1
        obtain ⟨rfl, rfl, rfl, rfl⟩ := f2
        obtain ⟨rfl, rfl⟩ := f3
        subst e0 e1
        exact ⟨⟨⟨A0, n0, c0⟩, ⟨A1, n1, c1⟩, p0, p1, p2, t, z⟩, ⟨z0, z1, P0, P1, P2, t, zs⟩, rfl, ⟨k0.1, k1.1, three (P := fun k => Pool.Reads w w.heap.size (Sh.pl ⟨⟨A0, n0, c0⟩, ⟨A1, n1, c1⟩, p0, p1, p2, t, z⟩ k) (SL.pl ⟨z0, z1, P0, P1, P2, t, zs⟩ k)) r0 r1 r2, rfl, rz⟩, hw⟩

/-- A configuration that came in. -/
theorem open_cfg {r : Reach} {b0 : Nat} {v : Value} {d : DataW H} {q : List MemPlace} (hv : Value.okWide Try.prog w r b0 23 v) (h : DataW.Trod enc Try.prog w base (fun _ => true) held 23 v d q) :
    ∃ n e p i j : Int, v = .agg #[.int .i64 n, .int .i64 e, .int .i64 p, .int .i64 i, .int .i64 j] := by
  obtain ⟨⟨l⟩, rfl, hsz⟩ := okWide_struct Try.underlying23 hv
  rw [cells23] at hsz
  match l, hsz with
  | [c0, c1, c2, c3, c4], _ =>
    obtain ⟨fuel, hf⟩ := h
    obtain ⟨xs, m, _, hx, _, hlen, hg⟩ := DataW.trod_struct Try.underlying23 hf
    match xs, hlen with
    | [y0, y1, y2, y3, y4], _ =>
      have g0 : DataW.trod enc Try.prog w base (fun _ => true) held m 3 (([c0, c1, c2, c3, c4].drop 0).take (Try.prog.cellsOf 3)) = some y0 := hg 0 _ rfl
      have g1 : DataW.trod enc Try.prog w base (fun _ => true) held m 3 (([c0, c1, c2, c3, c4].drop 1).take (Try.prog.cellsOf 3)) = some y1 := hg 1 _ rfl
      have g2 : DataW.trod enc Try.prog w base (fun _ => true) held m 3 (([c0, c1, c2, c3, c4].drop 2).take (Try.prog.cellsOf 3)) = some y2 := hg 2 _ rfl
      have g3 : DataW.trod enc Try.prog w base (fun _ => true) held m 3 (([c0, c1, c2, c3, c4].drop 3).take (Try.prog.cellsOf 3)) = some y3 := hg 3 _ rfl
      have g4 : DataW.trod enc Try.prog w base (fun _ => true) held m 3 (([c0, c1, c2, c3, c4].drop 4).take (Try.prog.cellsOf 3)) = some y4 := hg 4 _ rfl
      rw [Pool.cells3] at g0 g1 g2 g3 g4
      obtain ⟨n, e0, _⟩ := Pool.elem3 g0 0 (by omega)
      obtain ⟨e, e1, _⟩ := Pool.elem3 g1 0 (by omega)
      obtain ⟨p, e2, _⟩ := Pool.elem3 g2 0 (by omega)
      obtain ⟨i, e3, _⟩ := Pool.elem3 g3 0 (by omega)
      obtain ⟨j, e4, _⟩ := Pool.elem3 g4 0 (by omega)
      simp at e0 e1 e2 e3 e4
      subst e0 e1 e2 e3 e4
      exact ⟨n, e, p, i, j, rfl⟩
end
end Go.Proofs.Ythficfmakbblkaa

/- What is told is not great. -/
namespace Go.Proofs.Ythficfmakbblkaa
open Go.RowKit
open Pool (Pl PL MayBe noP noPl Drew Told4 Row)
set_option linter.unusedVariables false

section
variable {X : SL} {b q : Bool} {k : Nat} {which r t : Int} {Q : PL}
theorem few_setPl (F : Few X) (hk : k < 3) (hQ : Pool.Few Q) : Few (X.setPl k Q) := by
  obtain ⟨e1, e2, e3, e4⟩ := setPL_rest X k Q
  refine ⟨by rw [e1]; exact F.m, by rw [e2]; exact F.l, fun j hj => ?_, by rw [e4]; exact F.z⟩
  rw [setPL_pl X hk hj]
  split
  · exact hQ
  · exact F.p j hj
theorem at_lt (h : kndE b which = 0) : at_ which < 3 := by
  rcases kind_cases b which with x | ⟨_, _, k, hk, _, hat⟩
  · rw [x] at h; cases h
  · omega
theorem few_tk (F : Few X) : Few (tkX b X which) := by
  unfold tkX
  split
  · rename_i h
    have hk : at_ which < 3 := by
      by_cases h0 : kndE b which = 0
      · exact at_lt h0
      · unfold tkE at h; rw [if_neg h0] at h; cases h
    exact few_setPl F hk (Pool.few_take (F.p _ hk))
  · exact noS_few
theorem few_rt (F : Few X) : Few (rtX b X which r) := by
  unfold rtX
  split
  · rename_i h
    have hk : at_ which < 3 := by
      by_cases h0 : kndE b which = 0
      · exact at_lt h0
      · unfold rtE at h; rw [if_neg h0] at h; cases h
    exact few_setPl F hk (Pool.few_ret (F.p _ hk) _ _)
  · exact noS_few
theorem few_setEra (F : Few X) {z : List Int} (hz : z.length ≤ 200) : Few (X.setEra t z) :=
  ⟨F.m, F.l, fun k hk => by rw [setERA_pl]; exact F.p k hk, hz⟩
theorem few_pi (F : Few X) : Few (piX b X t) := by
  unfold piX
  split
  · refine few_setEra F ?_
    unfold Era.pinZ
    split
    · rw [List.length_set]; exact F.z
    · simp
  · exact noS_few
theorem few_recX (F : Few X) (O : ∀ k, k < 3 → MayBe (X.pl k)) (u : Int) (k : Nat) : Few (recX X u k) := by
  refine ⟨F.m, F.l, fun j hj => ?_, F.z⟩
  rw [recX_pl X u hj]
  split
  · exact Pool.few_rec ⟨fun _ => O j hj, fun _ => rfl⟩ u
  · exact F.p j hj
theorem few_tr (F : Few X) (hb : b = true ↔ OkS X) : Few (trX b q X) := by
  unfold trX
  split
  · rename_i h
    split
    · exact few_recX (few_setEra F F.z) (fun k hk => by rw [setERA_pl]; exact (hb.1 h).1 k hk) _ _
    · exact F
  · exact noS_few
theorem few_en (F : Few X) (hb : b = true ↔ OkS X) : Few (enX b q X t) := by
  unfold enX
  split
  · rename_i h
    have hbt : b = true := by
      cases b with
      | true => rfl
      | false => rw [show enE false X t = 1 from Era.unpE_bad (.inl rfl)] at h; cases h
    subst hbt
    obtain ⟨_, O, F'⟩ := end_ok (hb.1 rfl) F h
    exact few_tr F' ⟨fun _ => O, fun _ => rfl⟩
  · exact noS_few
theorem few_newP {n : Nat} (h : n ≤ 64) : Pool.Few (Pool.newP n) := Pool.Few.new (by omega)
theorem few_nX {a b c : Nat} {zs : List Int} (ha : a ≤ 64) (hb : b ≤ 64) (hc : c ≤ 64) (hz : zs.length ≤ 200) : Few (nX a b c zs 3) :=
  ⟨by simp [nX], by simp [nX], three (P := fun k => Pool.Few ((nX a b c zs 3).pl k)) (few_newP ha) (few_newP hb) (few_newP hc), hz⟩
theorem few_nw (n e p i j t : Int) : Few (nwX n e p i j t) := by
  unfold nwX
  split
  · rename_i h
    obtain ⟨⟨⟨a1, a2⟩, ⟨b1, b2⟩, ⟨c1, c2⟩, _⟩, t1, t2⟩ := h
    exact few_nX (by omega) (by omega) (by omega) (by simp; omega)
  · exact noS_few
end
end Go.Proofs.Ythficfmakbblkaa

/- What the laws share. -/
namespace Go.Proofs.Ythficfmakbblkaa
open Go.RowKit
section
variable {ops : Array Oper} {rest : List Oper} {a : Act} {w : World} {Q : Exit → Act → World → Prop} {dst : Option Tmp} {ty : TypeId} {pos : String} {af : Array Edge} {gd : Option (Nat × Bool)}
/-- What is shared is loaded behind a test. -/
theorem ld31w (x : Operand) (g : Nat) (hw : Region.wanted ⟨dst, .load 31 x, ty, pos, af, gd⟩ (yielded ops a.tmps) = true) (hx : a.eval x = .pointer (some ⟨g, 0, none⟩)) (s : Sh) (HG : SBox w g s) (h : wpList Try.prog ops Q rest (a.put dst (.agg s.cs)) w) :
    wpList Try.prog ops Q (⟨dst, .load 31 x, ty, pos, af, gd⟩ :: rest) a w :=
  BigFrame.wpList_want hw fun _ hK => wp_load_row 31 x rfl g hx 31 s.cs (0, 0) _ HG Try.underlying31 rfl (cs_info s) (hK _ _ h)
end
theorem bool7 (p : Prop) : ∃ b : Bool, Hid (b = true ↔ p) := by
  obtain ⟨b, h⟩ := Pool.bool_of p
  exact ⟨b, h⟩
end Go.Proofs.Ythficfmakbblkaa

/- Laws: two values of what is shared in a slice; the pools stored whole. No conditions. -/
namespace Go.Proofs.Ythficfmakbblkaa
open Go.RowKit
set_option linter.unusedVariables false

/-- Cells from place j on are written. -/
def patch (cur : Array Value) (j : Nat) : List Value → Array Value
  | [] => cur
  | v :: vs => patch (cur.setIfInBounds j v) (j + 1) vs
theorem run_part {P : Program} (g off : Nat) (t : TypeId) : ∀ (vs : List Value) (i : Nat) (cur : Array Value) (w : World), w.heap[g]? = some (.cells cur t (0, 0)) → off + i + vs.length ≤ cur.size → (∀ v ∈ vs, v.oneCell' = true) →
    (storeCells ⟨g, off, none⟩ vs i).run P w = .ok () (w.setRow g (patch cur (off + i) vs))
  | [], i, cur, w, hg, hl, _ => by
    rw [patch, setRow_self w g cur t (0, 0) hg]
    rfl
  | v :: rest, i, cur, w, hg, hl, h1 => by
    have hi : off + i < cur.size := by simp at hl; omega
    have hadd : (⟨g, off, none⟩ : Addr).add i = ⟨g, off + i, none⟩ := by unfold Addr.add; split <;> simp_all
    have hcell : w.cell? ⟨g, off + i, none⟩ = some cur[off + i] := by simp [World.cell?, hg, hi]
    have hfro : w.frozen? ⟨g, off + i, none⟩ = false := by simp [World.frozen?, hg]
    have hst : (store ((⟨g, off, none⟩ : Addr).add i) v).run P w = .ok () (w.setRow g (cur.setIfInBounds (off + i) v)) := by
      rw [hadd, run_store P w _ v _ (h1 v (by simp)), hcell]
      simp [hfro, setCell_eq_setRow w g (off + i) cur t (0, 0) v hg]
    have ih := run_part (P := P) g off t rest (i + 1) (cur.setIfInBounds (off + i) v) (w.setRow g (cur.setIfInBounds (off + i) v)) (setRow_heap w g cur _ t _ hg) (by simp at hl ⊢; omega) (fun x hx => h1 x (by simp [hx]))
    simp only [storeCells, Sem.run_bind, hst, Result.andThen_ok, ih, setRow_setRow]
    rfl

/-- The pools of q, those of s. -/
def Sh.setPs (q s : Sh) : Sh := { q with p0 := s.p0, p1 := s.p1, p2 := s.p2 }
theorem patch_ps (q s : Sh) : patch q.cs (2 + 0) s.ps.toList = (q.setPs s).cs := by kernel_rfl
theorem ps_one (s : Sh) : ∀ v ∈ s.ps.toList, v.oneCell' = true := by
  have h : s.ps.toList.all (·.oneCell') = true := by kernel_rfl
  exact fun v hv => List.all_eq_true.1 h v hv

section
variable {ops : Array Oper} {rest : List Oper} {a : Act} {w : World} {Q : Exit → Act → World → Prop} {dst : Option Tmp} {ty : TypeId} {pos : String} {af : Array Edge}
theorem st27 (x y : Operand) (g : Nat) (hx : a.eval x = .pointer (some ⟨g, 2, none⟩)) (s : Sh) (hy : a.eval y = .agg s.ps) (q : Sh) (HG : SBox w g q) (h : wpList Try.prog ops Q rest (a.put dst undef) (w.setRow g (q.setPs s).cs)) :
    wpList Try.prog ops Q (⟨dst, .store 27 x y, ty, pos, af, none⟩ :: rest) a w := by
  have hr : (storeVar 27 ⟨g, 2, none⟩ (.agg s.ps)).run Try.prog w = .ok () (w.setRow g (q.setPs s).cs) := by
    have := run_part (P := Try.prog) g 2 31 s.ps.toList 0 q.cs w HG (by show 2 + 0 + 12 ≤ 16; omega) (ps_one s)
    rw [patch_ps] at this
    have hi := size27
    cases hq : Try.prog.info? 27 with
    | none => simp [hq] at hi
    | some i =>
      have hs : s.ps.size = i.size := by simp [hq] at hi; rw [hi]; rfl
      simp [storeVar, sizeOf, typeInfo, hq, Value.cells, hs, this]
  refine wpList_plain rfl fun _ hK => ?_
  unfold Oper.wp execOp
  simp only [hx, hy, Instr.storeAt, Instr.sureAddr, Sem.run_bind, Sem.run_pure, Result.andThen_ok, hr]
  exact hK _ _ h
theorem two_parts (x y : Operand) {A B : Array Value} (hx : a.eval x = .agg A) (hy : a.eval y = .agg B) :
    ((#[(0, x), (1, y)] : Array (Nat × Operand)).map fun (i, x) => (i, a.eval x)).toList = (([Value.agg A, Value.agg B].zipIdx 0).map fun x => (x.2, x.1)) := by simp [hx, hy]
theorem two_fill (A B : Array Value) (hA : A.size = 16) (hB : B.size = 16) (cells : Array Value) (hc : cells.size = 32) :
    Instr.fill (fun i => some (i * 16, 16)) cells (([Value.agg A, Value.agg B].zipIdx 0).map fun x => (x.2, x.1)) = some (A ++ B) := by
  have := Great.fill_whole (s := 16) (by omega) [Value.agg A, Value.agg B] cells (fun v hv => by
    simp only [List.mem_cons, List.not_mem_nil, or_false] at hv
    rcases hv with rfl | rfl
    · exact hA
    · exact hB) (by simp [hc])
  rw [this]
  congr 1
  simp [Value.cells]
theorem bs58 (x y : Operand) (r s : Sh) (hx : a.eval x = .agg r.cs) (hy : a.eval y = .agg s.cs) (h : wpList Try.prog ops Q rest (a.put dst (.slice (some ⟨w.heap.size, 0, none⟩) 2 2)) (w.alloc (.cells (r.cs ++ s.cs) 31))) :
    wpList Try.prog ops Q (⟨dst, .buildSlice 58 2 #[(0, x), (1, y)], ty, pos, af, none⟩ :: rest) a w := by
  have hi : (Try.prog.info? 31).map (fun i => (i.size, i.zero.isSome)) = some (16, true) := by kernel_rfl
  cases hq : Try.prog.info? 31 with
  | none => simp [hq] at hi
  | some ie =>
    simp only [hq, Option.map_some, Option.some.injEq, Prod.mk.injEq] at hi
    obtain ⟨z, hz⟩ := Option.isSome_iff_exists.1 hi.2
    refine wpList_buildSlice rfl 58 31 2 _ rfl (r.cs ++ s.cs) ie z Try.underlying58 hq hz (by rw [hi.1]; omega) (by rw [hi.1]; omega) ?_ h
    rw [two_parts x y hx hy, hi.1]
    exact two_fill r.cs s.cs (cs_size r) (cs_size s) _ (by simp)
/-- One of two is loaded. -/
theorem ld31at (x : Operand) (g k : Nat) (hx : a.eval x = .pointer (some ⟨g, k * 16, none⟩)) (s : Sh) (HG : ∀ j v, s.cs.toList[j]? = some v → w.cell? ⟨g, k * 16 + j, none⟩ = some v) (h : wpList Try.prog ops Q rest (a.put dst (.agg s.cs)) w) :
    wpList Try.prog ops Q (⟨dst, .load 31 x, ty, pos, af, none⟩ :: rest) a w :=
  wpList_load_part rfl 31 x rfl g (k * 16) hx s.cs HG _ Try.underlying31 rfl (cs_info s) h
end
end Go.Proofs.Ythficfmakbblkaa

/- Plain mathematics: three turns leave nothing retired. How what is shared stands while it is turned. -/
namespace Go.Proofs.Ythficfmakbblkaa
open Go.RowKit
open Pool (Pl PL MayBe noP noPl Drew Told4 Row recQ Due cnt)
set_option linter.unusedVariables false

/-- What is retired was so up to T, and can go on. -/
def NR (T : Int) (P : PL) : Prop := ∀ j, j < P.G.length → P.S.getD j 0 = 2 → P.W.getD j 0 ≤ T ∧ P.G.getD j 0 < 1099511627775
section
variable {P : PL} {T u : Int}
theorem rec_keep (M : MayBe P) (u : Int) : (recQ true P u).G.length = P.G.length ∧ (∀ j, j < P.G.length → ((recQ true P u).S.getD j 0 = 1 ↔ P.S.getD j 0 = 1)) ∧
    (NR T P → NR T (recQ true P u)) ∧ (NR T P → T ≤ u → ∀ j, j < P.G.length → (recQ true P u).S.getD j 0 ≠ 2) ∧ ((∀ j, j < P.G.length → P.S.getD j 0 ≠ 2) → ∀ j, j < P.G.length → (recQ true P u).S.getD j 0 ≠ 2) := by
  have hl := (Pool.rec_good M rfl u).2
  have hat := fun j (hj : j < P.G.length) => Pool.rec_at P u M.2.2.1 M.2.2.2.1 P.G.length (Nat.le_refl _) j
  refine ⟨hl, fun j hj => ?_, fun h j hj h2 => ?_, fun h hu j hj h2 => ?_, fun h j hj h2 => ?_⟩
  · obtain ⟨_, hs, _⟩ := hat j hj
    show (Pool.recP P u P.G.length).S.getD j 0 = 1 ↔ _
    rw [hs]
    split
    · rename_i hd
      rw [hd.2.1]
      decide
    · exact Iff.rfl
  · rw [hl] at hj
    obtain ⟨hg, hs, hw⟩ := hat j hj
    have h2' : (Pool.recP P u P.G.length).S.getD j 0 = 2 := h2
    show (Pool.recP P u P.G.length).W.getD j 0 ≤ T ∧ (Pool.recP P u P.G.length).G.getD j 0 < _
    rw [hs] at h2'
    split at h2'
    · cases h2'
    · rename_i hd
      rw [hg, hw, if_neg hd, if_neg hd]
      exact h j hj h2'
  · obtain ⟨hg, hs, hw⟩ := hat j hj
    have h2' : (Pool.recP P u P.G.length).S.getD j 0 = 2 := h2
    rw [hs] at h2'
    split at h2'
    · cases h2'
    · rename_i hd
      obtain ⟨a, b⟩ := h j hj h2'
      exact hd ⟨hj, h2', by omega, b⟩
  · obtain ⟨hg, hs, hw⟩ := hat j hj
    have h2' : (Pool.recP P u P.G.length).S.getD j 0 = 2 := h2
    rw [hs] at h2'
    split at h2'
    · cases h2'
    · exact h j hj h2'
theorem count_same (S S' : List Int) (v : Int) (hl : S'.length = S.length) (h : ∀ j, j < S.length → (S'.getD j 0 = v ↔ S.getD j 0 = v)) : S'.count v = S.count v := by
  have key : ∀ k, k ≤ S.length → (S'.take k).count v = (S.take k).count v := by
    intro k
    induction k with
    | zero => intro _; simp
    | succ k ih =>
      intro hk
      rw [Pool.count_take S' k (by omega), Pool.count_take S k (by omega), ih (by omega)]
      have := h k (by omega)
      by_cases e : S.getD k 0 = v
      · rw [if_pos e, if_pos (this.2 e)]
      · rw [if_neg e, if_neg (fun x => e (this.1 x))]
  have := key S.length (Nat.le_refl _)
  rwa [List.take_of_length_le (by omega), List.take_of_length_le (Nat.le_refl _)] at this
theorem count_none (S : List Int) (v : Int) (h : ∀ j, j < S.length → S.getD j 0 ≠ v) : S.count v = 0 := by
  refine List.count_eq_zero.2 fun hm => ?_
  obtain ⟨j, hj, e⟩ := List.mem_iff_getElem.1 hm
  exact h j hj (by simp [List.getD_eq_getElem?_getD, hj, e])
/-- Three times reclaimed. -/
theorem three_rec (M : MayBe P) (h : NR T P) : MayBe (recQ true (recQ true (recQ true P (T - 1)) T) (T + 1)) ∧ (recQ true (recQ true (recQ true P (T - 1)) T) (T + 1)).G.length = P.G.length ∧
    cnt true (recQ true (recQ true (recQ true P (T - 1)) T) (T + 1)).S 2 = 0 ∧ cnt true (recQ true (recQ true (recQ true P (T - 1)) T) (T + 1)).S 1 = cnt true P.S 1 := by
  obtain ⟨l1, o1, n1, _, _⟩ := rec_keep (T := T) M (T - 1)
  have M1 := Pool.may_reclaim M (T - 1)
  obtain ⟨l2, o2, n2, z2, _⟩ := rec_keep (T := T) M1 T
  have M2 := Pool.may_reclaim M1 T
  obtain ⟨l3, o3, n3, _, z3⟩ := rec_keep (T := T) M2 (T + 1)
  have M3 := Pool.may_reclaim M2 (T + 1)
  have hz2 := z2 (n1 h) (Int.le_refl _)
  have hz3 := z3 (fun j hj => hz2 j (by omega))
  have s0 := M.2.2.1
  have s3 := M3.2.2.1
  have c2 := count_none (recQ true (recQ true (recQ true P (T - 1)) T) (T + 1)).S 2 (fun j hj => hz3 j (by omega))
  have c1 := count_same P.S (recQ true (recQ true (recQ true P (T - 1)) T) (T + 1)).S 1 (by omega) (fun j hj => (o3 j (by omega)).trans ((o2 j (by omega)).trans (o1 j (by omega))))
  refine ⟨M3, by omega, ?_, ?_⟩
  · simp only [cnt, if_true, c2]; rfl
  · simp only [cnt, if_true, c1]
end

/-- Turned i times. -/
def it (X : SL) : Nat → SL
  | 0 => X
  | i + 1 => trX true true (it X i)
theorem tr_pl {X : SL} (h : X.T ≠ 1152921504606846976) {k : Nat} (hk : k < 3) : (trX true true X).pl k = recQ true (X.pl k) (X.T - 1) ∧ (trX true true X).T = X.T + 1 ∧ (trX true true X).Z = X.Z ∧ trB true true X = true := by
  have hb : Era.turnB true true X.T = true := by unfold Era.turnB; simpa using h
  rw [trX_yes hb]
  refine ⟨?_, rfl, rfl, hb⟩
  rw [recX_pl _ _ hk, if_pos hk, setERA_pl]
/-- Turned, what may be may be. -/
theorem ok_tr {X : SL} {q : Bool} (O : OkS X) (hq : q = true ↔ Era.Step X.T X.Z) : OkS (trX true q X) := by
  by_cases hb : Era.turnB true q X.T = true
  · rw [trX_yes hb]
    refine ⟨fun k hk => ?_, ok_turn O.2 hq hb⟩
    rw [recX_pl _ _ hk, if_pos hk, setERA_pl]
    exact Pool.may_reclaim (O.1 k hk) _
  · rw [trX_not (by simpa using hb)]
    exact O
theorem step_one (t : Int) : Era.Step t [-1] := fun z hz => .inl (by simpa using hz)
theorem it_ok {X : SL} (O : OkS X) (F : Few X) (hz : X.Z = [-1]) (hT : X.T ≤ 576460752303423488) : ∀ i, i ≤ 3 → OkS (it X i) ∧ Few (it X i) ∧ (it X i).T = X.T + i ∧ (it X i).Z = [-1] := by
  intro i
  induction i with
  | zero => exact fun _ => ⟨O, F, by simp [it], hz⟩
  | succ i ih =>
    intro hi
    obtain ⟨o, f, t, z⟩ := ih (by omega)
    have hs : Era.Step (it X i).T (it X i).Z := by rw [z]; exact step_one _
    obtain ⟨_, h2, h3, _⟩ := tr_pl (X := it X i) (by omega) (k := 0) (by omega)
    refine ⟨ok_tr o ⟨fun _ => hs, fun _ => rfl⟩, few_tr f ⟨fun _ => o, fun _ => rfl⟩, ?_, h3.trans z⟩
    show (trX true true (it X i)).T = _
    rw [h2, t]
    omega
theorem it_three {X : SL} (O : OkS X) (F : Few X) (hz : X.Z = [-1]) (hT : X.T ≤ 576460752303423488) {k : Nat} (hk : k < 3) (h : NR X.T (X.pl k)) : MayBe ((it X 3).pl k) ∧ ((it X 3).pl k).G.length = (X.pl k).G.length ∧ cnt true ((it X 3).pl k).S 2 = 0 ∧ cnt true ((it X 3).pl k).S 1 = cnt true (X.pl k).S 1 := by
  have t1 := (it_ok O F hz hT 1 (by omega)).2.2.1
  have t2 := (it_ok O F hz hT 2 (by omega)).2.2.1
  have p1 : (it X 1).pl k = recQ true (X.pl k) (X.T - 1) := (tr_pl (X := X) (by omega) hk).1
  have p2 : (it X 2).pl k = recQ true ((it X 1).pl k) ((it X 1).T - 1) := (tr_pl (X := it X 1) (by omega) hk).1
  have p3 : (it X 3).pl k = recQ true ((it X 2).pl k) ((it X 2).T - 1) := (tr_pl (X := it X 2) (by omega) hk).1
  rw [p3, p2, p1, t2, t1, show X.T + ((1 : Nat) : Int) - 1 = X.T by omega, show X.T + ((2 : Nat) : Int) - 1 = X.T + 1 by omega]
  exact three_rec (O.1 k hk) h

section
variable {w u u' : World} {h g n c : Nat} {s s' s1 : Sh} {X X' X1 : SL} {A : Option Addr} {t : Int} {zs : List Int}
/-- The era in the box is written. -/
theorem St.era (T : St w u h s X) (R : Era.Reads u u.heap.size A n c zs) (hz : ∀ b, InA A n b → b ≠ h) :
    St w ((u.setCell ⟨h, 14, none⟩ (.int .i64 t)).setCell ⟨h, 15, none⟩ (.slice A n c)) h (s.setEra t ⟨A, n, c⟩) (X.setEra t zs) := by
  have hn : ¬ (s.setEra t ⟨A, n, c⟩).Has h := fun hb => by
    rcases has_setEra hb with x | x
    · exact T.off x
    · exact hz h x rfl
  exact ⟨(T.bel.setCell (p := ⟨h, 14, none⟩) T.ge _).setCell (p := ⟨h, 15, none⟩) T.ge _, T.ge, heap_setCell_same _ _ 15 _ 31 _ (heap_setCell_same u _ 14 _ 31 _ T.box), ((T.sees.setEra R).cell hn _ _).cell hn _ _, hn⟩
/-- The box that is turned, and what it was. -/
structure Th (w u : World) (s : Sh) (X : SL) (h : Nat) (s1 : Sh) (X1 : SL) : Prop where
  st : St w u w.heap.size s X
  ws : St w u h s1 X1
  ne : h ≠ w.heap.size
  nw : ¬ s1.Has w.heap.size
theorem Th.step (T : Th w u s X h s1 X1) (b : Below u.heap.size u u') : Th w u' s X h s1 X1 := ⟨T.st.step b, T.ws.step b, T.ne, T.nw⟩
theorem Th.first (T : St w u w.heap.size s X) : Th w ((u.alloc (.cells zeros16 31)).setRow u.heap.size s.cs) s X u.heap.size s X :=
  ⟨T.side (Below.refl _ _) _, St.first T.bel T.sees, by have := T.box.lt; omega, T.off⟩
theorem Th.next (T : Th w u s X h s1 X1) (S : Sees u' s' X') (K : Kin u s s') (b : Below u.heap.size u u') :
    SBox ((u'.alloc (.cells zeros16 31)).setRow u'.heap.size s'.cs) u'.heap.size s' ∧ SBox ((u'.alloc (.cells zeros16 31)).setRow u'.heap.size s'.cs) w.heap.size s ∧
    Th w (((u'.alloc (.cells zeros16 31)).setRow u'.heap.size s'.cs).setRow w.heap.size s'.cs) s' X' h s1 X1 := by
  have b1 := (T.st.step b).bel
  have F := St.first b1 S
  have hl := T.st.box.lt
  have hlu := b.size
  have hn : ¬ s'.Has w.heap.size := fun hb => by
    rcases K _ hb with x | x
    · omega
    · exact T.st.off x
  have Sd := T.st.side b s'.cs
  have Wd := T.ws.side b s'.cs
  exact ⟨F.box, Sd.box, ⟨below_setRow Sd.bel (Nat.le_refl _) _, Nat.le_refl _, Sd.box.put _, F.sees.row hn _, hn⟩, Wd.row (Nat.le_refl _) T.ne T.nw _, T.ne, T.nw⟩
end
end Go.Proofs.Ythficfmakbblkaa
