/- What Ops tells, for every list of numbers: fives come by a range over a function. -/
import Derived.RangeFuncNested
import Derived.RangeFuncBox
import Derived.RangeFuncBound
import Derived.RangeFuncCalls
import Derived.RangeFuncLeaves
import Derived.Shelf.Abstract
import Derived.WalkKit
import Derived.OwnWalkIn
import Derived.TacticsInMore
import Derived.LoopNIn
import Derived.LoopIn
import Derived.Maps.AppendAt
import Derived.Test.YtpldcmhbbhjhgaaWalksE
namespace Go.Proofs.Ytpldcmhbbhjhgaa
open Go.RowKit Go.Shelf
set_option linter.unusedVariables false
attribute [local go_sem] Oper.semAt_some

/-- Which five it is. -/
abbrev Ix (n : Nat) : Type := { j : Nat // j * 5 + 5 ≤ n }
abbrev fiveAt (b off c : Nat) (j : Nat) : Value := .slice (some ⟨b, off + j * 5, none⟩) 5 (c - j * 5)
def lenOf : Value → Nat
  | .slice _ n _ => n
  | _ => 0

/-- Where what is left begins. -/
theorem next_addr (b off j r k : Nat) (hk : r ≤ k) : Hid (5 ≤ r - 5 → (if k = 5 then some (⟨b, off + j * 5, none⟩ : Addr) else some ⟨b, off + j * 5 + 5, none⟩) = some ⟨b, off + (j + 1) * 5, none⟩) := by
  intro h
  rw [if_neg (by omega)]
  congr 2
  omega

set_option maxRecDepth 100000 in
set_option maxHeartbeats 2000000 in
theorem fives1_in (F : Fence) (d : Nat) (h23 : F.fn 23) (hro : F.round = none) (hd : 1 ≤ d) (l Bs n₀ b off n c : Nat) (A : Option Addr) (hc : n ≤ c) (hn : n ≤ 65536) (hA : 5 ≤ n → A = some ⟨b, off, none⟩) (J Jx : List (Ix n) → World → Prop)
    (hY : ∀ pre x W, J pre W → pre.length < n / 5 → YieldAt F (d - 1) Try.prog l #[fiveAt b off c x.1] W fun e W' =>
      (e = .returned (.bool true) ∧ J (pre ++ [x]) W' ∧ Below n₀ W W') ∨ (e = .returned (.bool false) ∧ Jx (pre ++ [x]) W'))
    (W : World) (hBs : W.cell? ⟨Bs, 0, none⟩ = some (.slice A n c)) (h0 : J [] W) :
    CallsIn F d Try.prog 23 #[.func (.yield l) #[] #[], .pointer (some ⟨Bs, 0, none⟩)] W fun e W' => (∃ v, e = .returned v) ∧
      ((∃ ys, ys.map (·.1) = List.range (n / 5) ∧ J ys W') ∨ (∃ pre, True ∧ Jx pre W')) := by
  refine callsIn_of_wp Try.func23 rfl h23 ?_ hro
  simp only [Try.ntmps23, List.size_toArray, List.length_cons, List.length_nil, Nat.reduceAdd, Nat.reduceSub, Array.replicate_succ, Array.replicate_zero, List.push_toArray, List.append_toArray, List.nil_append, List.cons_append]
  gi_wp2
  gi_loopw [3] (fun p wr => ∃ (pre : List (Ix n)) (j r k : Nat) (a : Option Addr), p = .slice a r k ∧ j * 5 + r = n ∧ j * 5 + k = c ∧ Hid (5 ≤ r → a = some ⟨b, off + j * 5, none⟩) ∧ Hid (pre.map (·.1) = List.range j) ∧ J pre wr)
    (fun p _ => lenOf p)
  case atStart => exact ⟨[], 0, n, c, A, rfl, by omega, by omega, fun h => by simpa using hA h, rfl, h0⟩
  case round =>
    obtain ⟨pre, j, r, k, a, rfl, hr, hk, Ha, Hp, hJs⟩ := hrel
    by_cases hlt : 5 ≤ r
    · obtain rfl := Ha.out hlt
      have hlen : pre.length < n / 5 := by have := congrArg List.length Hp.out; simp at this; omega
      obtain ⟨fn, tmps, assign, body, hy, hR⟩ := hY pre ⟨j, by omega⟩ wr hJs hlen
      have hcj : c - j * 5 = k := by omega
      dsimp only [fiveAt] at hy hR
      rw [hcj] at hy
      clear Ha hlen hcj
      have hg : decide ((5 : Int) ≤ (r : Int)) = true := by simp; omega
      gi_wp2
      refine hR.mono ?_
      rintro e W3 (⟨rfl, hJ3, hk3⟩ | ⟨rfl, hJx3⟩)
      · gi_wp2
        go_roundw
        case rel => exact ⟨pre ++ [⟨j, by omega⟩], j + 1, r - 5, k - 5, _, rfl, by omega, by omega, next_addr b off j r k (by omega), by show _ = _; rw [List.map_append, Hp.out, List.range_succ]; rfl, hJ3⟩
        case measure => simp [lenOf]; omega
      · gi_wp2
        refine bodyPost_ret (results_none rfl _ _ _) rfl ?_
        exact ⟨⟨_, rfl⟩, .inr ⟨_, trivial, hJx3⟩⟩
    · have hg : decide ((5 : Int) ≤ (r : Int)) = false := by simp; omega
      have HE : Hid (n / 5 = j) := by show _ = _; omega
      gi_wp2
      go_end0
      exact ⟨⟨_, rfl⟩, .inl ⟨pre, by rw [HE.out]; exact Hp.out, hJs⟩⟩

set_option maxHeartbeats 1000000 in
theorem fives_in (F : Fence) (d : Nat) (h22 : F.fn 22) (hro : F.round = none) (A : Option Addr) (n c : Nat) (w : World) :
    CallsIn F d Try.prog 22 #[.slice A n c] w fun e w' => e = .returned (.func (.func 23) #[] #[.pointer (some ⟨w.heap.size, 0, none⟩)]) ∧ w' = w.alloc (.cells #[.slice A n c] 24) := by
  refine callsIn_of_wp Try.func22 rfl h22 ?_ hro
  simp only [Try.ntmps22, List.size_toArray, List.length_cons, List.length_nil, Nat.reduceAdd, Nat.reduceSub, Array.replicate_succ, Array.replicate_zero, List.push_toArray, List.append_toArray, List.nil_append, List.cons_append]
  gi_wp2
  go_ret
  exact ⟨rfl, rfl⟩

theorem fives_stops (F : Fence) (d : Nat) (h23 : F.fn 23) (hro : F.round = none) (hd : 1 ≤ d) (Bs n₀ b off n c : Nat) (A : Option Addr) (hc : n ≤ c) (hn : n ≤ 65536) (hA : 5 ≤ n → A = some ⟨b, off, none⟩) (w : World) (hBs : Bs < w.heap.size)
    (hcell : w.cell? ⟨Bs, 0, none⟩ = some (.slice A n c)) :
    SeqStopsK F d Try.prog 23 #[.pointer (some ⟨Bs, 0, none⟩)] (fun x : Ix n => #[fiveAt b off c x.1]) (Below n₀) (fun ys => ys.map (·.1) = List.range (n / 5)) (fun _ => True) (n / 5) w := fun l J Jx W hW _ _ hY h0 =>
  fives1_in F d h23 hro hd l Bs n₀ b off n c A hc hn hA J Jx hY W ((hW.cell (p := ⟨Bs, 0, none⟩) hBs).trans hcell) h0
end Go.Proofs.Ytpldcmhbbhjhgaa
