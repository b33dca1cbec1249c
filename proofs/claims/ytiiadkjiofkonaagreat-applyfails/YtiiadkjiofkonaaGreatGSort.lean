/- Properties sorted by their keys: the library's SortFunc. -/
import Derived.Test.YtiiadkjiofkonaaGreatGClos
import Derived.Test.YtiiadkjiofkonaaGreatShelf
import Derived.WalkKit
import Derived.Below
import Derived.Deep.QuietTactic
import Derived.BigQuiet
import Derived.Sort.OwnSortedInts
import Derived.Shelf.Abstract
namespace Go.Proofs.YtiiadkjiofkonaaGreat
open Go.RowKit
set_option linter.unusedVariables false

/-- How two numbers stand to one another. -/
def cmpI (x y : Int) : Int := if x < y then -1 else if y < x then 1 else 0
theorem isNaN_any (x : Int) (w : World) : Calls Tryz.prog 120 #[.int .i64 x] w fun e w' => e = .returned (.bool false) ∧ w' = w := by
  go_enter Tryz.func120, Tryz.ntmps120
  go_wp2
  go_ret
  exact ⟨by simp, rfl⟩
set_option maxHeartbeats 1000000 in
theorem cmp_any (x y : Int) (w : World) : Calls Tryz.prog 113 #[.int .i64 x, .int .i64 y] w fun e w' => e = .returned (.int .i64 (cmpI x y)) ∧ w' = w := by
  by_cases h1 : x < y
  · have e : cmpI x y = -1 := if_pos h1
    rw [e]
    have t1 : decide (x < y) = true := by simpa using h1
    go_enter Tryz.func113, Tryz.ntmps113
    go_wp2_with (go_at_call 120; refine (isNaN_any _ _).mono ?_; rintro e w' ⟨rfl, rfl⟩)
    go_ret
    exact ⟨rfl, rfl⟩
  · have t1 : decide (x < y) = false := by simpa using h1
    by_cases h2 : y < x
    · have e : cmpI x y = 1 := by unfold cmpI; rw [if_neg h1, if_pos h2]
      rw [e]
      have t2 : decide (y < x) = true := by simpa using h2
      go_enter Tryz.func113, Tryz.ntmps113
      go_wp2_with (go_at_call 120; refine (isNaN_any _ _).mono ?_; rintro e w' ⟨rfl, rfl⟩)
      go_ret
      exact ⟨rfl, rfl⟩
    · have e : cmpI x y = 0 := by unfold cmpI; rw [if_neg h1, if_neg h2]
      rw [e]
      have t2 : decide (y < x) = false := by simpa using h2
      go_enter Tryz.func113, Tryz.ntmps113
      go_wp2_with (go_at_call 120; refine (isNaN_any _ _).mono ?_; rintro e w' ⟨rfl, rfl⟩)
      go_ret
      exact ⟨rfl, rfl⟩

/-- A property's two cells. -/
def encP (x : Pr) : List Value := [.int .i64 x.1, .int .i64 x.2]
theorem cmpP_any (x y : Pr) (W : World) : Calls Tryz.prog 112 #[.agg #[.int .i64 x.1, .int .i64 x.2], .agg #[.int .i64 y.1, .int .i64 y.2]] W fun e w' => e = .returned (.int .i64 (cmpI x.1 y.1)) ∧ ∃ q os', w' = Go.Sort.grow (W.drewN q) os' := by
  have hc := fun W' => cmp_any x.1 y.1 W'
  generalize cmpI x.1 y.1 = r at hc ⊢
  go_enter Tryz.func112, Tryz.ntmps112
  go_wp2_with (go_at_call 113; refine (hc _).mono ?_; rintro e w' ⟨rfl, rfl⟩)
  go_ret
  exact ⟨rfl, 0, _, by rw [Go.Sort.alloc_eq_grow, Go.Sort.alloc_eq_grow, Go.Sort.grow_grow]; rfl⟩

theorem ltKey (x y : Pr) : ltOf (fun x y : Pr => cmpI x.1 y.1) x y = decide (x.1 < y.1) := by
  unfold ltOf cmpI
  by_cases h1 : x.1 < y.1
  · simp [h1]
  · by_cases h2 : y.1 < x.1 <;> simp [h1, h2]
theorem swoKey : Go.Sort.SWO (ltOf fun x y : Pr => cmpI x.1 y.1) where
  irrefl x := by rw [ltKey]; simp
  trans x y z h1 h2 := by rw [ltKey] at *; simp at *; omega
  ntrans x y z h1 h2 := by rw [ltKey] at *; simp at *; omega

theorem flat_cells (l : List Pr) : Go.Sort.flatK encP 2 l.toArray = (ints (flat2 l)).toArray := by
  have hl := flat2_len l
  refine Array.ext (by simp [hl]) fun t h1 h2 => ?_
  have ht : t < l.length * 2 := by simpa using h1
  have hk : t / 2 < l.length := by omega
  obtain ⟨e1, e2⟩ := flat2_at l (t / 2) hk
  have hx : l.toArray[t / 2]! = l.getD (t / 2) (0, 0) := by simp [hk]
  simp only [Go.Sort.flatK, Array.getElem_map, Array.getElem_range, hx]
  have hv : (ints (flat2 l)).toArray[t] = .int .i64 ((flat2 l).getD t 0) := by simp [show t < (flat2 l).length by omega]
  rw [hv]
  rcases Nat.mod_two_eq_zero_or_one t with hm | hm
  · have ht2 : t = t / 2 * 2 := by omega
    rw [hm]
    rw [← ht2] at e1
    rw [e1]
    rfl
  · have ht2 : t = t / 2 * 2 + 1 := by omega
    rw [hm]
    rw [← ht2] at e2
    rw [e2]
    rfl
theorem putCells_ints (zs : List Int) (cur : Array Value) : Go.Sort.putCells id 0 (ints zs).toArray cur = Go.Sort.putCells (Value.int .i64) 0 zs.toArray cur := by
  unfold Go.Sort.putCells
  congr 1
  funext k x
  by_cases h : k < zs.length
  · simp [h]
  · simp [h]
theorem putRow_ints (zs : List Int) (w : World) (g : Nat) : Go.Sort.putRow id w g 0 (ints zs).toArray = Go.Sort.putRow (Value.int .i64) w g 0 zs.toArray := by
  unfold Go.Sort.putRow
  exact Go.Sort.mapBlock_congr w g _ _ fun c e fr _ => putCells_ints zs c

set_option maxHeartbeats 1000000 in
theorem sortP_any (A : Option Addr) (n c B : Nat) (l : List Pr) (w : World) (hO : w.ownsRow B 83 2 (.slice A n c) n (ints (flat2 l))) (hn : n ≤ 1000) :
    Calls Tryz.prog 111 #[.slice A n c, .func (.func 112) #[] #[]] w fun e w' => e = .returned (.tuple #[]) ∧ ∃ l', Hid (l'.Perm l) ∧ Hid (l'.Pairwise fun a b => ¬ b.1 < a.1) ∧ Hid (w'.ownsRow B 83 2 (.slice A n c) n (ints (flat2 l'))) ∧ Hid (Below B w w') := by
  have hlen : l.length = n := by have := hO.1; simp [flat2_len] at this; omega
  rcases hO.2 with ⟨hv, h0⟩ | ⟨g, cap, cur, hv, hB, hg, hcap, hm, hs, ht⟩
  · subst h0
    have hl : l = [] := List.length_eq_zero_iff.1 hlen
    subst hl
    refine (AnyF.slices_SortFunc_none Tryz.lsort A c (.func (.func 112) #[] #[]) w).mono ?_
    rintro e w' ⟨rfl, rfl⟩
    exact ⟨rfl, [], .refl _, .nil, hO, Below.refl _ _⟩
  · have hA : A = some ⟨g, 0, none⟩ := by injection hv
    have hc : c = cap := by injection hv
    subst hA hc
    have hgl : g < w.heap.size := (Array.getElem?_eq_some_iff.1 hg).1
    have hH0 : Go.Sort.Holds (Value.int .i64) w g 0 (flat2 l).toArray := holds_of_blockI hg (by rw [flat2_len, hlen]; exact ht)
    have hH : Go.Sort.HoldsK encP 2 w g 0 l.toArray := by
      unfold Go.Sort.HoldsK
      rw [flat_cells]
      intro j hj
      have hj' : j < (flat2 l).length := by simpa using hj
      have := hH0 j (by simpa using hj')
      simpa [hj'] using this
    have eg : ∀ args w, (callFunc 112 args).run Tryz.prog w = .ok (.enter 112 args) w := enters_of Tryz.func112 (by kernel_rfl) rfl
    have hcon := AnyQ.slices_SortFunc Tryz.lsort 2 Tryz.isAgg83 Tryz.sizeOf83 encP (fun _ => rfl) (fun x v hv => by simp [encP] at hv; rcases hv with rfl | rfl <;> rfl) (fun x y => cmpI x.1 y.1) swoKey 112 #[] g 0 c l.toArray w eg (fun _ _ _ _ x y => cmpP_any x y _) hH hgl (by simp; omega)
    rw [show l.toArray.size = n by simpa using hlen] at hcon
    refine hcon.mono ?_
    rintro e w' ⟨rfl, d', m, os, hp, hsd, rfl⟩
    obtain ⟨l', rfl⟩ : ∃ l' : List Pr, d' = l'.toArray := ⟨d'.toList, by simp⟩
    have hl' : l'.length = l.length := by simpa using hp.1
    have hsw : sortWorldK encP 2 w g 0 m l'.toArray os = Go.Sort.grow (Go.Sort.putRow (Value.int .i64) (Go.Sort.ahead w m) g 0 (flat2 l').toArray) os := by
      unfold sortWorldK Go.Sort.putRowK
      rw [flat_cells, putRow_ints]
    rw [hsw]
    refine ⟨rfl, l', ?_, ?_, ⟨by simp [flat2_len]; omega, .inr ⟨g, c, _, rfl, hB, heap_sortedI _ hg, hcap, hm, by simp [Go.Sort.putCells, hs], ?_⟩⟩, ?_⟩
    · show List.Perm _ _
      have := hp.2.2
      have e1 : l'.take n = l' := List.take_of_length_le (by omega)
      have e2 : l.take n = l := List.take_of_length_le (by omega)
      simpa [e1, e2] using this
    · show List.Pairwise _ _
      rw [List.pairwise_iff_getElem]
      intro i j hi hj hij
      have := hsd i j (by omega) hij (by omega)
      rw [ltKey] at this
      simpa [hi, hj] using this
    · have := take_putCellsI cur (flat2 l') (by rw [flat2_len, hs, hl', hlen]; exact Nat.mul_le_mul_right 2 hcap)
      rw [flat2_len, hl', hlen] at this
      exact this
    · exact (Below.refl _ _).grown (grownBy_sortedI _) (Nat.le_of_lt (Nat.lt_of_le_of_lt hB hgl)) fun j ej => by cases ej; exact hB

end Go.Proofs.YtiiadkjiofkonaaGreat
