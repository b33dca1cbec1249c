/- Lists put one behind the other: the library's Concat. -/
import Derived.Test.YtiiadkjiofkonaaGreatGEach
import Derived.Test.YtiiadkjiofkonaaGreatShelf
import Derived.WalkKit
import Derived.Below
import Derived.Deep.QuietTactic
import Derived.BigQuiet
import Derived.Shelf.Abstract
namespace Go.Proofs.YtiiadkjiofkonaaGreat
open Go.RowKit
set_option linter.unusedVariables false

theorem grow_any (n : Nat) (w : World) (hn : n ≤ 1000) : Calls Tryz.prog 117 #[.slice none 0 0, .int .i64 n] w fun e w' => ∃ A c, e = .returned (.slice A 0 c) ∧ Hid (w'.ownsRow w.heap.size 83 2 (.slice A 0 c) 0 []) ∧ Hid (Below w.heap.size w w') := by
  by_cases h : n = 0
  · subst h
    refine (Any8.slices_Grow_room Tryz.lgrow none 0 0 0 w (by omega) (by omega) (by omega) (by omega)).mono ?_
    rintro e w' ⟨rfl, rfl⟩
    exact ⟨none, 0, rfl, World.ownsRow_nil _ _ _ _, Below.refl _ _⟩
  · obtain ⟨i0, hi0, hz0, hz1, hz2⟩ := info_parts info54
    refine (Any8.slices_Grow_grow Tryz.lgrow i0 (.agg #[.int .i64 0, .int .i64 0]) hi0 hz0 (by omega) none 0 0 n [] w (by omega) (by omega) (by rw [hz2]; omega) (by omega) (by simp) (fun _ => rfl) (fun a h => by cases h)).mono ?_
    rintro e w' ⟨rfl, rfl⟩
    refine ⟨_, _, rfl, World.ownsRow_made w.drew _ _ (Nat.le_refl _) (grownCap_le_maxLen _ _ _ _ (by unfold maxLen; omega)) ?_, (Below.refl _ _).drew.alloc (Nat.le_refl _) _⟩
    have hge := grownCap_ge w (0 + n) 0 83
    have z1 : ∀ m, (Builtin.zeroCells (Value.agg #[.int .i64 0, .int .i64 0]).cells m).size = m * 2 := fun m => by simp [Builtin.zeroCells, Value.cells]
    show (_ ++ _ ++ _ : Array Value).size = _
    rw [Array.size_append, Array.size_append, z1, z1]
    show 0 + (0 + n - 0) * 2 + (grownCap w (0 + n) 0 83 - (0 + n)) * 2 = grownCap w (0 + n) 0 83 * 2
    omega

theorem flat_take {ls : List (List Pr)} {k : Nat} (hk : k < ls.length) : (ls.take (k + 1)).flatten = (ls.take k).flatten ++ ls.getD k [] := by
  rw [getD_take (d := []) hk]
  simp
theorem flat_le (ls : List (List Pr)) (k : Nat) : (ls.take k).flatten.length ≤ ls.flatten.length := by
  have h := congrArg (fun l : List (List Pr) => l.flatten.length) (List.take_append_drop k ls)
  simp only [List.flatten_append, List.length_append] at h
  omega
theorem step_nums {u : World} {B m : Nat} {v : Value} {ls : List (List Pr)} {k : Nat} (hk : k < ls.length) (h : u.ownsRow B 83 2 v m (ints (flat2 (ls.take k).flatten ++ flat2 (ls.getD k [])))) : Hid (u.ownsRow B 83 2 v m (ints (flat2 (ls.take (k + 1)).flatten))) := by
  show World.ownsRow _ _ _ _ _ _ _
  rw [flat_take hk, flat2_append]
  exact h

set_option maxRecDepth 100000 in
set_option maxHeartbeats 4000000 in
theorem concat_any (g m : Nat) (h : Nat → Sl) (ls : List (List Pr)) (w : World) (hg : g < w.heap.size) (hm : m ≤ 10) (hl : ls.length = m) (hs : Hid (∀ i, i < m → w.cell? ⟨g, i, none⟩ = some (.slice (h i).A (h i).n (h i).c) ∧ Props w w.heap.size (h i) (ls.getD i []))) (hsum : ls.flatten.length ≤ 1000) :
    Calls Tryz.prog 107 #[.slice (some ⟨g, 0, none⟩) m m] w (Told w 83 2 (flat2 ls.flatten)) := by
  obtain ⟨i0, hi0, hz0, hz1, hz2⟩ := info_parts info54
  have H1 := hide hi0
  have H2 := hide hz0
  have H3 := hide hz1
  have H4 := hide hz2
  clear hi0 hz0 hz1 hz2
  have HL := hide hl
  clear hl
  go_enter Tryz.func107, Tryz.ntmps107
  go_wp2
  go_loopw [3, 11] (fun s i wr => ∃ k S : Nat, k ≤ m ∧ i = .int .i64 k ∧ s = .int .i64 S ∧ Hid ((ls.take k).flatten.length = S) ∧ w = wr) (fun _ i _ => m - (intOf i).toNat)
  case atStart => exact ⟨0, 0, by omega, rfl, rfl, by show _ = _; simp, rfl⟩
  case round =>
    obtain ⟨k, S, hk, rfl, rfl, HS, rfl⟩ := hrel
    by_cases hlt : k < m
    · obtain ⟨c0, hP⟩ := hs.out k hlt
      have hln := hP.len
      have h1 : Hid ((ls.take (k + 1)).flatten.length = S + (h k).n) := by show _ = _; rw [flat_take (by have := HL.out; omega), List.length_append, HS.out, hln]
      have h2 : S + (h k).n ≤ 1000 := by have := flat_le ls (k + 1); rw [h1.out] at this; omega
      clear hP hln
      generalize (h k).n = nk at c0 h1 h2
      have t1 : decide ((S : Int) + (nk : Int) < 0) = false := by simp; omega
      go_wp2
      go_roundw
      case rel => exact ⟨k + 1, S + nk, by omega, by go_num, by go_num, h1, trivial⟩
      case measure => simp [intOf]; omega
    · obtain rfl : k = m := by omega
      have hS : S ≤ 1000 := by have := flat_le ls k; rw [HS.out] at this; omega
      go_wp2_with fail
      refine (grow_any S w hS).mono ?_
      rintro e u1 ⟨A1, c1, rfl, hr1, hb1⟩
      have ha1 := hide (own_nil_cap hr1.out)
      go_wp2
      go_loopw [6, 27] (fun l i wx => ∃ (j S : Nat) (A : Option Addr) (c : Nat), j ≤ k ∧ i = .int .i64 j ∧ l = .slice A S c ∧ S ≤ 1000 ∧ Hid ((ls.take j).flatten.length = S) ∧ Hid (A = none → c = 0) ∧ Hid (wx.ownsRow w.heap.size 83 2 (.slice A S c) S (ints (flat2 (ls.take j).flatten))) ∧ Hid (Below w.heap.size w wx)) (fun _ i _ => k - (intOf i).toNat)
      case atStart => exact ⟨0, 0, A1, c1, by omega, rfl, rfl, by omega, (by show _ = _; simp), ha1, hr1, hb1⟩
      case round =>
        obtain ⟨j, S', A, c, hj, rfl, rfl, hS', HS', HA, HR, HB⟩ := hrel
        clear HS hS
        by_cases hlj : j < k
        · obtain ⟨c0, hP⟩ := hs.out j hlj
          have hln := hP.len
          have h1 : Hid ((ls.take (j + 1)).flatten.length = S' + (h j).n) := by show _ = _; rw [flat_take (by have := HL.out; omega), List.length_append, HS'.out, hln]
          have h2 : S' + (h j).n ≤ 1000 := by have := flat_le ls (j + 1); rw [h1.out] at this; omega
          have HP := hide hP
          have HK : Hid (j < ls.length) := by have := HL.out; show _ < _; omega
          have d0 := (HB.out.cell (p := ⟨g, _, none⟩) hg).trans c0
          clear hP hln c0
          obtain ⟨⟨hA, hn, hc⟩, hh⟩ : ∃ x, h j = x := ⟨_, rfl⟩
          rw [hh] at d0 h1 h2 HP
          clear hh
          dsimp only at d0 h1 h2 HP
          have N1 := hide (HP.out.1.below HB.out (Nat.le_refl _))
          go_wp2_with (at_builtin; refine wpList_append_nums _ rfl _ _ 34 rfl w.heap.size 83 i0 (.agg #[.int .i64 0, .int .i64 0]) 2 16 Tryz.underlying34 H1.out H2.out H3.out H4.out rfl (by decide) _ S' _ rfl HR.out hA hn hc w.heap.size _ rfl HP.out.2 N1.out (by simp only [maxLen]; omega) (by omega) HB.out.size ?_; intro v' w2 hown hg2; obtain ⟨A2, c2, rfl, hA2⟩ := own_form hown; have HR2 := step_nums HK.out hown; have HB2 := hide (HB.out.trans (hg2.mono (Nat.le_refl _))); clear hown hg2)
          go_roundw
          case rel => exact ⟨j + 1, S' + hn, A2, c2, by omega, by go_num, rfl, h2, h1, hA2, HR2, HB2⟩
          case measure => simp [intOf]; omega
        · obtain rfl : j = k := by omega
          go_wp2
          go_ret
          refine ⟨A, S', c, rfl, HA.out, ?_, HB.out⟩
          have := HR.out
          rwa [List.take_of_length_le (by have := HL.out; omega)] at this

end Go.Proofs.YtiiadkjiofkonaaGreat
