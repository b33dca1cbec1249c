/- Small words that the laws of layer 9 share. -/
import Derived.Test.YtijiolkjnlgleaaFrame
namespace Go.Proofs.Ytijiolkjnlgleaa
open Go.RowKit

theorem ups_bool (l : List Int) : ∃ q : Bool, Hid (q = true ↔ Ups l) := ⟨@decide (Ups l) (Classical.propDecidable _), by show _ ↔ _; simp⟩
theorem bool_of (p : Prop) : ∃ q : Bool, Hid (q = true ↔ p) := ⟨@decide p (Classical.propDecidable _), by show _ ↔ _; simp⟩

theorem chk_yes (A : Option Addr) (n c B : Nat) (zs : List Int) (w : World) (h : Nums w B 1 A n zs) (hq : Ups zs) (hn : n ≤ 17592186044416) : Calls Try.prog 14 #[.slice A n c] w (Drew (.int .i64 0) w) :=
  chk_any A n c B zs true w h (by show _ ↔ _; simp [hq]) hn
theorem chk_no (A : Option Addr) (n c B : Nat) (zs : List Int) (w : World) (h : Nums w B 1 A n zs) (hq : ¬ Ups zs) (hn : n ≤ 17592186044416) : Calls Try.prog 14 #[.slice A n c] w (Drew (.int .i64 1) w) :=
  chk_any A n c B zs false w h (by show _ ↔ _; simp [hq]) hn

section
variable {u : World} {B n c g k : Nat} {A : Option Addr} {zs : List Int}
theorem Nums.as {ys : List Int} (h : Nums u B 1 A n zs) (e : zs = ys) : Nums u B 1 A n ys := e ▸ h
theorem own_set (h : u.ownsRow B 3 1 (.slice (some ⟨g, 0, none⟩) n c) n (ints zs)) (k : Nat) (x : Int) : (u.setCell ⟨g, k, none⟩ (.int .i64 x)).ownsRow B 3 1 (.slice (some ⟨g, 0, none⟩) n c) n (ints (zs.set k x)) := by
  have := (h.stored k (.int .i64 x)).1
  rwa [show (ints zs).set k (.int .i64 x) = ints (zs.set k x) by simp [ints, List.map_set]] at this
theorem own_at (h : u.ownsRow B 3 1 (.slice A n c) n (ints zs)) (hk : k < n) : ∃ g, A = some ⟨g, 0, none⟩ ∧ B ≤ g ∧ u.cell? ⟨g, k, none⟩ = some (.int .i64 (zs.getD k 0)) ∧ u.frozen? ⟨g, k, none⟩ = false := by
  have hl := h.1
  rcases h.2 with ⟨_, h0⟩ | ⟨g, cap, cur, hv, hb, hg, _⟩
  · omega
  · have hA : A = some ⟨g, 0, none⟩ := by simp at hv; exact hv.1
    subst hA
    refine ⟨g, rfl, hb, ?_, frozen_of_row u g k cur 3 hg⟩
    rw [h.cellAt k (by omega)]
    simp only [ints, List.length_map] at hl
    simp [show k < zs.length by omega]
end
end Go.Proofs.Ytijiolkjnlgleaa
