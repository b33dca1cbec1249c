/- What Op tells, for every list of numbers: the code's and the document's. -/
import Derived.Test.YtpldcmhbbhjhgaaWalksA
import Derived.Laws.Tables
import Derived.Deep.RegionHeld3
import Derived.Below
namespace Go.Proofs.Ytpldcmhbbhjhgaa
open Go.RowKit
set_option linter.unusedVariables false

abbrev zeros5 : Array Value := #[.int .i64 0, .int .i64 0, .int .i64 0, .int .i64 0, .int .i64 0]
theorem five_size (p q r s t : Int) : (Try.prog.info? 23).map (·.size) = some (#[Value.int .i64 p, .int .i64 q, .int .i64 r, .int .i64 s, .int .i64 t] : Array Value).size := Try.size23
theorem five_one (p q r s t : Int) : (#[Value.int .i64 p, .int .i64 q, .int .i64 r, .int .i64 s, .int .i64 t] : Array Value).all (·.oneCell') = true := by kernel_rfl

theorem below_setRow {B g : Nat} {a w : World} (h : Below B a w) (hg : B ≤ g) (cs : Array Value) : Below B a (w.setRow g cs) :=
  ⟨h.os, h.tape, h.output, by have := h.size; simpa [World.setRow] using this, fun k hk => by
    rw [← h.block k hk]
    simp [World.setRow, Array.getElem?_modify, show g ≠ k by omega]⟩


/-- What the region knows of each world: the five numbers, and the result's box, still empty. -/
theorem box_cells {w u : World} {cs : Array Value} {t : TypeId} (h : Below (w.heap.size + 1) (w.alloc (.cells cs t)) u) : u.heap[w.heap.size]? = some (.cells cs t (0, 0)) :=
  (h.block w.heap.size (by omega)).trans (heap_alloc_new w _)

theorem box5 {u : World} {g : Nat} (h : u.heap[g]? = some (.cells zeros5 23 (0, 0))) (i : Nat) (hi : i < 5) : u.cell? ⟨g, i, none⟩ = some (.int .i64 0) ∧ u.frozen? ⟨g, i, none⟩ = false := by
  rw [cell_of_row u g i _ 23 (0, 0) h]
  refine ⟨?_, by simp [World.frozen?, h]⟩
  match i, hi with
  | 0, _ => rfl
  | 1, _ => rfl
  | 2, _ => rfl
  | 3, _ => rfl
  | 4, _ => rfl

theorem set5_heap {u : World} {g : Nat} {t : TypeId} (h : u.heap[g]? = some (.cells zeros5 t (0, 0))) (p q r s v : Value) :
    (((((u.setCell ⟨g, 0, none⟩ p).setCell ⟨g, 1, none⟩ q).setCell ⟨g, 2, none⟩ r).setCell ⟨g, 3, none⟩ s).setCell ⟨g, 4, none⟩ v).heap[g]? = some (.cells #[p, q, r, s, v] t (0, 0)) := by
  have h1 := heap_setCell_same u g 0 _ t p h
  have h2 := heap_setCell_same _ g 1 _ t q h1
  have h3 := heap_setCell_same _ g 2 _ t r h2
  have h4 := heap_setCell_same _ g 3 _ t s h3
  exact heap_setCell_same _ g 4 _ t v h4

theorem set5_below {B : Nat} {a u : World} {g : Nat} (h : Below B a u) (hg : B ≤ g) (p q r s v : Value) :
    Below B a (((((u.setCell ⟨g, 0, none⟩ p).setCell ⟨g, 1, none⟩ q).setCell ⟨g, 2, none⟩ r).setCell ⟨g, 3, none⟩ s).setCell ⟨g, 4, none⟩ v) :=
  ((((h.setCell (p := ⟨g, 0, none⟩) hg p).setCell (p := ⟨g, 1, none⟩) hg q).setCell (p := ⟨g, 2, none⟩) hg r).setCell (p := ⟨g, 3, none⟩) hg s).setCell (p := ⟨g, 4, none⟩) hg v

theorem box_all {u : World} {g : Nat} (h : u.heap[g]? = some (.cells zeros5 23 (0, 0))) :
    u.cell? ⟨g, 0, none⟩ = some (.int .i64 0) ∧ u.frozen? ⟨g, 0, none⟩ = false ∧ u.cell? ⟨g, 1, none⟩ = some (.int .i64 0) ∧ u.frozen? ⟨g, 1, none⟩ = false ∧ u.cell? ⟨g, 2, none⟩ = some (.int .i64 0) ∧ u.frozen? ⟨g, 2, none⟩ = false ∧
    u.cell? ⟨g, 3, none⟩ = some (.int .i64 0) ∧ u.frozen? ⟨g, 3, none⟩ = false ∧ u.cell? ⟨g, 4, none⟩ = some (.int .i64 0) ∧ u.frozen? ⟨g, 4, none⟩ = false :=
  ⟨(box5 h 0 (by omega)).1, (box5 h 0 (by omega)).2, (box5 h 1 (by omega)).1, (box5 h 1 (by omega)).2, (box5 h 2 (by omega)).1, (box5 h 2 (by omega)).2, (box5 h 3 (by omega)).1, (box5 h 3 (by omega)).2, (box5 h 4 (by omega)).1, (box5 h 4 (by omega)).2⟩

theorem after_call {w u1 : World} (h : Below (w.alloc (.cells zeros5 23)).drew.heap.size (w.alloc (.cells zeros5 23)).drew u1) : Hid (u1.heap[w.heap.size]? = some (.cells zeros5 23 (0, 0))) ∧ Hid (Below w.heap.size w u1) := by
  refine ⟨(h.block w.heap.size ?_).trans (heap_alloc_new w _), (((Below.refl w.heap.size w).alloc (Nat.le_refl _) (.cells zeros5 23)).drew).trans (h.mono ?_)⟩
  · show _ < (w.alloc _).heap.size
    simp
  · show _ ≤ (w.alloc _).heap.size
    simp

/-- What Op tells of a list. -/
def Op1 (zs : List Int) (p q r s t : Int) (ok : Bool) : Prop :=
  (zs.length = 5 ∧ Pl (zs.getD 0 0) (zs.getD 1 0) (zs.getD 2 0) (zs.getD 3 0) (zs.getD 4 0) p q r s t ok) ∨ (zs.length ≠ 5 ∧ p = 0 ∧ q = 0 ∧ r = 0 ∧ s = 0 ∧ t = 0 ∧ ok = false)
theorem Op1.some_ (zs : List Int) : ∃ p q r s t ok, Op1 zs p q r s t ok := by
  by_cases h : zs.length = 5
  · obtain ⟨p, q, r, s, t, ok, hp⟩ := Pl.some_ (zs.getD 0 0) (zs.getD 1 0) (zs.getD 2 0) (zs.getD 3 0) (zs.getD 4 0)
    exact ⟨p, q, r, s, t, ok, .inl ⟨h, hp⟩⟩
  · exact ⟨0, 0, 0, 0, 0, false, .inr ⟨h, rfl, rfl, rfl, rfl, rfl, rfl⟩⟩

set_option maxHeartbeats 1000000 in
theorem op_yes (b o c : Nat) (x0 x1 x2 x3 x4 p q r s t : Int) (ok : Bool) (w : World) (hb : b < w.heap.size)
    (h0 : w.cell? ⟨b, o, none⟩ = some (.int .i64 x0)) (h1 : w.cell? ⟨b, o + 1, none⟩ = some (.int .i64 x1)) (h2 : w.cell? ⟨b, o + 2, none⟩ = some (.int .i64 x2)) (h3 : w.cell? ⟨b, o + 3, none⟩ = some (.int .i64 x3)) (h4 : w.cell? ⟨b, o + 4, none⟩ = some (.int .i64 x4))
    (hp : Hid (Pl x0 x1 x2 x3 x4 p q r s t ok)) :
    Calls Try.prog 12 #[.slice (some ⟨b, o, none⟩) 5 c] w (Drew (.tuple #[O5 p q r s t, .bool ok]) w) := by
  have hN : Hid (∀ u, Hid (Below w.heap.size w u) → (u.cell? ⟨b, o, none⟩ = some (.int .i64 x0) ∧ u.cell? ⟨b, o + 1, none⟩ = some (.int .i64 x1) ∧ u.cell? ⟨b, o + 2, none⟩ = some (.int .i64 x2) ∧ u.cell? ⟨b, o + 3, none⟩ = some (.int .i64 x3) ∧ u.cell? ⟨b, o + 4, none⟩ = some (.int .i64 x4) ∧ Hid (Below w.heap.size w u))) := by
    intro u hu
    have g : ∀ i, u.cell? ⟨b, i, none⟩ = w.cell? ⟨b, i, none⟩ := fun i => hu.out.cell (p := ⟨b, i, none⟩) hb
    exact ⟨(g _).trans h0, (g _).trans h1, (g _).trans h2, (g _).trans h3, (g _).trans h4, hu⟩
  clear h0 h1 h2 h3 h4
  have D0 := hide (((Below.refl w.heap.size w).alloc (Nat.le_refl _) (.cells zeros5 23)).drew)
  have hge : w.heap.size ≤ w.heap.size := Nat.le_refl _
  go_enter Try.func12, Try.ntmps12
  go_wp2
  go_region_held3 (fun u => u.cell? ⟨b, o, none⟩ = some (.int .i64 x0) ∧ u.cell? ⟨b, o + 1, none⟩ = some (.int .i64 x1) ∧ u.cell? ⟨b, o + 2, none⟩ = some (.int .i64 x2) ∧ u.cell? ⟨b, o + 3, none⟩ = some (.int .i64 x3) ∧ u.cell? ⟨b, o + 4, none⟩ = some (.int .i64 x4) ∧ Hid (Below w.heap.size w u)) (first | exact hN.out _ D0 | exact hN.out _ (by assumption) | exact hN.out _ (hide (set5_below (Hid.out (by assumption)) (Nat.le_refl _) _ _ _ _ _)))
    (first | (go_at_call 10; refine (plain_any _ _ _ _ _ _ _ _ _ _ _ _ hp).mono ?_; rintro e u1 ⟨rfl, hu1⟩; have ⟨HG, BU⟩ := after_call hu1; clear hu1; obtain ⟨c0, f0, c1, f1, c2, f2, c3, f3, c4, f4⟩ := box_all HG.out))
  clear c0 f0 c1 f1 c2 f2 c3 f3 c4 f4
  go_wp2
  refine bodyPost_ret (results_row_tmp rfl _ _ w.heap.size 23 _ (0, 0) _ rfl (set5_heap HG.out _ _ _ _ _) Try.underlying23 rfl Try.size23) rfl ⟨rfl, set5_below BU.out (Nat.le_refl _) _ _ _ _ _⟩

set_option maxHeartbeats 400000 in
theorem op_no (A : Option Addr) (n c : Nat) (w : World) (h : ((n : Int) != 5) = true) (hn : n ≤ 65536) :
    Calls Try.prog 12 #[.slice A n c] w (Drew (.tuple #[O5 0 0 0 0 0, .bool false]) w) := by
  go_enter Try.func12, Try.ntmps12
  go_wp2
  refine bodyPost_ret (results_row_tmp rfl _ _ w.heap.size 23 _ (0, 0) _ rfl (heap_alloc_new _ _) Try.underlying23 rfl Try.size23) rfl ⟨rfl, (Below.refl _ _).alloc (Nat.le_refl _) _⟩

/-- .. of any numbers. -/
theorem op_any (A : Option Addr) (n c B : Nat) (zs : List Int) (p q r s t : Int) (ok : Bool) (w : World) (h : Nums w B 1 A n zs) (hB : B ≤ w.heap.size) (hn : n ≤ 65536) (ho : Hid (Op1 zs p q r s t ok)) :
    Calls Try.prog 12 #[.slice A n c] w (Drew (.tuple #[O5 p q r s t, .bool ok]) w) := by
  rcases ho.out with ⟨h5, hp⟩ | ⟨h5, rfl, rfl, rfl, rfl, rfl, rfl⟩
  · have hn5 : n = 5 := by have := h.1; omega
    subst hn5
    obtain ⟨b, off, rfl, hb, g0, g1, g2, g3, g4⟩ := h.five1 (k := 0) (by omega)
    exact op_yes b off c _ _ _ _ _ p q r s t ok w (by omega) g0 g1 g2 g3 g4 (hide hp)
  · have := h.1
    exact op_no A n c w (by simp; omega) hn

set_option maxHeartbeats 1000000 in
theorem rop_yes (b o c : Nat) (x0 x1 x2 x3 x4 p q r s t : Int) (ok : Bool) (w : World) (hb : b < w.heap.size)
    (h0 : w.cell? ⟨b, o, none⟩ = some (.int .i64 x0)) (h1 : w.cell? ⟨b, o + 1, none⟩ = some (.int .i64 x1)) (h2 : w.cell? ⟨b, o + 2, none⟩ = some (.int .i64 x2)) (h3 : w.cell? ⟨b, o + 3, none⟩ = some (.int .i64 x3)) (h4 : w.cell? ⟨b, o + 4, none⟩ = some (.int .i64 x4))
    (hp : Hid (Pl x0 x1 x2 x3 x4 p q r s t ok)) :
    Calls Try.prog 13 #[.slice (some ⟨b, o, none⟩) 5 c] w (Drew (.tuple #[O5 p q r s t, .bool ok]) w) := by
  have hN : Hid (∀ u, Hid (Below w.heap.size w u) → (u.cell? ⟨b, o, none⟩ = some (.int .i64 x0) ∧ u.cell? ⟨b, o + 1, none⟩ = some (.int .i64 x1) ∧ u.cell? ⟨b, o + 2, none⟩ = some (.int .i64 x2) ∧ u.cell? ⟨b, o + 3, none⟩ = some (.int .i64 x3) ∧ u.cell? ⟨b, o + 4, none⟩ = some (.int .i64 x4) ∧ Hid (Below w.heap.size w u))) := by
    intro u hu
    have g : ∀ i, u.cell? ⟨b, i, none⟩ = w.cell? ⟨b, i, none⟩ := fun i => hu.out.cell (p := ⟨b, i, none⟩) hb
    exact ⟨(g _).trans h0, (g _).trans h1, (g _).trans h2, (g _).trans h3, (g _).trans h4, hu⟩
  clear h0 h1 h2 h3 h4
  have D0 := hide (((Below.refl w.heap.size w).alloc (Nat.le_refl _) (.cells zeros5 23)).drew)
  have hge : w.heap.size ≤ w.heap.size := Nat.le_refl _
  go_enter Try.func13, Try.ntmps13
  go_wp2
  go_region_held3 (fun u => u.cell? ⟨b, o, none⟩ = some (.int .i64 x0) ∧ u.cell? ⟨b, o + 1, none⟩ = some (.int .i64 x1) ∧ u.cell? ⟨b, o + 2, none⟩ = some (.int .i64 x2) ∧ u.cell? ⟨b, o + 3, none⟩ = some (.int .i64 x3) ∧ u.cell? ⟨b, o + 4, none⟩ = some (.int .i64 x4) ∧ Hid (Below w.heap.size w u)) (first | exact hN.out _ D0 | exact hN.out _ (by assumption) | exact hN.out _ (hide (set5_below (Hid.out (by assumption)) (Nat.le_refl _) _ _ _ _ _)))
    (first | (go_at_call 11; refine (rplain_any _ _ _ _ _ _ _ _ _ _ _ _ hp).mono ?_; rintro e u1 ⟨rfl, hu1⟩; have ⟨HG, BU⟩ := after_call hu1; clear hu1; obtain ⟨c0, f0, c1, f1, c2, f2, c3, f3, c4, f4⟩ := box_all HG.out))
  clear c0 f0 c1 f1 c2 f2 c3 f3 c4 f4
  go_wp2
  refine bodyPost_ret (results_row_tmp rfl _ _ w.heap.size 23 _ (0, 0) _ rfl (set5_heap HG.out _ _ _ _ _) Try.underlying23 rfl Try.size23) rfl ⟨rfl, set5_below BU.out (Nat.le_refl _) _ _ _ _ _⟩

set_option maxHeartbeats 400000 in
theorem rop_no (A : Option Addr) (n c : Nat) (w : World) (h : ((n : Int) != 5) = true) (hn : n ≤ 65536) :
    Calls Try.prog 13 #[.slice A n c] w (Drew (.tuple #[O5 0 0 0 0 0, .bool false]) w) := by
  go_enter Try.func13, Try.ntmps13
  go_wp2
  refine bodyPost_ret (results_row_tmp rfl _ _ w.heap.size 23 _ (0, 0) _ rfl (heap_alloc_new _ _) Try.underlying23 rfl Try.size23) rfl ⟨rfl, (Below.refl _ _).alloc (Nat.le_refl _) _⟩

/-- .. of any numbers. -/
theorem rop_any (A : Option Addr) (n c B : Nat) (zs : List Int) (p q r s t : Int) (ok : Bool) (w : World) (h : Nums w B 1 A n zs) (hB : B ≤ w.heap.size) (hn : n ≤ 65536) (ho : Hid (Op1 zs p q r s t ok)) :
    Calls Try.prog 13 #[.slice A n c] w (Drew (.tuple #[O5 p q r s t, .bool ok]) w) := by
  rcases ho.out with ⟨h5, hp⟩ | ⟨h5, rfl, rfl, rfl, rfl, rfl, rfl⟩
  · have hn5 : n = 5 := by have := h.1; omega
    subst hn5
    obtain ⟨b, off, rfl, hb, g0, g1, g2, g3, g4⟩ := h.five1 (k := 0) (by omega)
    exact rop_yes b off c _ _ _ _ _ p q r s t ok w (by omega) g0 g1 g2 g3 g4 (hide hp)
  · have := h.1
    exact rop_no A n c w (by simp; omega) hn

end Go.Proofs.Ytpldcmhbbhjhgaa
