/- What New tells, the code's and the document's; an era in a box whose list grows. -/
import Derived.Test.YteckldjdkcbkdaaWalksC
import Derived.Laws.MakeOwn
import Derived.Deep.AppendLies
namespace Go.Proofs.Yteckldjdkcbkdaa
open Go.RowKit
set_option linter.unusedVariables false

theorem make_rows {P : Program} (t e : TypeId) (i : TypeInfo) (z : Value) (ht : P.underlying t = some (.slice e)) (hi : P.info? e = some i) (hz : i.zero = some z) (n : Nat) (hbytes : i.bytes * n ≤ 281474976710656) (h63 : n ≤ 9223372036854775807) (w : World) :
    (Instr.makeSlice t (.int .i64 (n : Int)) (.int .i64 (n : Int))).run P w = .ok (.slice (some ⟨w.heap.size, 0, none⟩) n n) (w.alloc (.cells (madeCells z.cells (n * i.size)) e)) := by
  have hb : (i.bytes : Int) * (n : Int) ≤ 281474976710656 := by
    have h : ((i.bytes * n : Nat) : Int) ≤ 281474976710656 := by omega
    rwa [Int.natCast_mul] at h
  have hr := run_make (P := P) w t e i z ht hi hz .i64 .i64 n n (by omega) (by omega) hb (by omega)
  simpa only [Int.toNat_natCast] using hr

theorem make_ints (n : Nat) (hn : n ≤ 200) : ∃ Z : Array Value, Hid (Z = (List.replicate n (Value.int .i64 0)).toArray) ∧ ∀ w : World, (Instr.makeSlice 22 (.int .i64 (n : Int)) (.int .i64 (n : Int))).run Try.prog w = .ok (.slice (some ⟨w.heap.size, 0, none⟩) n n) (w.alloc (.cells Z 3)) := by
  obtain ⟨i0, hi0, hz0, hz1, hz2⟩ := info_parts Try.info3
  refine ⟨_, rfl, fun w => ?_⟩
  rw [make_rows 22 3 i0 (.int .i64 0) Try.underlying22 hi0 hz0 n (by rw [hz2]; omega) (by omega) w, hz1, Nat.mul_one]
  rw [show (Value.int IntKind.i64 0).cells = #[Value.int .i64 0] from rfl, ← toList_madeCells_one]

/-- A block of numbers is a row of the call's own. -/
theorem own_of {u : World} {g B n : Nat} {zs : List Int} (h : u.heap[g]? = some (.cells (ints zs).toArray 3 (0, 0))) (hl : zs.length = n) (hn : n ≤ 200) (hB : B ≤ g) : u.ownsRow B 3 1 (.slice (some ⟨g, 0, none⟩) n n) n (ints zs) := by
  subst hl
  exact ⟨by simp, .inr ⟨g, zs.length, (ints zs).toArray, rfl, hB, h, Nat.le_refl _, by simp only [maxLen]; omega, by simp, by rw [Nat.mul_one]; exact List.take_of_length_le (by simp)⟩⟩

/-- k times -1, then 0. -/
def negs (n k : Nat) : List Int := List.replicate k (-1) ++ List.replicate (n - k) 0
theorem negs_zero (n : Nat) : negs n 0 = List.replicate n 0 := by simp [negs]
theorem negs_all (n : Nat) : negs n n = List.replicate n (-1) := by simp [negs]
theorem negs_len {n k : Nat} (h : k ≤ n) : (negs n k).length = n := by simp [negs]; omega
theorem negs_next {n k : Nat} (h : k < n) : (negs n k).set k (-1) = negs n (k + 1) := by
  unfold negs
  rw [List.set_append_right _ _ (by simp), List.length_replicate, Nat.sub_self, show n - k = (n - (k + 1)) + 1 by omega, List.replicate_succ, List.set_cons_zero, List.replicate_succ' (n := k), List.append_assoc]
  rfl

set_option maxHeartbeats 1000000 in
theorem new_ok (n : Nat) (w : World) (h1 : 1 ≤ n) (h2 : n ≤ 64) :
    Calls Try.prog 10 #[.int .i64 (n : Int)] w (Tell2 w 0 (List.replicate n (-1)) (.int .i64 0)) := by
  obtain ⟨Z, HZ, hmk⟩ := make_ints n (by omega)
  have X0 := hide ((EBox.new w zeros2).alloc (.cells Z 3))
  have B0 := hide (((Below.refl w.heap.size w).alloc (Nat.le_refl _) (.cells zeros2 24)).alloc (by simp) (.cells Z 3))
  have R0 : Hid (Row ((w.alloc (.cells zeros2 24)).alloc (.cells Z 3)) (w.heap.size + 1) (some ⟨w.heap.size + 1, 0, none⟩) n n (negs n 0)) :=
    ⟨own_of (by rw [heap_alloc2_new w _ _, HZ.out, negs_zero]; simp [ints]) (negs_len (by omega)) (by omega) (Nat.le_refl _), fun h => by cases h⟩
  go_enter Try.func10, Try.ntmps10
  go_wp2_with fail
  refine (isCount_yes _ _ (by omega) (by omega)).mono ?_
  rintro e w' ⟨rfl, rfl⟩
  go_wp2
  clear hmk HZ
  go_loopw [14] (fun i wr => ∃ k : Nat, k ≤ n ∧ i = .int .i64 k ∧ Hid (EBox wr w.heap.size zeros2) ∧ Hid (Below w.heap.size w wr) ∧ Hid (Row wr (w.heap.size + 1) (some ⟨w.heap.size + 1, 0, none⟩) n n (negs n k))) (fun i _ => n - (intOf i).toNat)
  case atStart => exact ⟨0, by omega, rfl, X0, B0, R0⟩
  case round =>
    obtain ⟨k, hk, rfl, X1, B1, R1⟩ := hrel
    clear X0 B0 R0
    by_cases hlt : k < n
    · have v1 := own_at R1.out.1 hlt
      have v2 := R1.out.1.frozenAt k
      have v3 := (own_ge R1.out.1).2
      generalize (negs n k).getD k 0 = z at v1
      go_wp2
      go_roundw
      case rel =>
        refine ⟨k + 1, by omega, by go_num, X1.out.other (by omega) _, B1.out.setCell (by simp) _, ?_⟩
        show Row _ _ _ _ _ _
        rw [← negs_next hlt]
        exact ⟨own_set R1.out.1 _ _, fun h => by cases h⟩
      case measure => simp [intOf]; omega
    · obtain rfl : k = n := by omega
      obtain ⟨y0, f0, y1, f1⟩ := zero_cells X1.out
      have hl := X1.out.lt
      have HR := hide (set2_row R1.out X1.out (.int .i64 0) (.slice (some ⟨w.heap.size + 1, 0, none⟩) k k))
      go_wp2
      exact bodyPost_ret (results_row_one rfl _ _ w.heap.size 24 _ (0, 0) _ rfl (set2_box X1.out _ _) Try.underlying24 rfl Try.size24) rfl ⟨some ⟨w.heap.size + 1, 0, none⟩, k, k, rfl, by rw [← negs_all]; exact HR.out.less (by omega), set2_below B1.out (Nat.le_refl _) _ _⟩

/-- What comes of a result that is left zero. -/
theorem none_told (w : World) : Row (w.alloc (.cells zeros2 24)) w.heap.size none 0 0 [] ∧ Below w.heap.size w (w.alloc (.cells zeros2 24)) := ⟨Row.nil _ _, (Below.refl _ _).alloc (Nat.le_refl _) _⟩

set_option maxHeartbeats 400000 in
theorem new_no (n : Int) (w : World) (h : n < 1 ∨ 64 < n) : Calls Try.prog 10 #[.int .i64 n] w (Tell2 w 0 [] (.int .i64 1)) := by
  go_enter Try.func10, Try.ntmps10
  go_wp2_with fail
  refine (isCount_no _ _ h).mono ?_
  rintro e w' ⟨rfl, rfl⟩
  clear h
  go_wp2
  exact bodyPost_ret (results_row_one rfl _ _ w.heap.size 24 _ (0, 0) _ rfl (EBox.new w zeros2) Try.underlying24 rfl Try.size24) rfl ⟨none, 0, 0, rfl, none_told w⟩

set_option maxHeartbeats 400000 in
theorem rnew_no (n : Int) (w : World) (h : Hid (n < 1 ∨ 64 < n)) : Calls Try.prog 11 #[.int .i64 n] w (Tell2 w 0 [] (.int .i64 1)) := by
  by_cases c1 : n < 1
  · have d1 : decide (n < 1) = true := by simpa using c1
    go_enter Try.func11, Try.ntmps11
    go_wp2
    exact bodyPost_ret (results_row_one rfl _ _ w.heap.size 24 _ (0, 0) _ rfl (EBox.new w zeros2) Try.underlying24 rfl Try.size24) rfl ⟨none, 0, 0, rfl, none_told w⟩
  · have d1 : decide (n < 1) = false := by simpa using c1
    have d2 : decide (64 < n) = true := by have := h.out; simp; omega
    go_enter Try.func11, Try.ntmps11
    go_wp2
    exact bodyPost_ret (results_row_one rfl _ _ w.heap.size 24 _ (0, 0) _ rfl (EBox.new w zeros2) Try.underlying24 rfl Try.size24) rfl ⟨none, 0, 0, rfl, none_told w⟩

/-- Block t is the box of an era whose list lies from block B on, behind the box. -/
structure Lay (w u : World) (B t : Nat) (x : Int) (A : Option Addr) (k c : Nat) (zs : List Int) : Prop where
  bel : Below w.heap.size w u
  ge : w.heap.size ≤ t
  box : EBox u t (C2 x A k c)
  row : Row u B A k c zs
  lt : t < B
  le : B ≤ u.heap.size
section
variable {w u u1 : World} {B t k c : Nat} {x : Int} {A : Option Addr} {zs : List Int}
theorem Lay.alloc (h : Lay w u B t x A k c zs) (o : Obj) : Lay w (u.alloc o) B t x A k c zs := ⟨h.bel.alloc h.bel.size _, h.ge, h.box.alloc _, h.row.alloc _, h.lt, by have := h.le; simp; omega⟩
theorem lit_nums (u : World) (z : Int) : Nums (u.alloc (.cells #[.int .i64 z] 3)) (u.heap.size + 1) 1 (some ⟨u.heap.size, 0, none⟩) 1 [z] := by
  refine ⟨rfl, fun _ => ⟨_, _, rfl, by omega, fun i hi => ?_⟩⟩
  obtain rfl : i = 0 := by omega
  exact cell_of_row _ u.heap.size 0 _ 3 (0, 0) (heap_alloc_new u _)
theorem Lay.grown (h : Lay w u B t x A k c zs) {A' : Option Addr} {c' : Nat} {z : Int} (hown : u1.ownsRow B 3 1 (.slice A' (k + 1) c') (k + 1) (ints (zs ++ [z]))) (hz : A' = none → c' = 0) (hb : Below B u u1) :
    EBox u1 t (C2 x A k c) ∧ Lay w (u1.setCell ⟨t, 1, none⟩ (.slice A' (k + 1) c')) B t x A' (k + 1) c' (zs ++ [z]) := by
  have hx : EBox u1 t (C2 x A k c) := h.box.below hb h.lt
  have hr : Row u1 B A' (k + 1) c' (zs ++ [z]) := ⟨hown, hz⟩
  have h1 := h.ge
  have h2 := h.lt
  exact ⟨hx, ⟨(h.bel.trans (hb.mono (by omega))).setCell h.ge _, h.ge, hx.set 1 _, hr.box hx _ _, h.lt, by have := h.le; have := hb.size; simp; omega⟩⟩
end

/-- One number more. -/
theorem more_negs (k : Nat) : List.replicate k (-1 : Int) ++ [-1] = List.replicate (k + 1) (-1) := by rw [List.replicate_succ']

set_option maxHeartbeats 1000000 in
theorem rnew_ok (n : Nat) (w : World) (h1 : 1 ≤ n) (h2 : n ≤ 64) :
    Calls Try.prog 11 #[.int .i64 (n : Int)] w (Tell2 w 0 (List.replicate n (-1)) (.int .i64 0)) := by
  obtain ⟨i0, hi0, hz0, hz1, hz2⟩ := info_parts Try.info3
  have H1 := hide hi0
  have H2 := hide hz0
  have H3 := hide hz1
  have H4 := hide hz2
  clear hi0 hz0 hz1 hz2
  have t1 : decide ((n : Int) < 1) = false := by simp; omega
  have t2 : decide ((64 : Int) < (n : Int)) = false := by simp; omega
  obtain ⟨v, hv⟩ : ∃ v, Hid (w.alloc (.cells zeros2 24) = v) := ⟨_, rfl⟩
  have hvs : v.heap.size = w.heap.size + 1 := by rw [← hv.out]; simp
  have XV : Hid (EBox v w.heap.size zeros2) := by show EBox _ _ _; rw [← hv.out]; exact EBox.new w _
  have BV : Hid (Below w.heap.size w v) := by show Below _ _ _; rw [← hv.out]; exact (Below.refl _ _).alloc (Nat.le_refl _) _
  have L0 : Hid (Lay v ((w.alloc (.cells zeros2 24)).alloc (.cells zeros2 24)) (w.heap.size + 2) (w.heap.size + 1) 0 none 0 0 (List.replicate 0 (-1))) := by
    show Lay _ _ _ _ _ _ _ _ _
    have e := hv.out
    rw [e]
    exact ⟨(Below.refl _ _).alloc (Nat.le_refl _) _, by omega, by rw [← hvs]; exact EBox.new v _, Row.nil _ _, by omega, by simp; omega⟩
  go_enter Try.func11, Try.ntmps11
  go_wp2
  go_loopw [14] (fun i wr => ∃ (k : Nat) (A : Option Addr) (c : Nat), k ≤ n ∧ i = .int .i64 k ∧ Hid (Lay v wr (w.heap.size + 2) (w.heap.size + 1) 0 A k c (List.replicate k (-1)))) (fun i _ => n - (intOf i).toNat)
  case atStart => exact ⟨0, none, 0, by omega, rfl, L0⟩
  case round =>
    obtain ⟨k, A, c, hk, rfl, L1⟩ := hrel
    clear L0
    have hc := L1.out.box.cells
    have hl := L1.out.box.lt
    by_cases hlt : k < n
    · have LA := hide (L1.out.alloc (.cells #[.int .i64 (-1)] 3))
      have NA := hide (lit_nums wr (-1))
      go_wp2_with (at_builtin; refine wpList_append_nums _ rfl _ _ 22 rfl (w.heap.size + 2) 3 i0 (.int .i64 0) 1 8 Try.underlying22 H1.out H2.out H3.out H4.out rfl (by decide) _ k (List.replicate k (-1)) rfl LA.out.row.1 (some ⟨wr.heap.size, 0, none⟩) 1 1 _ [-1] rfl (fun h => by cases h) NA.out (by simp only [maxLen]; omega) (by omega) LA.out.le ?_; intro v1 w2 hown hb; obtain ⟨A1, c1, rfl, hA1⟩ := own_form hown; have HG := hide (LA.out.grown hown hA1 hb); have hcb := HG.out.1.cells; have hlb := HG.out.1.lt; have hfb := HG.out.1.frozen; clear hown hb hA1)
      go_roundw
      case rel => exact ⟨k + 1, A1, c1, by omega, by go_num, by show Lay _ _ _ _ _ _ _ _ _; rw [← more_negs]; exact HG.out.2⟩
      case measure => simp [intOf]; omega
    · obtain rfl : k = n := by omega
      have X1 := hide (XV.out.below L1.out.bel (by omega))
      have B1 := hide (BV.out.trans (L1.out.bel.mono (by omega)))
      obtain ⟨y0, f0, y1, f1⟩ := zero_cells X1.out
      have hl2 := X1.out.lt
      have HR := hide (set2_row L1.out.row X1.out (.int .i64 0) (.slice A k c))
      go_wp2
      exact bodyPost_ret (results_row_one rfl _ _ w.heap.size 24 _ (0, 0) _ rfl (set2_box X1.out _ _) Try.underlying24 rfl Try.size24) rfl ⟨A, k, c, rfl, HR.out.less (by omega), set2_below B1.out (Nat.le_refl _) _ _⟩

/-- Both News tell the same. -/
theorem new_any (n : Int) : ∃ (zs : List Int) (e : Int), (∀ w, Calls Try.prog 10 #[.int .i64 n] w (Tell2 w 0 zs (.int .i64 e))) ∧ (∀ w, Calls Try.prog 11 #[.int .i64 n] w (Tell2 w 0 zs (.int .i64 e))) ∧ zs.length ≤ 64 := by
  by_cases h : 1 ≤ n ∧ n ≤ 64
  · obtain ⟨k, rfl⟩ : ∃ k : Nat, n = (k : Int) := ⟨n.toNat, by omega⟩
    exact ⟨List.replicate k (-1), 0, fun w => new_ok k w (by omega) (by omega), fun w => rnew_ok k w (by omega) (by omega), by simp; omega⟩
  · have h' : n < 1 ∨ 64 < n := by omega
    exact ⟨[], 1, fun w => new_no n w h', fun w => rnew_no n w h', by simp⟩

end Go.Proofs.Yteckldjdkcbkdaa
