/- What each function of layer 2 answers, for every input: the callees' contracts that the six proofs share. -/
import Derived.Test.YtgfhhippgkflpaaRows
import Derived.Test.YtgfhhippgkflpaaWords
import Derived.WalkKit
import Derived.Below
import Derived.Deep.QuietTactic
import Derived.BigQuiet
namespace Go.Proofs.Ytgfhhippgkflpaa
open Go.RowKit
set_option linter.unusedVariables false

theorem Try.info3 : (Try.prog.info? 3).map (fun i => (i.zero, i.size, i.bytes)) = some (some (.int .i64 0), 1, 8) := by kernel_rfl
theorem Try.size3 : (Try.prog.info? 3).map (·.size) = some 1 := by kernel_rfl

set_option maxHeartbeats 400000 in
theorem isPlace_yes (A : Option Addr) (n c k : Nat) (w : World) (hk : k < n) (hn : n ≤ 65536) :
    Calls Try.prog 20 #[.slice A n c, .int .i64 (k : Int)] w fun e w' => e = .returned (.bool true) ∧ w = w' := by
  have h1 : decide ((0 : Int) ≤ (k : Int)) = true := by simp
  have h2 : decide ((k : Int) < (n : Int)) = true := by simp; omega
  go_enter Try.func20, Try.ntmps20
  go_wp2
  go_ret
  exact ⟨rfl, rfl⟩

set_option maxHeartbeats 400000 in
theorem isPlace_no (A : Option Addr) (n c : Nat) (k : Int) (w : World) (hk : k < 0 ∨ (n : Int) ≤ k) (hn : n ≤ 65536) :
    Calls Try.prog 20 #[.slice A n c, .int .i64 k] w fun e w' => e = .returned (.bool false) ∧ w = w' := by
  by_cases c1 : k < 0
  · clear hk
    have h1 : decide ((0 : Int) ≤ k) = false := by simp; omega
    go_enter Try.func20, Try.ntmps20
    go_wp2
    go_ret
    exact ⟨rfl, rfl⟩
  have c2 : (n : Int) ≤ k := by omega
  clear hk
  have h1 : decide ((0 : Int) ≤ k) = true := by simp; omega
  have h2 : decide (k < (n : Int)) = false := by simp; omega
  go_enter Try.func20, Try.ntmps20
  go_wp2
  go_ret
  exact ⟨rfl, rfl⟩

set_option maxHeartbeats 400000 in
theorem fresh_any (A : Option Addr) (n c B : Nat) (zs : List Int) (w : World) (h : Nums w B A n zs) (hB : B ≤ w.heap.size) (hn : n ≤ 65536) :
    Calls Try.prog 21 #[.slice A n c] w (Told1 w n zs) := by
  obtain ⟨i0, hi0, hz0, hz1, hz2⟩ := info_parts Try.info3
  have hby : i0.bytes * n ≤ 281474976710656 := by rw [hz2]; omega
  have HB := hide hby
  have H1 := hide hi0
  have H2 := hide hz0
  have H3 := hide hz1
  clear hby hi0 hz0 hz1 hz2
  have hlen := h.1
  have HL : Hid ((zs.map (Value.int .i64)).length = Nat.min n n) := by show _ = _; simp [hlen]
  have HZ : Hid ((zs.map (Value.int .i64)).length = (List.replicate n (Value.int .i64 0)).length) := by show _ = _; simp [hlen]
  have HN := hide hlen
  clear hlen
  go_enter Try.func21, Try.ntmps21
  go_wp2_with (first
    | (at_make; refine wpList_make_full _ rfl _ _ 22 rfl w.heap.size 3 i0 (.int .i64 0) 1 Try.underlying22 H1.out H2.out H3.out _ _ _ _ n rfl rfl rfl rfl HB.out (by simp only [maxLen]; omega) (Nat.le_refl _) ?_; intro w1 hown hgrow; have hbel : Below w.heap.size w w1 := (Below.refl _ _).grown hgrow (Nat.le_refl _) (by simp); have HG : Hid (w1.heap[w.heap.size]? = some (.cells (List.replicate n (Value.int .i64 0)).toArray 3 (0, 0))) := (own_block hown).trans (by rw [show n * 1 = n from Nat.mul_one n]; rw [show (Value.int IntKind.i64 0).cells = #[Value.int .i64 0] from rfl, toList_madeCells_one]); have HM := hide (h.below hbel hB); clear hown hgrow)
    | (with_reducible refine wpList_copy_splice rfl (.tmp 7) (.tmp 8) 22 22 rfl 3 Try.underlying22 Try.size3 _ _ _ _ _ _ rfl rfl w.heap.size 0 (List.replicate n (Value.int .i64 0)) 3 HG.out (zs.map (Value.int .i64)) HL.out (fun hp => ⟨rfl, HM.out.copied hp⟩) (by rw [HZ.out]; omega) (ints_oneCell _ _) w.heap.size w hbel (Nat.le_refl _) ?_; intro w2 HG2 hbel2))
  go_ret
  refine ⟨_, _, rfl, ?_, hbel2⟩
  have hg2 := HG2.out
  rw [splice_whole _ _ HZ.out] at hg2
  exact Fresh.of_block HN.out (Nat.le_refl _) hg2

set_option maxHeartbeats 400000 in
theorem new_ok (n : Nat) (w : World) (hn : n ≤ 4096) :
    Calls Try.prog 11 #[.int .i64 (n : Int)] w (Told2 w n (List.replicate n 0)) := by
  obtain ⟨i0, hi0, hz0, hz1, hz2⟩ := info_parts Try.info3
  have hby : i0.bytes * n ≤ 281474976710656 := by rw [hz2]; omega
  have HB := hide hby
  clear hby
  have H1 := hide hi0
  have H2 := hide hz0
  have H3 := hide hz1
  have H4 := hide hz2
  clear hi0 hz0 hz1 hz2
  have h1 : decide ((n : Int) < 0) = false := by simp
  have h2 : decide ((4096 : Int) < (n : Int)) = false := by simp; omega
  go_enter Try.func11, Try.ntmps11
  go_wp2_with (at_make; refine wpList_make_full _ rfl _ _ 22 rfl w.heap.size 3 i0 (.int .i64 0) 1 Try.underlying22 H1.out H2.out H3.out _ _ _ _ n rfl rfl rfl rfl HB.out (by simp only [maxLen]; omega) (Nat.le_refl _) ?_; intro w1 hown hgrow; have hbel : Below w.heap.size w w1 := (Below.refl _ _).grown hgrow (Nat.le_refl _) (by simp); have HG : Hid (w1.heap[w.heap.size]? = some (.cells ((List.replicate n (0 : Int)).map (Value.int .i64)).toArray 3 (0, 0))) := (own_block hown).trans (by rw [show n * 1 = n from Nat.mul_one n, show (Value.int IntKind.i64 0).cells = #[Value.int .i64 0] from rfl, toList_madeCells_one, List.map_replicate]); clear hown hgrow)
  go_ret2
  exact ⟨_, _, rfl, Fresh.of_block (by simp) (Nat.le_refl _) HG.out, hbel⟩

set_option maxHeartbeats 400000 in
theorem new_no (n : Int) (w : World) (h : n < 0 ∨ 4096 < n) :
    Calls Try.prog 11 #[.int .i64 n] w fun e w' => e = .returned (.tuple #[.slice none 0 0, .int .i64 1]) ∧ w = w' := by
  by_cases c1 : n < 0
  · clear h
    have h1 : decide (n < 0) = true := by simpa using c1
    go_enter Try.func11, Try.ntmps11
    go_wp2
    go_ret2
    exact ⟨rfl, rfl⟩
  have c2 : 4096 < n := by omega
  clear h
  have h1 : decide (n < 0) = false := by simp; omega
  have h2 : decide (4096 < n) = true := by simpa using c2
  go_enter Try.func11, Try.ntmps11
  go_wp2
  go_ret2
  exact ⟨rfl, rfl⟩

set_option maxHeartbeats 400000 in
theorem rnew_ok (n : Nat) (w : World) (hn : n ≤ 4096) :
    Calls Try.prog 12 #[.int .i64 (n : Int)] w (Told2 w n (List.replicate n 0)) := by
  obtain ⟨i0, hi0, hz0, hz1, hz2⟩ := info_parts Try.info3
  have hby : i0.bytes * n ≤ 281474976710656 := by rw [hz2]; omega
  have HB := hide hby
  clear hby
  have H1 := hide hi0
  have H2 := hide hz0
  have H3 := hide hz1
  have H4 := hide hz2
  clear hi0 hz0 hz1 hz2
  have h1 : decide ((n : Int) < 0) = false := by simp
  have h2 : decide ((4096 : Int) < (n : Int)) = false := by simp; omega
  go_enter Try.func12, Try.ntmps12
  go_wp2_with (at_make; refine wpList_make_full _ rfl _ _ 22 rfl w.heap.size 3 i0 (.int .i64 0) 1 Try.underlying22 H1.out H2.out H3.out _ _ _ _ n rfl rfl rfl rfl HB.out (by simp only [maxLen]; omega) (Nat.le_refl _) ?_; intro w1 hown hgrow; have hbel : Below w.heap.size w w1 := (Below.refl _ _).grown hgrow (Nat.le_refl _) (by simp); have HG : Hid (w1.heap[w.heap.size]? = some (.cells ((List.replicate n (0 : Int)).map (Value.int .i64)).toArray 3 (0, 0))) := (own_block hown).trans (by rw [show n * 1 = n from Nat.mul_one n, show (Value.int IntKind.i64 0).cells = #[Value.int .i64 0] from rfl, toList_madeCells_one, List.map_replicate]); clear hown hgrow)
  go_ret2
  exact ⟨_, _, rfl, Fresh.of_block (by simp) (Nat.le_refl _) HG.out, hbel⟩

set_option maxHeartbeats 400000 in
theorem rnew_no (n : Int) (w : World) (h : n < 0 ∨ 4096 < n) :
    Calls Try.prog 12 #[.int .i64 n] w fun e w' => e = .returned (.tuple #[.slice none 0 0, .int .i64 1]) ∧ w = w' := by
  by_cases c1 : n < 0
  · clear h
    have h1 : decide (n < 0) = true := by simpa using c1
    go_enter Try.func12, Try.ntmps12
    go_wp2
    go_ret2
    exact ⟨rfl, rfl⟩
  have c2 : 4096 < n := by omega
  clear h
  have h1 : decide (n < 0) = false := by simp; omega
  have h2 : decide (4096 < n) = true := by simpa using c2
  go_enter Try.func12, Try.ntmps12
  go_wp2
  go_ret2
  exact ⟨rfl, rfl⟩

set_option maxHeartbeats 400000 in
theorem load_ok (A : Option Addr) (n c B k : Nat) (zs : List Int) (x : Int) (w : World) (h : Nums w B A n zs) (hx : Hid (zs.getD k 0 = x)) (hk : k < n) (hn : n ≤ 65536) :
    Calls Try.prog 13 #[.slice A n c, .int .i64 (k : Int)] w fun e w' => e = .returned (.tuple #[.int .i64 x, .int .i64 0]) ∧ w = w' := by
  obtain ⟨b, off, rfl, _, hc⟩ := h.at_ hk
  rw [hx.out] at hc
  go_enter Try.func13, Try.ntmps13
  go_wp2_with fail
  refine (isPlace_yes _ _ _ _ _ hk hn).mono ?_
  rintro e w' ⟨rfl, rfl⟩
  go_wp2
  go_ret2
  exact ⟨rfl, rfl⟩

set_option maxHeartbeats 400000 in
theorem load_no (A : Option Addr) (n c : Nat) (k : Int) (w : World) (hk : Hid (k < 0 ∨ (n : Int) ≤ k)) (hn : n ≤ 65536) :
    Calls Try.prog 13 #[.slice A n c, .int .i64 k] w fun e w' => e = .returned (.tuple #[.int .i64 0, .int .i64 1]) ∧ w = w' := by
  go_enter Try.func13, Try.ntmps13
  go_wp2_with fail
  refine (isPlace_no _ _ _ _ _ hk.out hn).mono ?_
  rintro e w' ⟨rfl, rfl⟩
  go_wp2
  go_ret2
  exact ⟨rfl, rfl⟩

set_option maxHeartbeats 400000 in
theorem rload_ok (A : Option Addr) (n c B k : Nat) (zs : List Int) (x : Int) (w : World) (h : Nums w B A n zs) (hx : Hid (zs.getD k 0 = x)) (hk : k < n) (hn : n ≤ 65536) :
    Calls Try.prog 14 #[.slice A n c, .int .i64 (k : Int)] w fun e w' => e = .returned (.tuple #[.int .i64 x, .int .i64 0]) ∧ w = w' := by
  obtain ⟨b, off, rfl, _, hc⟩ := h.at_ hk
  rw [hx.out] at hc
  have h1 : decide ((k : Int) < 0) = false := by simp
  have h2 : decide ((n : Int) ≤ (k : Int)) = false := by simp; omega
  go_enter Try.func14, Try.ntmps14
  go_wp2
  go_ret2
  exact ⟨rfl, rfl⟩

set_option maxHeartbeats 400000 in
theorem rload_no (A : Option Addr) (n c : Nat) (k : Int) (w : World) (hk : Hid (k < 0 ∨ (n : Int) ≤ k)) (hn : n ≤ 65536) :
    Calls Try.prog 14 #[.slice A n c, .int .i64 k] w fun e w' => e = .returned (.tuple #[.int .i64 0, .int .i64 1]) ∧ w = w' := by
  by_cases c1 : k < 0
  · have h1 : decide (k < 0) = true := by simpa using c1
    go_enter Try.func14, Try.ntmps14
    go_wp2
    go_ret2
    exact ⟨rfl, rfl⟩
  have c2 : (n : Int) ≤ k := by have := hk.out; omega
  have h1 : decide (k < 0) = false := by simp; omega
  have h2 : decide ((n : Int) ≤ k) = true := by simpa using c2
  go_enter Try.func14, Try.ntmps14
  go_wp2
  go_ret2
  exact ⟨rfl, rfl⟩

set_option maxHeartbeats 400000 in
theorem copy_any (A : Option Addr) (n c B : Nat) (zs : List Int) (w : World) (h : Nums w B A n zs) (hA : Hid (A = none → c = 0)) (hn : n ≤ 65536) :
    Calls Try.prog 10 #[.slice A n c] w (Told1 w n zs) := by
  obtain ⟨i0, hi0, hz0, hz1, hz2⟩ := info_parts Try.info3
  have H1 := hide hi0
  have H2 := hide hz0
  have H3 := hide hz1
  have H4 := hide hz2
  clear hi0 hz0 hz1 hz2
  go_enter Try.func10, Try.ntmps10
  go_wp2_with (at_builtin; refine wpList_append_nums _ rfl _ _ 22 rfl i0 Try.underlying22 H1.out H2.out H3.out H4.out rfl A n c B zs rfl hA.out h hn ?_; intro A1 c1 w1 hf hb)
  go_ret
  exact ⟨_, _, rfl, hf, hb⟩

set_option maxHeartbeats 400000 in
theorem store_ok (A : Option Addr) (n c B k : Nat) (zs : List Int) (x : Int) (w : World) (h : Nums w B A n zs) (hB : B ≤ w.heap.size) (hk : k < n) (hn : n ≤ 65536) :
    Calls Try.prog 15 #[.slice A n c, .int .i64 (k : Int), .int .i64 x] w (Told2 w n (zs.set k x)) := by
  go_enter Try.func15, Try.ntmps15
  go_wp2_with fail
  refine (isPlace_yes _ _ _ _ _ hk hn).mono ?_
  rintro e w' ⟨rfl, rfl⟩
  go_wp2_with fail
  refine (fresh_any _ _ _ B zs _ h hB hn).mono ?_
  rintro e w1 ⟨A1, c1, rfl, hf, hb⟩
  obtain ⟨g, rfl, hg, _, hc, hfz⟩ := hf.at_ hk
  go_wp2
  go_ret2
  exact ⟨_, _, rfl, hf.stored hk x, hb.setCell hg _⟩

set_option maxHeartbeats 400000 in
theorem store_no (A : Option Addr) (n c : Nat) (k x : Int) (w : World) (hk : Hid (k < 0 ∨ (n : Int) ≤ k)) (hn : n ≤ 65536) :
    Calls Try.prog 15 #[.slice A n c, .int .i64 k, .int .i64 x] w fun e w' => e = .returned (.tuple #[.slice none 0 0, .int .i64 1]) ∧ w = w' := by
  go_enter Try.func15, Try.ntmps15
  go_wp2_with fail
  refine (isPlace_no _ _ _ _ _ hk.out hn).mono ?_
  rintro e w' ⟨rfl, rfl⟩
  go_wp2
  go_ret2
  exact ⟨rfl, rfl⟩

set_option maxHeartbeats 400000 in
theorem rstore_ok (A : Option Addr) (n c B k : Nat) (zs : List Int) (x : Int) (w : World) (h : Nums w B A n zs) (hA : Hid (A = none → c = 0)) (hk : k < n) (hn : n ≤ 65536) :
    Calls Try.prog 16 #[.slice A n c, .int .i64 (k : Int), .int .i64 x] w (Told2 w n (zs.set k x)) := by
  obtain ⟨i0, hi0, hz0, hz1, hz2⟩ := info_parts Try.info3
  have H1 := hide hi0
  have H2 := hide hz0
  have H3 := hide hz1
  have H4 := hide hz2
  clear hi0 hz0 hz1 hz2
  have h1 : decide ((k : Int) < 0) = false := by simp
  have h2 : decide ((n : Int) ≤ (k : Int)) = false := by simp; omega
  go_enter Try.func16, Try.ntmps16
  go_wp2_with (at_builtin; refine wpList_append_nums _ rfl _ _ 22 rfl i0 Try.underlying22 H1.out H2.out H3.out H4.out rfl A n c B zs rfl hA.out h hn ?_; intro A1 c1 w1 hf hb; obtain ⟨g, rfl, hg, _, hc, hfz⟩ := hf.at_ hk)
  go_ret2
  exact ⟨_, _, rfl, hf.stored hk x, hb.setCell hg _⟩

set_option maxHeartbeats 400000 in
theorem rstore_no (A : Option Addr) (n c : Nat) (k x : Int) (w : World) (hk : Hid (k < 0 ∨ (n : Int) ≤ k)) (hn : n ≤ 65536) :
    Calls Try.prog 16 #[.slice A n c, .int .i64 k, .int .i64 x] w fun e w' => e = .returned (.tuple #[.slice none 0 0, .int .i64 1]) ∧ w = w' := by
  by_cases c1 : k < 0
  · have h1 : decide (k < 0) = true := by simpa using c1
    go_enter Try.func16, Try.ntmps16
    go_wp2
    go_ret2
    exact ⟨rfl, rfl⟩
  have c2 : (n : Int) ≤ k := by have := hk.out; omega
  have h1 : decide (k < 0) = false := by simp; omega
  have h2 : decide ((n : Int) ≤ k) = true := by simpa using c2
  go_enter Try.func16, Try.ntmps16
  go_wp2
  go_ret2
  exact ⟨rfl, rfl⟩

set_option maxHeartbeats 400000 in
theorem cas_no (A : Option Addr) (n c : Nat) (k x y : Int) (w : World) (hk : Hid (k < 0 ∨ (n : Int) ≤ k)) (hn : n ≤ 65536) :
    Calls Try.prog 18 #[.slice A n c, .int .i64 k, .int .i64 x, .int .i64 y] w fun e w' => e = .returned (.tuple #[.slice none 0 0, .bool false, .int .i64 1]) ∧ w = w' := by
  go_enter Try.func18, Try.ntmps18
  go_wp2_with fail
  refine (isPlace_no _ _ _ _ _ hk.out hn).mono ?_
  rintro e w' ⟨rfl, rfl⟩
  go_wp2
  go_ret3
  exact ⟨rfl, rfl⟩

set_option maxHeartbeats 400000 in
theorem cas_yes (A : Option Addr) (n c B k : Nat) (zs : List Int) (x y : Int) (w : World) (h : Nums w B A n zs) (hx : Hid (zs.getD k 0 = x)) (hB : B ≤ w.heap.size) (hk : k < n) (hn : n ≤ 65536) :
    Calls Try.prog 18 #[.slice A n c, .int .i64 (k : Int), .int .i64 x, .int .i64 y] w (Told3 w n (zs.set k y) true) := by
  go_enter Try.func18, Try.ntmps18
  go_wp2_with fail
  refine (isPlace_yes _ _ _ _ _ hk hn).mono ?_
  rintro e w' ⟨rfl, rfl⟩
  go_wp2_with fail
  refine (fresh_any _ _ _ B zs _ h hB hn).mono ?_
  rintro e w1 ⟨A1, c1, rfl, hf, hb⟩
  obtain ⟨g, rfl, hg, _, hc, hfz⟩ := hf.at_ hk
  rw [hx.out] at hc
  go_wp2
  go_ret3
  exact ⟨_, _, rfl, hf.stored hk y, hb.setCell hg _⟩

set_option maxHeartbeats 400000 in
theorem cas_not (A : Option Addr) (n c B k : Nat) (zs : List Int) (x y z : Int) (w : World) (h : Nums w B A n zs) (hx : Hid (zs.getD k 0 = z)) (hz : Hid (z ≠ x)) (hB : B ≤ w.heap.size) (hk : k < n) (hn : n ≤ 65536) :
    Calls Try.prog 18 #[.slice A n c, .int .i64 (k : Int), .int .i64 x, .int .i64 y] w (Told3 w n zs false) := by
  have h1 : (z != x) = true := by simpa using hz.out
  go_enter Try.func18, Try.ntmps18
  go_wp2_with fail
  refine (isPlace_yes _ _ _ _ _ hk hn).mono ?_
  rintro e w' ⟨rfl, rfl⟩
  go_wp2_with fail
  refine (fresh_any _ _ _ B zs _ h hB hn).mono ?_
  rintro e w1 ⟨A1, c1, rfl, hf, hb⟩
  obtain ⟨g, rfl, hg, _, hc, hfz⟩ := hf.at_ hk
  rw [hx.out] at hc
  go_wp2
  go_ret3
  exact ⟨_, _, rfl, hf, hb⟩

set_option maxHeartbeats 400000 in
theorem rcas_no (A : Option Addr) (n c : Nat) (k x y : Int) (w : World) (hk : Hid (k < 0 ∨ (n : Int) ≤ k)) (hn : n ≤ 65536) :
    Calls Try.prog 19 #[.slice A n c, .int .i64 k, .int .i64 x, .int .i64 y] w fun e w' => e = .returned (.tuple #[.slice none 0 0, .bool false, .int .i64 1]) ∧ w = w' := by
  go_enter Try.func19, Try.ntmps19
  go_wp2_with fail
  refine (rload_no _ _ _ _ _ hk hn).mono ?_
  rintro e w' ⟨rfl, rfl⟩
  go_wp2
  go_ret3
  exact ⟨rfl, rfl⟩

set_option maxHeartbeats 400000 in
theorem rcas_yes (A : Option Addr) (n c B k : Nat) (zs : List Int) (x y : Int) (w : World) (h : Nums w B A n zs) (hA : Hid (A = none → c = 0)) (hx : Hid (zs.getD k 0 = x)) (hk : k < n) (hn : n ≤ 65536) :
    Calls Try.prog 19 #[.slice A n c, .int .i64 (k : Int), .int .i64 x, .int .i64 y] w (Told3 w n (zs.set k y) true) := by
  go_enter Try.func19, Try.ntmps19
  go_wp2_with fail
  refine (rload_ok _ _ _ B _ zs x _ h hx hk hn).mono ?_
  rintro e w' ⟨rfl, rfl⟩
  go_wp2_with fail
  refine (rstore_ok _ _ _ B _ zs _ _ h hA hk hn).mono ?_
  rintro e w1 ⟨A1, c1, rfl, hf, hb⟩
  go_wp2
  go_ret3
  exact ⟨_, _, rfl, hf, hb⟩

set_option maxHeartbeats 400000 in
theorem rcas_not (A : Option Addr) (n c B k : Nat) (zs : List Int) (x y z : Int) (w : World) (h : Nums w B A n zs) (hA : Hid (A = none → c = 0)) (hx : Hid (zs.getD k 0 = z)) (hz : Hid (z ≠ x)) (hk : k < n) (hn : n ≤ 65536) :
    Calls Try.prog 19 #[.slice A n c, .int .i64 (k : Int), .int .i64 x, .int .i64 y] w (Told3 w n zs false) := by
  obtain ⟨i0, hi0, hz0, hz1, hz2⟩ := info_parts Try.info3
  have H1 := hide hi0
  have H2 := hide hz0
  have H3 := hide hz1
  have H4 := hide hz2
  clear hi0 hz0 hz1 hz2
  have h1 : (z != x) = true := by simpa using hz.out
  go_enter Try.func19, Try.ntmps19
  go_wp2_with fail
  refine (rload_ok _ _ _ B _ zs z _ h hx hk hn).mono ?_
  rintro e w' ⟨rfl, rfl⟩
  go_wp2_with (at_builtin; refine wpList_append_nums _ rfl _ _ 22 rfl i0 Try.underlying22 H1.out H2.out H3.out H4.out rfl A n c B zs rfl hA.out h hn ?_; intro A1 c1 w1 hf hb)
  go_ret3
  exact ⟨_, _, rfl, hf, hb⟩

set_option maxHeartbeats 400000 in
theorem same_yes (A A' : Option Addr) (n c c' B B' : Nat) (zs : List Int) (w : World) (h : Nums w B A n zs) (h' : Nums w B' A' n zs) (hn : n ≤ 65536) :
    Calls Try.prog 17 #[.slice A n c, .slice A' n c'] w (Drew (.bool true) w) := by
  have h0 : (((n : Nat) : Int) != (n : Int)) = false := by simp
  go_enter Try.func17, Try.ntmps17
  go_wp2
  go_loopw [13] (fun i wr => ∃ k q : Nat, k ≤ n ∧ i = .int .i64 k ∧ wr = w.drewN q) (fun i _ => n - (intOf i).toNat)
  case atStart => exact ⟨0, 0, by omega, rfl, rfl⟩
  case round =>
    obtain ⟨k, q, hk, rfl, rfl⟩ := hrel
    by_cases hlt : k < n
    · obtain ⟨b, off, rfl, _, hc⟩ := h.at_ hlt
      obtain ⟨b', off', rfl, _, hc'⟩ := h'.at_ hlt
      generalize zs.getD k 0 = z at hc hc'
      go_wp2
      go_quiet (fail)
      go_wp2
      go_roundw
      case rel => exact ⟨k + 1, _, by omega, by go_num, rfl⟩
      case measure => simp [intOf]; omega
    · go_wp2
      go_ret
      exact ⟨rfl, Below.drewN (Below.refl _ _) _⟩

theorem live_cas (w : World) : Calls Try.prog 18 #[.slice (some ⟨w.heap.size, 0, none⟩) 2 2, .int .i64 1, .int .i64 2, .int .i64 5] (w.alloc (.cells #[.int .i64 1, .int .i64 2] 3))
    (Told3 (w.alloc (.cells #[.int .i64 1, .int .i64 2] 3)) 2 [1, 5] true) :=
  cas_yes (some ⟨w.heap.size, 0, none⟩) 2 2 (w.heap.size + 1) 1 [1, 2] 2 5 _ (Nums.two w 1 2) rfl (by simp) (by omega) (by omega)

set_option maxHeartbeats 400000 in
theorem live_yes (w : World) : Calls Try.prog 9 #[] w (Drew (.bool true) w) := by
  go_enter Try.func9, Try.ntmps9
  go_wp2_with fail
  refine (live_cas w).mono ?_
  rintro e w1 ⟨A1, c1, rfl, hf, hb⟩
  go_wp2_with fail
  refine (same_yes _ _ _ _ _ w1.heap.size (w1.heap.size + 1) [1, 5] _ (hf.nums.below ((Below.refl _ _).alloc (Nat.le_refl _) _) (Nat.le_refl _)) (Nums.two w1 1 5) (by omega)).mono ?_
  rintro e w2 ⟨rfl, hb2⟩
  go_wp2
  go_ret
  refine ⟨rfl, ?_⟩
  have h1 : Below w.heap.size w w1 := ((Below.refl _ _).alloc (Nat.le_refl _) _).trans (hb.mono (by simp))
  exact (h1.alloc h1.size _).trans (hb2.mono (by have := h1.size; simp; omega))

end Go.Proofs.Ytgfhhippgkflpaa
