/- What stands at a word, and the calls that tell where a thing stands: one contract each, whatever the arguments. -/
import Derived.Test.YtknbllhkifigbaaDoorWalksB
namespace Go.Proofs.YtknbllhkifigbaaDoor
open Go.RowKit
set_option linter.unusedVariables false

/-- A function that tells four numbers. -/
theorem four_results {F : Func} {r0 r1 r2 r3 : Tmp} (hr : F.results = #[.tmp r0, .tmp r1, .tmp r2, .tmp r3]) (fr : Array Value) (P : Program) (u : World) :
    (results F fr).run P u = .ok (.tuple #[fr.getD r0 undef, fr.getD r1 undef, fr.getD r2 undef, fr.getD r3 undef]) u := by
  unfold results
  rw [hr]
  simp

/-- What is told of a thing x, m, fd: where it stands (A), or an error (E). -/
def Stands (n e p i j x m fd A E : Int) : Prop :=
  (Ok n e p i j ∧ ∃ K, K < 6 ∧ In n e p i j x m fd K ∧ po n e p i j K + (m - pf K) * pl K + fd = A ∧ E = 0) ∨
  ((¬ Ok n e p i j ∨ ∀ K, K < 6 → ¬ In n e p i j x m fd K) ∧ A = 0 ∧ E = 1)

theorem Stands.some (n e p i j x m fd : Int) : ∃ A E, Stands n e p i j x m fd A E := by
  by_cases h : Ok n e p i j
  · by_cases g : ∃ K, K < 6 ∧ In n e p i j x m fd K
    · obtain ⟨K, hK, hI⟩ := g
      exact ⟨_, 0, .inl ⟨h, K, hK, hI, rfl, rfl⟩⟩
    · exact ⟨0, 1, .inr ⟨.inr fun K hK hI => g ⟨K, hK, hI⟩, rfl, rfl⟩⟩
  · exact ⟨0, 1, .inr ⟨.inl h, rfl, rfl⟩⟩

theorem stand_any (n e p i j x m fd A E : Int) (w : World) (h : Hid (Stands n e p i j x m fd A E)) (T : Hid (Tab w)) :
    Calls Tryd.prog 28 #[.agg #[.int .i64 n, .int .i64 e, .int .i64 p, .int .i64 i, .int .i64 j], .int .i64 x, .int .i64 m, .int .i64 fd] w (Drew (.tuple #[.int .i64 A, .int .i64 E]) w) := by
  rcases h.out with ⟨h1, K, hK, hI, hA, rfl⟩ | ⟨h1, rfl, rfl⟩
  · exact stand_yes n e p i j x m fd A K w h1 T hK hI hA
  · by_cases g : Ok n e p i j
    · rcases h1 with h1 | h1
      · exact absurd g h1
      · exact stand_no n e p i j x m fd w g T h1
    · exact stand_bad n e p i j x m fd w g

set_option maxHeartbeats 400000 in
theorem node_any (n e p i j m A E : Int) (w : World) (h : Hid (Stands n e p i j 4 m 0 A E)) (T : Hid (Tab w)) :
    Calls Tryd.prog 17 #[.agg #[.int .i64 n, .int .i64 e, .int .i64 p, .int .i64 i, .int .i64 j], .int .i64 m] w (Drew (.tuple #[.int .i64 A, .int .i64 E]) w) := by
  have T1 : Hid (∀ o, Tab (w.alloc o)) := fun o => T.out.alloc o
  go_enter Tryd.func17, Tryd.ntmps17
  go_wp2_with fail
  refine (stand_any _ _ _ _ _ _ _ _ A E _ h (T1.out _)).mono ?_
  rintro r w1 ⟨rfl, hb1⟩
  go_wp2
  go_ret2
  exact ⟨rfl, bbox hb1⟩

set_option maxHeartbeats 400000 in
theorem edge_any (n e p i j m A E : Int) (w : World) (h : Hid (Stands n e p i j 5 m 0 A E)) (T : Hid (Tab w)) :
    Calls Tryd.prog 19 #[.agg #[.int .i64 n, .int .i64 e, .int .i64 p, .int .i64 i, .int .i64 j], .int .i64 m] w (Drew (.tuple #[.int .i64 A, .int .i64 E]) w) := by
  have T1 : Hid (∀ o, Tab (w.alloc o)) := fun o => T.out.alloc o
  go_enter Tryd.func19, Tryd.ntmps19
  go_wp2_with fail
  refine (stand_any _ _ _ _ _ _ _ _ A E _ h (T1.out _)).mono ?_
  rintro r w1 ⟨rfl, hb1⟩
  go_wp2
  go_ret2
  exact ⟨rfl, bbox hb1⟩

/-- What is told of a field of a record. -/
def Fields (n e p i j x m fd A E : Int) : Prop := ((1 ≤ x ∧ x ≤ 3) ∧ Stands n e p i j x m fd A E) ∨ ((x < 1 ∨ 3 < x) ∧ A = 0 ∧ E = 1)

theorem Fields.some (n e p i j x m fd : Int) : ∃ A E, Fields n e p i j x m fd A E := by
  by_cases h : 1 ≤ x ∧ x ≤ 3
  · obtain ⟨A, E, hS⟩ := Stands.some n e p i j x m fd
    exact ⟨A, E, .inl ⟨h, hS⟩⟩
  · exact ⟨0, 1, .inr ⟨by omega, rfl, rfl⟩⟩

set_option maxHeartbeats 400000 in
theorem field_any (n e p i j x m fd A E : Int) (w : World) (h : Hid (Fields n e p i j x m fd A E)) (T : Hid (Tab w)) :
    Calls Tryd.prog 21 #[.agg #[.int .i64 n, .int .i64 e, .int .i64 p, .int .i64 i, .int .i64 j], .int .i64 x, .int .i64 m, .int .i64 fd] w (Drew (.tuple #[.int .i64 A, .int .i64 E]) w) := by
  have T1 : Hid (∀ o, Tab (w.alloc o)) := fun o => T.out.alloc o
  by_cases c1 : x < 1
  · have b1 : decide (x < 1) = true := by simpa using c1
    rcases h.out with ⟨h1, _⟩ | ⟨_, rfl, rfl⟩
    · omega
    go_enter Tryd.func21, Tryd.ntmps21
    go_wp2
    go_ret2
    exact ⟨rfl, (Below.refl _ _).alloc (Nat.le_refl _) _⟩
  have b1 : decide (x < 1) = false := by simpa using c1
  by_cases c2 : 3 < x
  · have b2 : decide (3 < x) = true := by simpa using c2
    rcases h.out with ⟨h1, _⟩ | ⟨_, rfl, rfl⟩
    · omega
    go_enter Tryd.func21, Tryd.ntmps21
    go_wp2
    go_ret2
    exact ⟨rfl, (Below.refl _ _).alloc (Nat.le_refl _) _⟩
  have b2 : decide (3 < x) = false := by simpa using c2
  rcases h.out with ⟨_, h1⟩ | ⟨h1, _⟩
  · have H1 := hide h1
    clear h1
    go_enter Tryd.func21, Tryd.ntmps21
    go_wp2_with fail
    refine (stand_any _ _ _ _ _ _ _ _ A E _ H1 (T1.out _)).mono ?_
    rintro r w1 ⟨rfl, hb1⟩
    go_wp2
    go_ret2
    exact ⟨rfl, bbox hb1⟩
  · omega

theorem po_grows {n e p i j : Int} (h : Ok n e p i j) (k K : Nat) (hk : k < K) (hK : K < 6) : po n e p i j k + pc n e p i j k * pl k ≤ po n e p i j K := by
  unfold Ok at h
  revert hk
  refine six (P := fun K => k < K → po n e p i j k + pc n e p i j k * pl k ≤ po n e p i j K) ?_ ?_ ?_ ?_ ?_ ?_ K hK <;> intro hk <;>
    refine six (P := fun k => k < _ → po n e p i j k + pc n e p i j k * pl k ≤ _) ?_ ?_ ?_ ?_ ?_ ?_ k (by omega) hk <;> intro hk <;> simp only [po, pc, pl] at * <;> omega

set_option maxHeartbeats 1000000 in
theorem where_yes (n e p i j a v1 v2 v3 : Int) (K : Nat) (w : World) (h : Hid (Ok n e p i j)) (T : Hid (Tab w)) (hK : K < 6) (ha : Hid (po n e p i j K ≤ a)) (hz : Hid (a - po n e p i j K < pc n e p i j K * pl K)) (hs : Hid (a < po n e p i j 6))
    (e1 : Hid ((pw K : Int) = v1)) (e2 : Hid (pf K + (a - po n e p i j K) / pl K = v2)) (e3 : Hid ((a - po n e p i j K) % pl K = v3)) :
    Calls Tryd.prog 23 #[.agg #[.int .i64 n, .int .i64 e, .int .i64 p, .int .i64 i, .int .i64 j], .int .i64 a] w (Drew (.tuple #[.int .i64 v1, .int .i64 v2, .int .i64 v3, .int .i64 0]) w) := by
  have hw : 0 < w.heap.size := T.out.1
  have T1 : Hid (∀ o, Tab (w.alloc o)) := fun o => T.out.alloc o
  have a0 : 0 ≤ a := by have := ha.out; have := (po_le h.out K hK).1; omega
  have a9 : a ≤ 2000 := by have h1 := hs.out; have h2 := h.out; unfold Ok at h2; rw [po_six] at h1; omega
  have b1 : decide (a < 0) = false := by simpa using a0
  obtain ⟨sz, HZ⟩ : ∃ sz, Hid (po n e p i j 6 = sz) := ⟨_, rfl⟩
  have b2 : decide (sz ≤ a) = false := by have := hs.out; rw [HZ.out] at this; simpa using this
  go_enter Tryd.func23, Tryd.ntmps23
  go_wp2_with fail
  refine (size_ok _ _ _ _ _ _ h (T1.out _)).mono ?_
  rw [HZ.out]
  rintro r w1 ⟨rfl, hb1⟩
  have hc1 := old_cells (hb1)
  have hf1 := old_marks (hb1)
  go_wp2_with fail
  refine (parts_any _ _ _ _ _ _).mono ?_
  rintro r w2 ⟨rfl, hb2⟩
  have HB : Hid (Below w.heap.size w w2) := bstep (bbox hb1) hb2 (by have := hb1.size; simp at this; omega)
  clear hb1 hc1 hf1 hb2
  go_wp2
  go_loopw [1, 21] (fun s c wr => ∃ k : Nat, k ≤ K ∧ c = .int .i64 k ∧ s = .int .i64 (a - po n e p i j k) ∧ Hid (Below w.heap.size w wr)) (fun _ c _ => 6 - (intOf c).toNat)
  case atStart => exact ⟨0, by omega, rfl, by simp [po], HB⟩
  case round =>
    obtain ⟨k, hk, rfl, rfl, HR⟩ := hrel
    have hlt : k < 6 := by omega
    have hi := parts_index n e p i j k hlt
    have TR : Hid (Tab wr) := T.out.below HR.out
    have HT : Hid (∀ w, Tab w → w.cell? ⟨0, pw k, none⟩ = some (.int .i64 (pl k))) := fun w T => T.part k hlt
    obtain ⟨q1, q2⟩ := po_le h.out k hlt
    have hz' : 0 < wr.heap.size := by have := HR.out.size; omega
    by_cases hkK : k = K
    · subst hkK
      obtain ⟨t, f, c, L, S, y1, y2, y3, y4, y5, g1, g2, g3, g4, g5, g6, g7, g8, g9⟩ := part_is h.out k hlt
      rw [y1, y2, y3] at hi
      rw [y1, y4] at HT
      rw [y3, y4, y5] at hz
      rw [y1] at e1
      rw [y2, y4] at e2
      rw [y4] at e3
      have HS := hide y5
      clear y1 y2 y3 y4 y5
      obtain ⟨y, HY⟩ : ∃ y, Hid (a - po n e p i j k = y) := ⟨_, rfl⟩
      have u1 : 0 ≤ y := by have := ha.out; have := HY.out; omega
      have u2 : y < S := by have := hz.out; have := HY.out; omega
      rw [HY.out] at e2 e3 ⊢
      have b3 : decide (y < S) = true := by simpa using u2
      have z1 := IntWalk.i64_quo y L (by omega)
      have z2 := IntWalk.rem_in y L u1
      obtain ⟨d1, d2⟩ := IntWalk.tdiv_le y L u1 (by omega)
      have z3 := IntWalk.i64_in (f + y / L) (by omega)
      have z4 : (L == 0) = false := by simp; omega
      have hcell := HT.out _ TR.out
      go_wp2_with fail
      refine (words_s t f c L S _ g1 (by omega) g5 (by omega) g7 HS (by simp) (HT.out _ (TR.out.alloc _))).mono ?_
      rintro r w3 ⟨rfl, hb3⟩
      have hc3 := old_cells (hb3)
      have hf3 := old_marks (hb3)
      have hz3 : 0 < w3.heap.size := by have := hb3.size; simp at this; omega
      have g1' : (t : Int) < 6 := by omega
      have g0' : (0 : Int) ≤ (t : Int) := by omega
      go_wp2
      go_quiet (fail)
      go_wp2
      refine bodyPost_ret (four_results Tryd.results23 _ _ _) rfl ?_
      exact ⟨by simp [e1.out, e2.out, e3.out], Below.drewN (bstep HR.out (bbox hb3) HR.out.size) _⟩
    · have HG := hide (po_grows h.out k K (by omega) hK)
      have HP := hide (po_succ (n := n) (e := e) (p := p) (i := i) (j := j) k hlt)
      obtain ⟨t, f, c, L, S, y1, y2, y3, y4, y5, g1, g2, g3, g4, g5, g6, g7, g8, g9⟩ := part_is h.out k hlt
      rw [y1, y2, y3] at hi
      rw [y1, y4] at HT
      rw [y3, y4, y5] at HP HG
      have HS := hide y5
      clear y1 y2 y3 y4 y5
      obtain ⟨y, HY⟩ : ∃ y, Hid (a - po n e p i j k = y) := ⟨_, rfl⟩
      have u1 : S ≤ y := by have := ha.out; have := HY.out; have := HG.out; omega
      have u2 : y ≤ 2000 := by have := HY.out; omega
      have HP' : Hid (a - po n e p i j (k + 1) = y - S) := by have := HY.out; have := HP.out; show _ = _; omega
      rw [HY.out]
      have b3 : decide (y < S) = false := by simpa using u1
      go_wp2_with fail
      refine (words_s t f c L S _ g1 (by omega) g5 (by omega) g7 HS (by simp) (HT.out _ (TR.out.alloc _))).mono ?_
      rintro r w3 ⟨rfl, hb3⟩
      have hc3 := old_cells (hb3)
      have hf3 := old_marks (hb3)
      have T3 : Hid (Tab w3) := (TR.out.alloc _).below hb3
      have hz3 : 0 < w3.heap.size := T3.out.1
      go_wp2_with fail
      refine (words_s t f c L S _ g1 (by omega) g5 (by omega) g7 HS (by simpa using hz3) (HT.out _ T3.out)).mono ?_
      rintro r w4 ⟨rfl, hb4⟩
      go_wp2
      go_roundw
      case rel => exact ⟨k + 1, by omega, by go_num, by rw [HP'.out], bstep (bstep HR.out (bbox hb3) HR.out.size) hb4 (by have := HR.out.size; have := (bbox hb3).size; omega)⟩
      case measure => simp [intOf]; omega

set_option maxHeartbeats 400000 in
theorem where_no (n e p i j a : Int) (w : World) (h : Hid (Ok n e p i j)) (T : Hid (Tab w)) (ha : Hid (a < 0 ∨ po n e p i j 6 ≤ a)) :
    Calls Tryd.prog 23 #[.agg #[.int .i64 n, .int .i64 e, .int .i64 p, .int .i64 i, .int .i64 j], .int .i64 a] w (Drew (.tuple #[.int .i64 0, .int .i64 0, .int .i64 0, .int .i64 1]) w) := by
  have T1 : Hid (∀ o, Tab (w.alloc o)) := fun o => T.out.alloc o
  by_cases c1 : a < 0
  · have b1 : decide (a < 0) = true := by simpa using c1
    go_enter Tryd.func23, Tryd.ntmps23
    go_wp2
    refine bodyPost_ret (four_results Tryd.results23 _ _ _) rfl ?_
    exact ⟨rfl, (Below.refl _ _).alloc (Nat.le_refl _) _⟩
  · have b1 : decide (a < 0) = false := by simpa using c1
    obtain ⟨sz, HZ⟩ : ∃ sz, Hid (po n e p i j 6 = sz) := ⟨_, rfl⟩
    have b2 : decide (sz ≤ a) = true := by have := ha.out; rw [HZ.out] at this; simp; omega
    go_enter Tryd.func23, Tryd.ntmps23
    go_wp2_with fail
    refine (size_ok _ _ _ _ _ _ h (T1.out _)).mono ?_
    rw [HZ.out]
    rintro r w1 ⟨rfl, hb1⟩
    go_wp2
    refine bodyPost_ret (four_results Tryd.results23 _ _ _) rfl ?_
    exact ⟨rfl, bbox hb1⟩

set_option maxHeartbeats 400000 in
theorem where_bad (n e p i j a : Int) (w : World) (h : Hid (¬ Ok n e p i j)) :
    Calls Tryd.prog 23 #[.agg #[.int .i64 n, .int .i64 e, .int .i64 p, .int .i64 i, .int .i64 j], .int .i64 a] w (Drew (.tuple #[.int .i64 0, .int .i64 0, .int .i64 0, .int .i64 1]) w) := by
  by_cases c1 : a < 0
  · have b1 : decide (a < 0) = true := by simpa using c1
    go_enter Tryd.func23, Tryd.ntmps23
    go_wp2
    refine bodyPost_ret (four_results Tryd.results23 _ _ _) rfl ?_
    exact ⟨rfl, (Below.refl _ _).alloc (Nat.le_refl _) _⟩
  · have b1 : decide (a < 0) = false := by simpa using c1
    have b2 : decide (0 ≤ a) = true := by simpa using c1
    go_enter Tryd.func23, Tryd.ntmps23
    go_wp2_with fail
    refine (size_no _ _ _ _ _ _ h).mono ?_
    rintro r w1 ⟨rfl, hb1⟩
    go_wp2
    refine bodyPost_ret (four_results Tryd.results23 _ _ _) rfl ?_
    exact ⟨rfl, bbox hb1⟩

/-- What is told of the word a: what stands there (v1, v2, v3), or an error (E). -/
def Whats (n e p i j a v1 v2 v3 E : Int) : Prop :=
  (Ok n e p i j ∧ ∃ K, K < 6 ∧ po n e p i j K ≤ a ∧ a - po n e p i j K < pc n e p i j K * pl K ∧ (pw K : Int) = v1 ∧ pf K + (a - po n e p i j K) / pl K = v2 ∧ (a - po n e p i j K) % pl K = v3 ∧ E = 0) ∨
  ((¬ Ok n e p i j ∨ a < 0 ∨ po n e p i j 6 ≤ a) ∧ v1 = 0 ∧ v2 = 0 ∧ v3 = 0 ∧ E = 1)

/-- Each word is in one of the parts. -/
theorem part_of {n e p i j : Int} (h : Ok n e p i j) (a : Int) (h0 : 0 ≤ a) (h1 : a < po n e p i j 6) : ∃ K, K < 6 ∧ po n e p i j K ≤ a ∧ a - po n e p i j K < pc n e p i j K * pl K := by
  unfold Ok at h
  simp only [po] at h1
  by_cases c0 : a < 2
  · exact ⟨0, by omega, by simp only [po]; omega, by simp only [po, pc, pl]; omega⟩
  by_cases c1 : a < 2 + i
  · exact ⟨1, by omega, by simp only [po]; omega, by simp only [po, pc, pl]; omega⟩
  by_cases c2 : a < 2 + i + j
  · exact ⟨2, by omega, by simp only [po]; omega, by simp only [po, pc, pl]; omega⟩
  by_cases c3 : a < 2 + i + j + 4 * n
  · exact ⟨3, by omega, by simp only [po]; omega, by simp only [po, pc, pl]; omega⟩
  by_cases c4 : a < 2 + i + j + 4 * n + 5 * e
  · exact ⟨4, by omega, by simp only [po]; omega, by simp only [po, pc, pl]; omega⟩
  · exact ⟨5, by omega, by simp only [po]; omega, by simp only [po, pc, pl]; omega⟩

theorem Whats.some (n e p i j a : Int) : ∃ v1 v2 v3 E, Whats n e p i j a v1 v2 v3 E := by
  by_cases h : Ok n e p i j
  · by_cases g : 0 ≤ a ∧ a < po n e p i j 6
    · obtain ⟨K, hK, h1, h2⟩ := part_of h a g.1 g.2
      exact ⟨_, _, _, 0, .inl ⟨h, K, hK, h1, h2, rfl, rfl, rfl, rfl⟩⟩
    · exact ⟨0, 0, 0, 1, .inr ⟨.inr (by omega), rfl, rfl, rfl, rfl⟩⟩
  · exact ⟨0, 0, 0, 1, .inr ⟨.inl h, rfl, rfl, rfl, rfl⟩⟩

theorem in_size {n e p i j : Int} (h : Ok n e p i j) (a : Int) (K : Nat) (hK : K < 6) (h2 : a - po n e p i j K < pc n e p i j K * pl K) : a < po n e p i j 6 := by
  unfold Ok at h
  revert h2
  refine six (P := fun K => a - po n e p i j K < pc n e p i j K * pl K → a < po n e p i j 6) ?_ ?_ ?_ ?_ ?_ ?_ K hK <;> intro h2 <;> simp only [po, pc, pl] at * <;> omega

theorem where_any (n e p i j a v1 v2 v3 E : Int) (w : World) (h : Hid (Whats n e p i j a v1 v2 v3 E)) (T : Hid (Tab w)) :
    Calls Tryd.prog 23 #[.agg #[.int .i64 n, .int .i64 e, .int .i64 p, .int .i64 i, .int .i64 j], .int .i64 a] w (Drew (.tuple #[.int .i64 v1, .int .i64 v2, .int .i64 v3, .int .i64 E]) w) := by
  rcases h.out with ⟨h1, K, hK, h2, h3, e1, e2, e3, rfl⟩ | ⟨h1, rfl, rfl, rfl, rfl⟩
  · exact where_yes n e p i j a v1 v2 v3 K w h1 T hK h2 h3 (in_size h1 a K hK h3) e1 e2 e3
  · by_cases g : Ok n e p i j
    · rcases h1 with h1 | h1
      · exact absurd g h1
      · exact where_no n e p i j a w g T h1
    · exact where_bad n e p i j a w g

theorem live_fields : Fields 1 1 1 2 1 1 0 0 5 0 :=
  .inl ⟨by omega, .inl ⟨by unfold Ok; omega, 3, by omega, ⟨rfl, by decide, by decide, by decide, by decide⟩, by decide, rfl⟩⟩

set_option maxHeartbeats 400000 in
theorem live_yes (w : World) (T : Hid (Tab w)) : Calls Tryd.prog 9 #[] w (Drew (.bool true) w) := by
  go_enter Tryd.func9, Tryd.ntmps9
  go_wp2_with fail
  refine (field_any _ _ _ _ _ _ _ _ 5 0 _ live_fields T).mono ?_
  rintro r w1 ⟨rfl, hb1⟩
  go_wp2
  go_ret
  exact ⟨rfl, hb1⟩

end Go.Proofs.YtknbllhkifigbaaDoor
