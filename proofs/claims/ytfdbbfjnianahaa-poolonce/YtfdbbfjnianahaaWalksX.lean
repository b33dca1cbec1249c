/- What Count tells, of any pool that is not great: the code's and the document's. -/
import Derived.Test.YtfdbbfjnianahaaWalksT
import Derived.Test.YtfdbbfjnianahaaMath2
import Derived.Deep.QuietTactic
import Derived.BigQuiet
namespace Go.Proofs.Ytfdbbfjnianahaa
open Go.RowKit
set_option linter.unusedVariables false

/-- How many slots are in state v. -/
def cnt (b : Bool) (S : List Int) (v : Int) : Int := if b then ((S.count v : Nat) : Int) else 0

theorem count_is (S : List Int) (k : Nat) (hk : k < S.length) {x : Int} (hx : S.getD k 0 = x) (v : Int) {a : Nat} (ha : (S.take k).count v = a) : (S.take (k + 1)).count v = a + if x = v then 1 else 0 := by
  rw [count_take S k hk, ha, hx]
theorem cnt_all {S : List Int} {k : Nat} (hk : S.length ≤ k) {v : Int} {a : Nat} (ha : (S.take k).count v = a) : cnt true S v = (a : Int) := by
  rw [List.take_of_length_le hk] at ha
  simp [cnt, ha]

set_option maxHeartbeats 2000000 in
theorem count_any (p : Pl) (P : PL) (B : Nat) (b : Bool) (w : World) (hr : Reads w B p P) (hB : B ≤ w.heap.size) (hm : Small p) (hb : Hid (b = true ↔ MayBe P)) :
    Calls Try.prog 13 #[p.val] w (Drew (.tuple #[.int .i64 (cnt b P.S 1), .int .i64 (cnt b P.S 2), .int .i64 (cnt b P.S 0)]) w) := by
  obtain ⟨A0, A1, A2, A3, n0, n1, n2, n3, c0, c1, c2, c3⟩ := p
  obtain ⟨G, S, W, F⟩ := P
  have HM := hide hm
  have m1 : n1 ≤ 200 := hm.n1
  have B0 := hide ((Below.refl w.heap.size w).alloc (Nat.le_refl _) (.cells (C4 A0 A1 A2 A3 n0 n1 n2 n3 c0 c1 c2 c3) 24))
  have X0 := hide (PBox.new w (C4 A0 A1 A2 A3 n0 n1 n2 n3 c0 c1 c2 c3))
  have R0 := hide (hr.below B0.out hB)
  have ls := hide (show S.length = n1 by have := hr.s.1; simpa using this)
  clear hr hm
  dsimp only
  go_enter Try.func13, Try.ntmps13
  go_wp2_with fail
  refine (mayBe_any ⟨A0, A1, A2, A3, n0, n1, n2, n3, c0, c1, c2, c3⟩ ⟨G, S, W, F⟩ B b _ R0.out (Nat.le_trans hB B0.out.size) HM.out hb).mono ?_
  rintro e u1 ⟨rfl, hu1⟩
  have B1 := hide (next_call B0.out (Nat.le_refl _) hu1)
  have X1 := hide (X0.out.step hu1)
  have R1 := hide (R0.out.below hu1 (Nat.le_trans hB B0.out.size))
  clear hu1 X0 R0
  have hc := X1.out.cells
  have hl := X1.out.lt
  cases b with
  | false =>
    go_wp2
    go_ret3
    exact ⟨rfl, B1.out⟩
  | true =>
    have HSt : Hid (∀ k, k < n1 → S.getD k 0 = 0 ∨ S.getD k 0 = 1 ∨ S.getD k 0 = 2) := fun k hk => by
      obtain ⟨k1, k2, k3, k4, k5, k6⟩ := may_of hb rfl
      have := (k5 k (by have := ls.out; dsimp only at k3 ⊢; omega)).2.2
      dsimp only at this
      omega
    go_wp2
    clear hc hl
    go_loopw [2, 3, 4, 13] (fun l r f i wr => ∃ k a c d : Nat, k ≤ n1 ∧ i = .int .i64 k ∧ l = .int .i64 (a : Int) ∧ r = .int .i64 (c : Int) ∧ f = .int .i64 (d : Int) ∧ a ≤ k ∧ c ≤ k ∧ d ≤ k ∧ wr = u1 ∧ Hid ((S.take k).count 1 = a) ∧ Hid ((S.take k).count 2 = c) ∧ Hid ((S.take k).count 0 = d))
      (fun _ _ _ i _ => n1 - (intOf i).toNat)
    case atStart => exact ⟨0, 0, 0, 0, by omega, rfl, rfl, rfl, rfl, by omega, by omega, by omega, rfl, rfl, rfl, rfl⟩
    case round =>
      obtain ⟨k, a, c, d, hk, rfl, rfl, rfl, rfl, ha, hc', hd, rfl, HA, HC, HD⟩ := hrel
      by_cases hlt : k < n1
      · obtain ⟨bS, oS, eS, hbS, cS⟩ := R1.out.s.at_ hlt
        dsimp only at eS cS
        subst eS
        have HK : Hid (k < S.length) := by show _ < _; rw [ls.out]; exact hlt
        rcases HSt.out k hlt with h0 | h0 | h0
        · have N1 := hide (count_is S k HK.out h0 1 HA.out)
          have N2 := hide (count_is S k HK.out h0 2 HC.out)
          have N0 := hide (count_is S k HK.out h0 0 HD.out)
          rw [h0] at cS
          clear h0
          go_wp2
          go_roundw
          case rel => exact ⟨k + 1, a, c, d + 1, by omega, by go_num, rfl, rfl, by go_num, by omega, by omega, by omega, trivial, N1, N2, N0⟩
          case measure => simp [intOf]; omega
        · have N1 := hide (count_is S k HK.out h0 1 HA.out)
          have N2 := hide (count_is S k HK.out h0 2 HC.out)
          have N0 := hide (count_is S k HK.out h0 0 HD.out)
          rw [h0] at cS
          clear h0
          go_wp2
          go_roundw
          case rel => exact ⟨k + 1, a + 1, c, d, by omega, by go_num, by go_num, rfl, rfl, by omega, by omega, by omega, trivial, N1, N2, N0⟩
          case measure => simp [intOf]; omega
        · have N1 := hide (count_is S k HK.out h0 1 HA.out)
          have N2 := hide (count_is S k HK.out h0 2 HC.out)
          have N0 := hide (count_is S k HK.out h0 0 HD.out)
          rw [h0] at cS
          clear h0
          go_wp2
          go_roundw
          case rel => exact ⟨k + 1, a, c + 1, d, by omega, by go_num, rfl, by go_num, rfl, by omega, by omega, by omega, trivial, N1, N2, N0⟩
          case measure => simp [intOf]; omega
      · have HKL : Hid (S.length ≤ k) := by show _ ≤ _; rw [ls.out]; omega
        have Q1 := hide (cnt_all HKL.out HA.out)
        have Q2 := hide (cnt_all HKL.out HC.out)
        have Q0 := hide (cnt_all HKL.out HD.out)
        go_wp2
        go_ret3
        exact ⟨by rw [Q1.out, Q2.out, Q0.out]; rfl, B1.out⟩

/-- Block g is an array of three numbers. -/
def ABox (u : World) (g : Nat) (a b c : Int) : Prop := u.heap[g]? = some (.cells #[.int .i64 a, .int .i64 b, .int .i64 c] 49 (0, 0))
theorem ABox.lt {u : World} {g : Nat} {a b c : Int} (h : ABox u g a b c) : g < u.heap.size := (Array.getElem?_eq_some_iff.1 h).1
theorem ABox.cells {u : World} {g : Nat} {a b c : Int} (h : ABox u g a b c) : ∀ i, u.cell? ⟨g, i, none⟩ = (#[.int .i64 a, .int .i64 b, .int .i64 c] : Array Value)[i]? := fun i => cell_of_row u g i _ 49 (0, 0) h
theorem ABox.frozen {u : World} {g : Nat} {a b c : Int} (h : ABox u g a b c) : ∀ i, u.frozen? ⟨g, i, none⟩ = false := fun i => frozen_of_row u g i _ 49 h
theorem ABox.set0 {u : World} {g : Nat} {a b c : Int} (h : ABox u g a b c) (x : Int) : ABox (u.setCell ⟨g, 0, none⟩ (.int .i64 x)) g x b c := heap_setCell_same u g 0 _ 49 _ h
theorem ABox.set1 {u : World} {g : Nat} {a b c : Int} (h : ABox u g a b c) (x : Int) : ABox (u.setCell ⟨g, 1, none⟩ (.int .i64 x)) g a x c := heap_setCell_same u g 1 _ 49 _ h
theorem ABox.set2 {u : World} {g : Nat} {a b c : Int} (h : ABox u g a b c) (x : Int) : ABox (u.setCell ⟨g, 2, none⟩ (.int .i64 x)) g a b x := heap_setCell_same u g 2 _ 49 _ h

/-- What the document's Count knows of a world. -/
structure Arr (w u : World) (cs : Array Value) (a b c : Nat) : Prop where
  bel : Below w.heap.size w u
  box : PBox u w.heap.size cs
  arr : ABox u (w.heap.size + 1) (a : Int) (b : Int) (c : Int)

set_option maxHeartbeats 2000000 in
theorem rcount_any (p : Pl) (P : PL) (B : Nat) (b : Bool) (w : World) (hr : Reads w B p P) (hB : B ≤ w.heap.size) (hm : Small p) (hb : Hid (b = true ↔ MayBe P)) :
    Calls Try.prog 14 #[p.val] w (Drew (.tuple #[.int .i64 (cnt b P.S 1), .int .i64 (cnt b P.S 2), .int .i64 (cnt b P.S 0)]) w) := by
  obtain ⟨A0, A1, A2, A3, n0, n1, n2, n3, c0, c1, c2, c3⟩ := p
  obtain ⟨G, S, W, F⟩ := P
  have HM := hide hm
  have HR := hide hr
  have m1 : n1 ≤ 200 := hm.n1
  have B0 := hide (((Below.refl w.heap.size w).alloc (Nat.le_refl _) (.cells (C4 A0 A1 A2 A3 n0 n1 n2 n3 c0 c1 c2 c3) 24)).alloc (by simp) (.cells #[.int .i64 0, .int .i64 0, .int .i64 0] 49))
  have X0 := hide ((PBox.new w (C4 A0 A1 A2 A3 n0 n1 n2 n3 c0 c1 c2 c3)).alloc (.cells #[.int .i64 0, .int .i64 0, .int .i64 0] 49))
  have Y0 : Hid (ABox ((w.alloc (.cells (C4 A0 A1 A2 A3 n0 n1 n2 n3 c0 c1 c2 c3) 24)).alloc (.cells #[.int .i64 0, .int .i64 0, .int .i64 0] 49)) (w.heap.size + 1) 0 0 0) := heap_alloc2_new w _ _
  have R0 := hide (hr.below B0.out hB)
  have ls := hide (show S.length = n1 by have := hr.s.1; simpa using this)
  clear hr hm
  dsimp only
  go_enter Try.func14, Try.ntmps14
  go_wp2_with fail
  refine (rcheck_any ⟨A0, A1, A2, A3, n0, n1, n2, n3, c0, c1, c2, c3⟩ ⟨G, S, W, F⟩ B b _ R0.out (Nat.le_trans hB B0.out.size) HM.out hb).mono ?_
  rintro e u1 ⟨rfl, hu1⟩
  have Z1 : Hid (Arr w u1 (C4 A0 A1 A2 A3 n0 n1 n2 n3 c0 c1 c2 c3) 0 0 0) := ⟨next_call B0.out (Nat.le_refl _) hu1, X0.out.step hu1, (hu1.block (w.heap.size + 1) (by simp)).trans Y0.out⟩
  clear hu1 X0 R0 Y0 B0
  have hc := Z1.out.box.cells
  have hl := Z1.out.box.lt
  cases b with
  | false =>
    have hca := Z1.out.arr.cells
    have hla := Z1.out.arr.lt
    have hch : (chk false == 0) = false := by decide
    go_wp2
    go_quiet (fail)
    go_wp2
    go_ret3
    exact ⟨rfl, Below.drewN Z1.out.bel _⟩
  | true =>
    have hch : (chk true == 0) = true := by decide
    have HSt : Hid (∀ k, k < n1 → S.getD k 0 = 0 ∨ S.getD k 0 = 1 ∨ S.getD k 0 = 2) := fun k hk => by
      obtain ⟨k1, k2, k3, k4, k5, k6⟩ := may_of hb rfl
      have := (k5 k (by have := ls.out; dsimp only at k3 ⊢; omega)).2.2
      dsimp only at this
      omega
    go_wp2
    clear hc hl
    go_loopw [15] (fun i wr => ∃ k a c d : Nat, k ≤ n1 ∧ i = .int .i64 k ∧ a ≤ k ∧ c ≤ k ∧ d ≤ k ∧ Hid (Arr w wr (C4 A0 A1 A2 A3 n0 n1 n2 n3 c0 c1 c2 c3) d a c) ∧ Hid ((S.take k).count 1 = a) ∧ Hid ((S.take k).count 2 = c) ∧ Hid ((S.take k).count 0 = d))
      (fun i _ => n1 - (intOf i).toNat)
    case atStart => exact ⟨0, 0, 0, 0, by omega, rfl, by omega, by omega, by omega, Z1, rfl, rfl, rfl⟩
    case round =>
      obtain ⟨k, a, c, d, hk, rfl, ha, hc', hd, Z, HA, HC, HD⟩ := hrel
      have hca := Z.out.arr.cells
      have hfa := Z.out.arr.frozen
      have hla := Z.out.arr.lt
      by_cases hlt : k < n1
      · obtain ⟨bS, oS, eS, hbS, cS⟩ := (HR.out.below Z.out.bel hB).s.at_ hlt
        dsimp only at eS cS
        subst eS
        have HK : Hid (k < S.length) := by show _ < _; rw [ls.out]; exact hlt
        rcases HSt.out k hlt with h0 | h0 | h0
        · have N1 := hide (count_is S k HK.out h0 1 HA.out)
          have N2 := hide (count_is S k HK.out h0 2 HC.out)
          have N0 := hide (count_is S k HK.out h0 0 HD.out)
          rw [h0] at cS
          clear h0
          go_wp2
          go_roundw
          case rel => exact ⟨k + 1, a, c, d + 1, by omega, by go_num, by omega, by omega, by omega, ⟨Z.out.bel.setCell (by simp) _, Z.out.box.other (by omega) _, Z.out.arr.set0 _⟩, N1, N2, N0⟩
          case measure => simp [intOf]; omega
        · have N1 := hide (count_is S k HK.out h0 1 HA.out)
          have N2 := hide (count_is S k HK.out h0 2 HC.out)
          have N0 := hide (count_is S k HK.out h0 0 HD.out)
          rw [h0] at cS
          clear h0
          go_wp2
          go_roundw
          case rel => exact ⟨k + 1, a + 1, c, d, by omega, by go_num, by omega, by omega, by omega, ⟨Z.out.bel.setCell (by simp) _, Z.out.box.other (by omega) _, Z.out.arr.set1 _⟩, N1, N2, N0⟩
          case measure => simp [intOf]; omega
        · have N1 := hide (count_is S k HK.out h0 1 HA.out)
          have N2 := hide (count_is S k HK.out h0 2 HC.out)
          have N0 := hide (count_is S k HK.out h0 0 HD.out)
          rw [h0] at cS
          clear h0
          go_wp2
          go_roundw
          case rel => exact ⟨k + 1, a, c + 1, d, by omega, by go_num, by omega, by omega, by omega, ⟨Z.out.bel.setCell (by simp) _, Z.out.box.other (by omega) _, Z.out.arr.set2 _⟩, N1, N2, N0⟩
          case measure => simp [intOf]; omega
      · have HKL : Hid (S.length ≤ k) := by show _ ≤ _; rw [ls.out]; omega
        have Q1 := hide (cnt_all HKL.out HA.out)
        have Q2 := hide (cnt_all HKL.out HC.out)
        have Q0 := hide (cnt_all HKL.out HD.out)
        go_wp2
        go_quiet (fail)
        go_wp2
        go_ret3
        exact ⟨by rw [Q1.out, Q2.out, Q0.out]; rfl, Below.drewN Z.out.bel _⟩

end Go.Proofs.Ytfdbbfjnianahaa
