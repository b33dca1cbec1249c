/- Whatever the memory, the count, the place and the word: what New, Load and Store answer is what the document says, and the memory that was handed in stays as it was, also when what was told is changed; no conditions. (The statement tendrillaw02.MemDoes.) -/
import Derived.Test.YtgfhhippgkflpaaRows
import Derived.Test.YtgfhhippgkflpaaWords
import Derived.Test.YtgfhhippgkflpaaWalks
import Derived.WalkKit
import Derived.ProofKit
import Derived.OpenShut
import Derived.ShutString
import Derived.ChangeOld
import Derived.Below
namespace Go.Proofs.Ytgfhhippgkflpaa.memDoes
open Go.ChangeShapes Go.WideShapes Go.ChangeAt Go.RowKit
open Go.ChangeMaps (open_string shut_string)
set_option linter.unusedVariables false

theorem own : ownKnob Try.prog.godebug = none := by kernel_rfl
theorem laidOut : laidOutB Try.prog = true := by kernel_rfl

/-! ### STEP 1: THE WALK: the Go text returns true, AND WRITES NOTHING THAT WAS THERE: 'Below w.heap.size w w'' (Derived/Below.lean: '.refl', '.alloc', '.drew', '.setCell' at a new block, '.trans'). Open each 'IsRow' by 'rcases' AHEAD of 'go_enter'; part every test ahead of the walk. -/
set_option maxHeartbeats 1000000 in
theorem walk (a0 : Option Addr) (len0 cap0 : Nat) (z0 : List Int) (a1 : Int) (a2 : Int) (a3 : Int) (w : World) (w0 : IsRow .i64 w a0 len0 cap0 z0) (w1 : (Lit.int .i64 a1).wf = true) (w2 : (Lit.int .i64 a2).wf = true) (w3 : (Lit.int .i64 a3).wf = true) :
    Calls Try.prog 3 #[.slice a0 len0 cap0, .int .i64 a1, .int .i64 a2, .int .i64 a3] w fun e w' => e = .returned (.bool true) ∧ Below w.heap.size w w' := by
  have hN := w0.nums
  have HA := hide w0.cap
  generalize z0.take len0 = zs at hN
  clear w0 w1 w2 w3
  by_cases hbig : 1000 < len0
  · skip
    go_enter Try.func3, Try.ntmps3
    go_wp2_with fail
    refine (live_yes _).mono ?_
    rintro e u1 ⟨rfl, hb1⟩
    go_wp2
    go_ret
    exact ⟨rfl, hb1⟩
  have hn : len0 ≤ 1000 := by omega
  clear hbig
  by_cases hm0 : 0 ≤ a1 ∧ a1 ≤ 4096
  · obtain ⟨n, rfl⟩ := Int.eq_ofNat_of_zero_le hm0.1
    have hm : n ≤ 4096 := by omega
    clear hm0
    by_cases hp : 0 ≤ a2 ∧ a2 < (len0 : Int)
    · obtain ⟨k, rfl⟩ := Int.eq_ofNat_of_zero_le hp.1
      have hk : k < len0 := by omega
      clear hp
      obtain ⟨y, X1⟩ : ∃ y, Hid (zs.getD k 0 = y) := ⟨_, rfl⟩
      go_enter Try.func3, Try.ntmps3
      go_wp2_with fail
      refine (live_yes _).mono ?_
      rintro e u1 ⟨rfl, hb1⟩
      have hN1 := hN.below hb1 (Nat.le_refl _)
      go_wp2_with fail
      refine (copy_any _ _ _ w.heap.size zs _ hN1 HA (by omega)).mono ?_
      rintro e u2 ⟨A2, c2, rfl, hf2, hb2⟩
      have hN2 := hN1.below hb2 hb1.size
      have hM2 := hf2.nums
      have z12 := hb1.size
      have z23 := hb2.size
      go_wp2_with fail
      refine (new_ok n _ hm).mono ?_
      rintro e u3 ⟨A3, c3, rfl, hf3, hb3⟩
      have z34 := hb3.size
      go_wp2_with fail
      refine (rnew_ok n _ hm).mono ?_
      rintro e u4 ⟨A4, c4, rfl, hf4, hb4⟩
      have z45 := hb4.size
      have hN4 := (hN2.below hb3 (by omega)).below hb4 (by omega)
      have hM4 := (hM2.below hb3 (Nat.le_refl _)).below hb4 z34
      have hE4 := hf3.below hb4
      have hall4 : Below w.heap.size w u4 := ((hb1.trans (hb2.mono z12)).trans (hb3.mono (by omega))).trans (hb4.mono (by omega))
      have zz : u2.heap.size ≤ u4.heap.size := by omega
      clear z34 z45
      go_wp2_with fail
      refine (load_ok _ _ _ _ k _ y _ hN4 X1 hk (by omega)).mono ?_
      rintro e w' ⟨rfl, rfl⟩
      go_wp2_with fail
      refine (rload_ok _ _ _ _ k _ y _ hN4 X1 hk (by omega)).mono ?_
      rintro e w' ⟨rfl, rfl⟩
      go_wp2_with fail
      refine (store_ok _ _ _ w.heap.size k zs _ _ hN4 hall4.size hk (by omega)).mono ?_
      rintro e u5 ⟨A5, c5, rfl, hf5, hb5⟩
      have z56 := hb5.size
      have hN5 := hN4.below hb5 hall4.size
      go_wp2_with fail
      refine (rstore_ok _ _ _ w.heap.size k zs _ _ hN5 HA hk (by omega)).mono ?_
      rintro e u6 ⟨A6, c6, rfl, hf6, hb6⟩
      have z67 := hb6.size
      have zw := hall4.size
      have hN6 := hN5.below hb6 (by omega)
      have hM6 := (hM4.below hb5 zz).below hb6 (by omega)
      have hC6 := hf5.below hb6
      have hall6 : Below w.heap.size w u6 := (hall4.trans (hb5.mono (by omega))).trans (hb6.mono (by omega))
      have hE6 := (hE4.below hb5).below hb6
      have hG6 := (hf4.below hb5).below hb6
      go_wp2_with fail
      refine (same_yes _ _ _ _ _ _ _ (List.replicate n 0) _ hE6.nums hG6.nums (by omega)).mono ?_
      rintro e u7 ⟨rfl, hb7⟩
      have zl := hall6.size
      have hN7 := hN6.below hb7 zl
      have hM7 := hM6.below hb7 (by omega)
      have hall7 : Below w.heap.size w u7 := hall6.trans (hb7.mono zl)
      have z78 := hb7.size
      have hC7 := hC6.below hb7
      have hD7 := hf6.below hb7
      go_wp2_with fail
      refine (same_yes _ _ _ _ _ _ _ (zs.set k a3) _ hC7.nums hD7.nums (by omega)).mono ?_
      rintro e u8 ⟨rfl, hb8⟩
      have hN8 := hN7.below hb8 (by omega)
      have hM8 := hM7.below hb8 (by omega)
      have hall8 : Below w.heap.size w u8 := hall7.trans (hb8.mono hall7.size)
      have hC8 := hC7.below hb8
      go_wp2
      go_loopw [97] (fun i wr => ∃ (k : Nat) (ys : List Int), k ≤ len0 ∧ i = .int .i64 k ∧ Fresh wr u4.heap.size A5 len0 ys ∧ Below u4.heap.size u8 wr) (fun i _ => len0 - (intOf i).toNat)
      case atStart => exact ⟨0, _, by omega, rfl, hC8, Below.refl _ _⟩
      case round =>
        obtain ⟨i, ys, hi, rfl, hfr, hbr⟩ := hrel
        by_cases hlt : i < len0
        · obtain ⟨g, rfl, hg, _, hc, hfz⟩ := hfr.at_ hlt
          generalize ys.getD i 0 = y at hc
          go_wp2
          go_roundw
          case rel => exact ⟨i + 1, _, by omega, by go_num, hfr.stored hlt _, hbr.setCell hg _⟩
          case measure => simp [intOf]; omega
        · have hNr := hN8.below hbr (by omega)
          have hWr := hM8.below hbr (by omega)
          go_wp2_with fail
          refine (same_yes _ _ _ _ _ _ _ zs _ hNr hWr (by omega)).mono ?_
          rintro e u9 ⟨rfl, hb9⟩
          go_wp2
          go_ret
          exact ⟨rfl, (hall8.trans (hbr.mono (by omega))).trans (hb9.mono (Nat.le_trans hall8.size hbr.size))⟩
    · have HP : Hid (a2 < 0 ∨ (len0 : Int) ≤ a2) := (by omega : a2 < 0 ∨ (len0 : Int) ≤ a2)
      clear hp
      go_enter Try.func3, Try.ntmps3
      go_wp2_with fail
      refine (live_yes _).mono ?_
      rintro e u1 ⟨rfl, hb1⟩
      have hN1 := hN.below hb1 (Nat.le_refl _)
      go_wp2_with fail
      refine (copy_any _ _ _ w.heap.size zs _ hN1 HA (by omega)).mono ?_
      rintro e u2 ⟨A2, c2, rfl, hf2, hb2⟩
      have hN2 := hN1.below hb2 hb1.size
      have hM2 := hf2.nums
      have z12 := hb1.size
      have z23 := hb2.size
      go_wp2_with fail
      refine (new_ok n _ hm).mono ?_
      rintro e u3 ⟨A3, c3, rfl, hf3, hb3⟩
      have z34 := hb3.size
      go_wp2_with fail
      refine (rnew_ok n _ hm).mono ?_
      rintro e u4 ⟨A4, c4, rfl, hf4, hb4⟩
      have z45 := hb4.size
      have hN4 := (hN2.below hb3 (by omega)).below hb4 (by omega)
      have hM4 := (hM2.below hb3 (Nat.le_refl _)).below hb4 z34
      have hE4 := hf3.below hb4
      have hall4 : Below w.heap.size w u4 := ((hb1.trans (hb2.mono z12)).trans (hb3.mono (by omega))).trans (hb4.mono (by omega))
      have zz : u2.heap.size ≤ u4.heap.size := by omega
      clear z34 z45
      go_wp2_with fail
      refine (load_no _ _ _ _ _ HP (by omega)).mono ?_
      rintro e w' ⟨rfl, rfl⟩
      go_wp2_with fail
      refine (rload_no _ _ _ _ _ HP (by omega)).mono ?_
      rintro e w' ⟨rfl, rfl⟩
      go_wp2_with fail
      refine (store_no _ _ _ _ _ _ HP (by omega)).mono ?_
      rintro e w' ⟨rfl, rfl⟩
      go_wp2_with fail
      refine (rstore_no _ _ _ _ _ _ HP (by omega)).mono ?_
      rintro e w' ⟨rfl, rfl⟩
      have hE6 := hE4
      have hG6 := hf4
      go_wp2_with fail
      refine (same_yes _ _ _ _ _ _ _ (List.replicate n 0) _ hE6.nums hG6.nums (by omega)).mono ?_
      rintro e u7 ⟨rfl, hb7⟩
      have zl := hall4.size
      have hN7 := hN4.below hb7 zl
      have hM7 := hM4.below hb7 (by omega)
      have hall7 : Below w.heap.size w u7 := hall4.trans (hb7.mono zl)
      have z78 := hb7.size
      go_wp2_with fail
      refine (same_yes _ _ _ _ _ 0 0 [] _ Nums.nil Nums.nil (by omega)).mono ?_
      rintro e u8 ⟨rfl, hb8⟩
      have hN8 := hN7.below hb8 (by omega)
      have hM8 := hM7.below hb8 (by omega)
      have hall8 : Below w.heap.size w u8 := hall7.trans (hb8.mono hall7.size)
      go_wp2
      go_loopw [97] (fun i wr => i = .int .i64 0 ∧ wr = u8) (fun _ _ => 0)
      case atStart => exact ⟨rfl, rfl⟩
      case round =>
        obtain ⟨rfl, rfl⟩ := hrel
        go_wp2_with fail
        refine (same_yes _ _ _ _ _ _ _ zs _ hN8 hM8 (by omega)).mono ?_
        rintro e u9 ⟨rfl, hb9⟩
        go_wp2
        go_ret
        exact ⟨rfl, hall8.trans (hb9.mono hall8.size)⟩
  · have hM : a1 < 0 ∨ 4096 < a1 := by omega
    have HM := hide hM
    clear hm0 hM
    by_cases hp : 0 ≤ a2 ∧ a2 < (len0 : Int)
    · obtain ⟨k, rfl⟩ := Int.eq_ofNat_of_zero_le hp.1
      have hk : k < len0 := by omega
      clear hp
      obtain ⟨y, X1⟩ : ∃ y, Hid (zs.getD k 0 = y) := ⟨_, rfl⟩
      go_enter Try.func3, Try.ntmps3
      go_wp2_with fail
      refine (live_yes _).mono ?_
      rintro e u1 ⟨rfl, hb1⟩
      have hN1 := hN.below hb1 (Nat.le_refl _)
      go_wp2_with fail
      refine (copy_any _ _ _ w.heap.size zs _ hN1 HA (by omega)).mono ?_
      rintro e u2 ⟨A2, c2, rfl, hf2, hb2⟩
      have hN2 := hN1.below hb2 hb1.size
      have hM2 := hf2.nums
      have z12 := hb1.size
      have z23 := hb2.size
      go_wp2_with fail
      refine (new_no _ _ HM.out).mono ?_
      rintro e w' ⟨rfl, rfl⟩
      go_wp2_with fail
      refine (rnew_no _ _ HM.out).mono ?_
      rintro e w' ⟨rfl, rfl⟩
      have hN4 := hN2
      have hM4 := hM2
      have hall4 : Below w.heap.size w u2 := hb1.trans (hb2.mono z12)
      go_wp2_with fail
      refine (load_ok _ _ _ _ k _ y _ hN4 X1 hk (by omega)).mono ?_
      rintro e w' ⟨rfl, rfl⟩
      go_wp2_with fail
      refine (rload_ok _ _ _ _ k _ y _ hN4 X1 hk (by omega)).mono ?_
      rintro e w' ⟨rfl, rfl⟩
      go_wp2_with fail
      refine (store_ok _ _ _ w.heap.size k zs _ _ hN4 hall4.size hk (by omega)).mono ?_
      rintro e u5 ⟨A5, c5, rfl, hf5, hb5⟩
      have z56 := hb5.size
      have hN5 := hN4.below hb5 hall4.size
      go_wp2_with fail
      refine (rstore_ok _ _ _ w.heap.size k zs _ _ hN5 HA hk (by omega)).mono ?_
      rintro e u6 ⟨A6, c6, rfl, hf6, hb6⟩
      have z67 := hb6.size
      have zw := hall4.size
      have hN6 := hN5.below hb6 (by omega)
      have hM6 := (hM4.below hb5 (Nat.le_refl _)).below hb6 (by omega)
      have hC6 := hf5.below hb6
      have hall6 : Below w.heap.size w u6 := (hall4.trans (hb5.mono (by omega))).trans (hb6.mono (by omega))
      go_wp2_with fail
      refine (same_yes _ _ _ _ _ 0 0 [] _ Nums.nil Nums.nil (by omega)).mono ?_
      rintro e u7 ⟨rfl, hb7⟩
      have zl := hall6.size
      have hN7 := hN6.below hb7 zl
      have hM7 := hM6.below hb7 (by omega)
      have hall7 : Below w.heap.size w u7 := hall6.trans (hb7.mono zl)
      have z78 := hb7.size
      have hC7 := hC6.below hb7
      have hD7 := hf6.below hb7
      go_wp2_with fail
      refine (same_yes _ _ _ _ _ _ _ (zs.set k a3) _ hC7.nums hD7.nums (by omega)).mono ?_
      rintro e u8 ⟨rfl, hb8⟩
      have hN8 := hN7.below hb8 (by omega)
      have hM8 := hM7.below hb8 (by omega)
      have hall8 : Below w.heap.size w u8 := hall7.trans (hb8.mono hall7.size)
      have hC8 := hC7.below hb8
      go_wp2
      go_loopw [97] (fun i wr => ∃ (k : Nat) (ys : List Int), k ≤ len0 ∧ i = .int .i64 k ∧ Fresh wr u2.heap.size A5 len0 ys ∧ Below u2.heap.size u8 wr) (fun i _ => len0 - (intOf i).toNat)
      case atStart => exact ⟨0, _, by omega, rfl, hC8, Below.refl _ _⟩
      case round =>
        obtain ⟨i, ys, hi, rfl, hfr, hbr⟩ := hrel
        by_cases hlt : i < len0
        · obtain ⟨g, rfl, hg, _, hc, hfz⟩ := hfr.at_ hlt
          generalize ys.getD i 0 = y at hc
          go_wp2
          go_roundw
          case rel => exact ⟨i + 1, _, by omega, by go_num, hfr.stored hlt _, hbr.setCell hg _⟩
          case measure => simp [intOf]; omega
        · have hNr := hN8.below hbr (by omega)
          have hWr := hM8.below hbr (by omega)
          go_wp2_with fail
          refine (same_yes _ _ _ _ _ _ _ zs _ hNr hWr (by omega)).mono ?_
          rintro e u9 ⟨rfl, hb9⟩
          go_wp2
          go_ret
          exact ⟨rfl, (hall8.trans (hbr.mono (by omega))).trans (hb9.mono (Nat.le_trans hall8.size hbr.size))⟩
    · have HP : Hid (a2 < 0 ∨ (len0 : Int) ≤ a2) := (by omega : a2 < 0 ∨ (len0 : Int) ≤ a2)
      clear hp
      go_enter Try.func3, Try.ntmps3
      go_wp2_with fail
      refine (live_yes _).mono ?_
      rintro e u1 ⟨rfl, hb1⟩
      have hN1 := hN.below hb1 (Nat.le_refl _)
      go_wp2_with fail
      refine (copy_any _ _ _ w.heap.size zs _ hN1 HA (by omega)).mono ?_
      rintro e u2 ⟨A2, c2, rfl, hf2, hb2⟩
      have hN2 := hN1.below hb2 hb1.size
      have hM2 := hf2.nums
      have z12 := hb1.size
      have z23 := hb2.size
      go_wp2_with fail
      refine (new_no _ _ HM.out).mono ?_
      rintro e w' ⟨rfl, rfl⟩
      go_wp2_with fail
      refine (rnew_no _ _ HM.out).mono ?_
      rintro e w' ⟨rfl, rfl⟩
      have hN4 := hN2
      have hM4 := hM2
      have hall4 : Below w.heap.size w u2 := hb1.trans (hb2.mono z12)
      go_wp2_with fail
      refine (load_no _ _ _ _ _ HP (by omega)).mono ?_
      rintro e w' ⟨rfl, rfl⟩
      go_wp2_with fail
      refine (rload_no _ _ _ _ _ HP (by omega)).mono ?_
      rintro e w' ⟨rfl, rfl⟩
      go_wp2_with fail
      refine (store_no _ _ _ _ _ _ HP (by omega)).mono ?_
      rintro e w' ⟨rfl, rfl⟩
      go_wp2_with fail
      refine (rstore_no _ _ _ _ _ _ HP (by omega)).mono ?_
      rintro e w' ⟨rfl, rfl⟩
      go_wp2_with fail
      refine (same_yes _ _ _ _ _ 0 0 [] _ Nums.nil Nums.nil (by omega)).mono ?_
      rintro e u7 ⟨rfl, hb7⟩
      have zl := hall4.size
      have hN7 := hN4.below hb7 zl
      have hM7 := hM4.below hb7 (by omega)
      have hall7 : Below w.heap.size w u7 := hall4.trans (hb7.mono zl)
      have z78 := hb7.size
      go_wp2_with fail
      refine (same_yes _ _ _ _ _ 0 0 [] _ Nums.nil Nums.nil (by omega)).mono ?_
      rintro e u8 ⟨rfl, hb8⟩
      have hN8 := hN7.below hb8 (by omega)
      have hM8 := hM7.below hb8 (by omega)
      have hall8 : Below w.heap.size w u8 := hall7.trans (hb8.mono hall7.size)
      go_wp2
      go_loopw [97] (fun i wr => i = .int .i64 0 ∧ wr = u8) (fun _ _ => 0)
      case atStart => exact ⟨rfl, rfl⟩
      case round =>
        obtain ⟨rfl, rfl⟩ := hrel
        go_wp2_with fail
        refine (same_yes _ _ _ _ _ _ _ zs _ hN8 hM8 (by omega)).mono ?_
        rintro e u9 ⟨rfl, hb9⟩
        go_wp2
        go_ret
        exact ⟨rfl, hall8.trans (hb9.mono hall8.size)⟩

/-! ### THE ROW's STEP: WRITTEN OUT: LEAVE IT -/
set_option maxRecDepth 100000 in
theorem lifted (os : Os) (started : os.Started) (H : Type) (enc : TypeId × Value → H) :
    ReturnsInHanded {} Try.checked os 3 .any (Rows.memDoesSpec.pre6 enc Try.prog Try.f3 Rows.memDoesRow.domain false) (Rows.memDoesSpec.post enc Try.prog Try.f3 false true false false) := by
  refine returnsInHanded_of_change (C := Try.checked) own started (by kernel_rfl) Try.func3
    (ChangeSpec.witness6 (enc := enc) (C := Try.checked) false ⟨#[], #[.slice none 0 0, .int .i64 0, .int .i64 0, .int .i64 0], []⟩ 8 (by kernel_rfl) (by kernel_rfl) (by kernel_rfl) (by kernel_rfl)) ?_
  intro W base args ds gs before hval0 hW hcnd _
  have hval : ∀ (j : Nat) t v, Try.f3.params[j]? = some t → args[j]? = some v → Value.okWide Try.prog W .any base t v := hval0
  have hW' := hW
  obtain ⟨p, q, hA0, hV, rfl, hfz, hnd⟩ := hW
  have hA : DataW.TrodAll enc Try.prog W 0 (fun _ => true) true Try.f3.params.toList args.toList ds p := hA0
  rw [Try.params3] at hA hval
  obtain ⟨v0, vs0, d0, ds0, p0, q0, hargs, rfl, rfl, h0, r0⟩ := trodAll_cons hA
  obtain ⟨v1, vs1, d1, ds1, p1, q1, rfl, rfl, rfl, h1, r1⟩ := trodAll_cons r0
  obtain ⟨v2, vs2, d2, ds2, p2, q2, rfl, rfl, rfl, h2, r2⟩ := trodAll_cons r1
  obtain ⟨v3, vs3, d3, ds3, p3, q3, rfl, rfl, rfl, h3, r3⟩ := trodAll_cons r2
  obtain ⟨rfl, rfl, rfl⟩ := trodAll_nil r3
  obtain rfl : args = #[v0, v1, v2, v3] := by cases args; simp_all
  obtain ⟨rfl, rfl⟩ := trodVars_none hV
  obtain ⟨a0, len0, cap0, rfl⟩ := okWide_slice Try.underlying22 (hval 0 22 v0 rfl rfl)
  have k0 := h0
  have lt0 : ∀ x ∈ p0, x.block < W.heap.size := by obtain ⟨m, hm⟩ := k0; exact DataW.trod_lt m _ _ _ hm
  obtain ⟨z0, w0⟩ : ∃ zs, IsRow .i64 W a0 len0 cap0 zs := by
    obtain ⟨fuel, hf⟩ := h0
    rcases open_ints Try.underlying22 Try.underlying3 (by kernel_rfl) hf with ⟨hcs, _⟩ | ⟨x, l, c, zs, hcs, _, hl, hm, hz, _, hcell, hwz⟩
    · simp [Value.cells] at hcs
      obtain ⟨rfl, rfl, rfl⟩ := hcs
      exact ⟨[], .inl ⟨rfl, rfl, rfl, rfl⟩⟩
    · simp [Value.cells] at hcs
      obtain ⟨rfl, rfl, rfl⟩ := hcs
      exact ⟨zs, .inr ⟨_, rfl, hl, hm, by simpa using hz, hcell, hwz⟩⟩
  obtain ⟨a1, rfl, rfl, rfl, w1⟩ := open_int Try.underlying3 (hval 1 3 v1 rfl rfl) h1
  obtain ⟨a2, rfl, rfl, rfl, w2⟩ := open_int Try.underlying3 (hval 2 3 v2 rfl rfl) h2
  obtain ⟨a3, rfl, rfl, rfl, w3⟩ := open_int Try.underlying3 (hval 3 3 v3 rfl rfl) h3
  clear hA0 hval0
  refine (walk a0 len0 cap0 z0 a1 a2 a3 W w0 w1 w2 w3).mono fun e W' ⟨he, bel⟩ => ?_
  subst he
  exact ⟨_, rfl, _, _, _, [], _, [], hW', trodAll_mk1 (shut_bool Try.underlying4 _), (trodAll_cons_mk (Below.trod laidOut (by kernel_rfl) (of_decide_eq_true (by kernel_rfl)) k0 bel lt0) (trodAll_cons_mk (shut_int Try.underlying3 w1) (trodAll_cons_mk (shut_int Try.underlying3 w2) (trodAll_cons_mk (shut_int Try.underlying3 w3) trodAll_mk0)))), rfl, bel.frame _, fun h => by cases h⟩

theorem over : Rows.memDoesRow.holds Try.pinned (OpenSpec.ofChange Rows.memDoesSpec) :=
  OpenClaim.holds_of_wide 3 Try.f3 rfl rfl rfl rfl rfl rfl rfl ⟨rfl, rfl, rfl, rfl, rfl⟩ rfl rfl rfl rfl rfl (by kernel_rfl) Try.func3 (by kernel_rfl)
    (of_decide_eq_true (by kernel_rfl)) (by unfold Func.isWrapper; first | (rw [if_pos (by decide +kernel)]; kernel_rfl) | (rw [if_neg (by decide +kernel)]; exact ⟨rfl, rfl⟩))
    (fun os started H enc _ => lifted os started H enc)

end Go.Proofs.Ytgfhhippgkflpaa.memDoes

namespace Go.Proofs.Ytgfhhippgkflpaa
/-- The statement. -/
theorem memDoes_holds : Rows.MemDoesSaid := memDoes.over
#print axioms memDoes_holds
end Go.Proofs.Ytgfhhippgkflpaa
