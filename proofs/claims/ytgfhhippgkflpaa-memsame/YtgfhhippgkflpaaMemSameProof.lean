/- Whatever the memory, the place, the old and the new word: a swap that is done stores, one that is not changes nothing; no conditions. (The statement tendrillaw02.MemSame.) -/
import Derived.Test.YtgfhhippgkflpaaRows
import Derived.Test.YtgfhhippgkflpaaWords
import Derived.Test.YtgfhhippgkflpaaWalks
import Derived.WalkKit
import Derived.ProofKit
import Derived.OpenShut
import Derived.ShutString
import Derived.ChangeOld
import Derived.Below
namespace Go.Proofs.Ytgfhhippgkflpaa.memSame
open Go.ChangeShapes Go.WideShapes Go.ChangeAt Go.RowKit
open Go.ChangeMaps (open_string shut_string)
set_option linter.unusedVariables false

theorem own : ownKnob Try.prog.godebug = none := by kernel_rfl
theorem laidOut : laidOutB Try.prog = true := by kernel_rfl

/-! ### STEP 1: THE WALK: the Go text returns true, AND WRITES NOTHING THAT WAS THERE: 'Below w.heap.size w w'' (Derived/Below.lean: '.refl', '.alloc', '.drew', '.setCell' at a new block, '.trans'). Open each 'IsRow' by 'rcases' AHEAD of 'go_enter'; part every test ahead of the walk. -/
set_option maxHeartbeats 1000000 in
theorem walk (a0 : Option Addr) (len0 cap0 : Nat) (z0 : List Int) (a1 : Int) (a2 : Int) (a3 : Int) (w : World) (w0 : IsRow .i64 w a0 len0 cap0 z0) (w1 : (Lit.int .i64 a1).wf = true) (w2 : (Lit.int .i64 a2).wf = true) (w3 : (Lit.int .i64 a3).wf = true) :
    Calls Try.prog 7 #[.slice a0 len0 cap0, .int .i64 a1, .int .i64 a2, .int .i64 a3] w fun e w' => e = .returned (.bool true) ∧ Below w.heap.size w w' := by
  have hN := w0.nums
  have HA := hide w0.cap
  generalize z0.take len0 = zs at hN
  clear w0 w1 w2 w3
  by_cases hbig : 1000 < len0
  · skip
    go_enter Try.func7, Try.ntmps7
    go_wp2_with fail
    refine (live_yes _).mono ?_
    rintro e u1 ⟨rfl, hb1⟩
    go_wp2
    go_ret
    exact ⟨rfl, hb1⟩
  have hn : len0 ≤ 1000 := by omega
  clear hbig
  by_cases hp : 0 ≤ a1 ∧ a1 < (len0 : Int)
  · obtain ⟨k, rfl⟩ := Int.eq_ofNat_of_zero_le hp.1
    have hk : k < len0 := by omega
    clear hp
    obtain ⟨y, X1⟩ : ∃ y, Hid (zs.getD k 0 = y) := ⟨_, rfl⟩
    by_cases hy : y = a2
    · subst hy
      go_enter Try.func7, Try.ntmps7
      go_wp2_with fail
      refine (live_yes _).mono ?_
      rintro e u1 ⟨rfl, hb1⟩
      have hN1 := hN.below hb1 (Nat.le_refl _)
      go_wp2_with fail
      refine (cas_yes _ _ _ w.heap.size k zs y _ _ hN1 X1 hb1.size hk (by omega)).mono ?_
      rintro e u2 ⟨A2, c2, rfl, hf2, hb2⟩
      have hN2 := hN1.below hb2 hb1.size
      go_wp2_with fail
      refine (store_ok _ _ _ w.heap.size k zs _ _ hN2 (Nat.le_trans hb1.size hb2.size) hk (by omega)).mono ?_
      rintro e u3 ⟨A3, c3, rfl, hf3, hb3⟩
      have hN3 := hN2.below hb3 (Nat.le_trans hb1.size hb2.size)
      have hM3 := hf2.nums.below hb3 (Nat.le_refl _)
      go_wp2_with fail
      refine (load_ok _ _ _ _ k _ y _ hN3 X1 hk (by omega)).mono ?_
      rintro e w' ⟨rfl, rfl⟩
      go_wp2_with fail
      refine (same_yes _ _ _ _ _ _ _ (zs.set k a3) _ hM3 hf3.nums (by omega)).mono ?_
      rintro e u4 ⟨rfl, hb4⟩
      go_wp2
      go_ret
      exact ⟨rfl, (((hb1.trans (hb2.mono hb1.size)).trans (hb3.mono (Nat.le_trans hb1.size hb2.size))).trans (hb4.mono (Nat.le_trans hb1.size (Nat.le_trans hb2.size hb3.size))))⟩
    · have q1 : (y == a2) = false := by rw [beq_eq_false_iff_ne]; exact hy
      have HY := hide hy
      clear hy
      go_enter Try.func7, Try.ntmps7
      go_wp2_with fail
      refine (live_yes _).mono ?_
      rintro e u1 ⟨rfl, hb1⟩
      have hN1 := hN.below hb1 (Nat.le_refl _)
      go_wp2_with fail
      refine (cas_not _ _ _ w.heap.size k zs a2 _ y _ hN1 X1 HY hb1.size hk (by omega)).mono ?_
      rintro e u2 ⟨A2, c2, rfl, hf2, hb2⟩
      have hN2 := hN1.below hb2 hb1.size
      go_wp2_with fail
      refine (store_ok _ _ _ w.heap.size k zs _ _ hN2 (Nat.le_trans hb1.size hb2.size) hk (by omega)).mono ?_
      rintro e u3 ⟨A3, c3, rfl, hf3, hb3⟩
      have hN3 := hN2.below hb3 (Nat.le_trans hb1.size hb2.size)
      have hM3 := hf2.nums.below hb3 (Nat.le_refl _)
      go_wp2_with fail
      refine (load_ok _ _ _ _ k _ y _ hN3 X1 hk (by omega)).mono ?_
      rintro e w' ⟨rfl, rfl⟩
      go_wp2_with fail
      refine (same_yes _ _ _ _ _ _ _ zs _ hM3 hN3 (by omega)).mono ?_
      rintro e u4 ⟨rfl, hb4⟩
      go_wp2
      go_ret
      exact ⟨rfl, (((hb1.trans (hb2.mono hb1.size)).trans (hb3.mono (Nat.le_trans hb1.size hb2.size))).trans (hb4.mono (Nat.le_trans hb1.size (Nat.le_trans hb2.size hb3.size))))⟩
  · have HP : Hid (a1 < 0 ∨ (len0 : Int) ≤ a1) := (by omega : a1 < 0 ∨ (len0 : Int) ≤ a1)
    clear hp
    go_enter Try.func7, Try.ntmps7
    go_wp2_with fail
    refine (live_yes _).mono ?_
    rintro e u1 ⟨rfl, hb1⟩
    go_wp2_with fail
    refine (cas_no _ _ _ _ _ _ _ HP (by omega)).mono ?_
    rintro e w' ⟨rfl, rfl⟩
    go_wp2_with fail
    refine (store_no _ _ _ _ _ _ HP (by omega)).mono ?_
    rintro e w' ⟨rfl, rfl⟩
    go_wp2_with fail
    refine (load_no _ _ _ _ _ HP (by omega)).mono ?_
    rintro e w' ⟨rfl, rfl⟩
    go_wp2
    go_ret
    exact ⟨rfl, hb1⟩

/-! ### THE ROW's STEP: WRITTEN OUT: LEAVE IT -/
set_option maxRecDepth 100000 in
theorem lifted (os : Os) (started : os.Started) (H : Type) (enc : TypeId × Value → H) :
    ReturnsInHanded {} Try.checked os 7 .any (Rows.memSameSpec.pre6 enc Try.prog Try.f7 Rows.memSameRow.domain false) (Rows.memSameSpec.post enc Try.prog Try.f7 false true false false) := by
  refine returnsInHanded_of_change (C := Try.checked) own started (by kernel_rfl) Try.func7
    (ChangeSpec.witness6 (enc := enc) (C := Try.checked) false ⟨#[], #[.slice none 0 0, .int .i64 0, .int .i64 0, .int .i64 0], []⟩ 8 (by kernel_rfl) (by kernel_rfl) (by kernel_rfl) (by kernel_rfl)) ?_
  intro W base args ds gs before hval0 hW hcnd _
  have hval : ∀ (j : Nat) t v, Try.f7.params[j]? = some t → args[j]? = some v → Value.okWide Try.prog W .any base t v := hval0
  have hW' := hW
  obtain ⟨p, q, hA0, hV, rfl, hfz, hnd⟩ := hW
  have hA : DataW.TrodAll enc Try.prog W 0 (fun _ => true) true Try.f7.params.toList args.toList ds p := hA0
  rw [Try.params7] at hA hval
  obtain ⟨v0, vs0, d0, ds0, p0, q0, hargs, rfl, rfl, h0, r0⟩ := trodAll_cons hA
  obtain ⟨v1, vs1, d1, ds1, p1, q1, rfl, rfl, rfl, h1, r1⟩ := trodAll_cons r0
  obtain ⟨v2, vs2, d2, ds2, p2, q2, rfl, rfl, rfl, h2, r2⟩ := trodAll_cons r1
  obtain ⟨v3, vs3, d3, ds3, p3, q3, rfl, rfl, rfl, h3, r3⟩ := trodAll_cons r2
  obtain ⟨rfl, rfl, rfl⟩ := trodAll_nil r3
  obtain rfl : args = #[v0, v1, v2, v3] := by cases args; simp_all
  obtain ⟨rfl, rfl⟩ := trodVars_none hV
  obtain ⟨a0, len0, cap0, rfl⟩ := okWide_slice Try.underlying22 (hval 0 22 v0 rfl rfl)
  have k0 := h0
  have lt0 : ∀ x ∈ p0, x.block < W.heap.size := by obtain ⟨m, hm⟩ := k0; exact DataW.trod_lt m _ _ _ hm
  obtain ⟨z0, w0⟩ : ∃ zs, IsRow .i64 W a0 len0 cap0 zs := by
    obtain ⟨fuel, hf⟩ := h0
    rcases open_ints Try.underlying22 Try.underlying3 (by kernel_rfl) hf with ⟨hcs, _⟩ | ⟨x, l, c, zs, hcs, _, hl, hm, hz, _, hcell, hwz⟩
    · simp [Value.cells] at hcs
      obtain ⟨rfl, rfl, rfl⟩ := hcs
      exact ⟨[], .inl ⟨rfl, rfl, rfl, rfl⟩⟩
    · simp [Value.cells] at hcs
      obtain ⟨rfl, rfl, rfl⟩ := hcs
      exact ⟨zs, .inr ⟨_, rfl, hl, hm, by simpa using hz, hcell, hwz⟩⟩
  obtain ⟨a1, rfl, rfl, rfl, w1⟩ := open_int Try.underlying3 (hval 1 3 v1 rfl rfl) h1
  obtain ⟨a2, rfl, rfl, rfl, w2⟩ := open_int Try.underlying3 (hval 2 3 v2 rfl rfl) h2
  obtain ⟨a3, rfl, rfl, rfl, w3⟩ := open_int Try.underlying3 (hval 3 3 v3 rfl rfl) h3
  clear hA0 hval0
  refine (walk a0 len0 cap0 z0 a1 a2 a3 W w0 w1 w2 w3).mono fun e W' ⟨he, bel⟩ => ?_
  subst he
  exact ⟨_, rfl, _, _, _, [], _, [], hW', trodAll_mk1 (shut_bool Try.underlying4 _), (trodAll_cons_mk (Below.trod laidOut (by kernel_rfl) (of_decide_eq_true (by kernel_rfl)) k0 bel lt0) (trodAll_cons_mk (shut_int Try.underlying3 w1) (trodAll_cons_mk (shut_int Try.underlying3 w2) (trodAll_cons_mk (shut_int Try.underlying3 w3) trodAll_mk0)))), rfl, bel.frame _, fun h => by cases h⟩

theorem over : Rows.memSameRow.holds Try.pinned (OpenSpec.ofChange Rows.memSameSpec) :=
  OpenClaim.holds_of_wide 7 Try.f7 rfl rfl rfl rfl rfl rfl rfl ⟨rfl, rfl, rfl, rfl, rfl⟩ rfl rfl rfl rfl rfl (by kernel_rfl) Try.func7 (by kernel_rfl)
    (of_decide_eq_true (by kernel_rfl)) (by unfold Func.isWrapper; first | (rw [if_pos (by decide +kernel)]; kernel_rfl) | (rw [if_neg (by decide +kernel)]; exact ⟨rfl, rfl⟩))
    (fun os started H enc _ => lifted os started H enc)

end Go.Proofs.Ytgfhhippgkflpaa.memSame

namespace Go.Proofs.Ytgfhhippgkflpaa
/-- The statement. -/
theorem memSame_holds : Rows.MemSameSaid := memSame.over
#print axioms memSame_holds
end Go.Proofs.Ytgfhhippgkflpaa
