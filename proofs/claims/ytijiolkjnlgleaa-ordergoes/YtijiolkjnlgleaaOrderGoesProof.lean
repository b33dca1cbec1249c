/- Gone through from below, always by the one above, a set is gone through in order: for every list the answer is true. (The statement tendrillaw09.OrderGoes.) -/
import Derived.Test.YtijiolkjnlgleaaRows
import Derived.Test.YtijiolkjnlgleaaLaws
import Derived.Test.YtijiolkjnlgleaaFrame
import Derived.WalkKit
namespace Go.Proofs.Ytijiolkjnlgleaa.orderGoes
open Go.Joins Go.ChangeShapes Go.WideShapes Go.ChangeAt Go.RowKit Go.Deep
set_option linter.unusedVariables false

/-- All up to the k-th were gone through, and the last one was a. -/
def Gone (y : Int) (ys : List Int) (k : Nat) (a : Int) : Prop := (k = 0 ∧ a = y - 1) ∨ (0 < k ∧ k ≤ (y :: ys).length ∧ a = (y :: ys).getD (k - 1) 0)
theorem gone_start (y : Int) (ys : List Int) : Gone y ys 0 (y - 1) := .inl ⟨rfl, rfl⟩
theorem gone_step {y : Int} {ys : List Int} {k : Nat} (hk : k < (y :: ys).length) : Gone y ys (k + 1) ((y :: ys).getD k 0) := .inr ⟨by omega, hk, rfl⟩
theorem split_at (l : List Int) (k : Nat) (hk : k < l.length) : l = l.take k ++ l.getD k 0 :: l.drop (k + 1) := by
  have h1 := List.take_append_drop k l
  have h2 : l.drop k = l.getD k 0 :: l.drop (k + 1) := by
    rw [List.drop_eq_getElem_cons hk]
    simp [hk]
  rw [← h2, h1]
theorem up_le {l : List Int} (h : Up l) {i j : Nat} (hi : i ≤ j) (hj : j < l.length) : l.getD i 0 ≤ l.getD j 0 := by
  rcases Nat.lt_or_eq_of_le hi with hlt | rfl
  · have := List.pairwise_iff_getElem.1 h i j (by omega) hj hlt
    have e1 : l.getD i 0 = l[i]'(by omega) := by simp [show i < l.length by omega]
    have e2 : l.getD j 0 = l[j] := by simp [hj]
    rw [e1, e2]
    exact Int.le_of_lt this
  · exact Int.le_refl _
theorem up_lt {l : List Int} (h : Up l) {i j : Nat} (hi : i < j) (hj : j < l.length) : l.getD i 0 < l.getD j 0 := by
  have := List.pairwise_iff_getElem.1 h i j (by omega) hj hi
  have e1 : l.getD i 0 = l[i]'(by omega) := by simp [show i < l.length by omega]
  have e2 : l.getD j 0 = l[j] := by simp [hj]
  rw [e1, e2]
  exact this
theorem mem_take_le {l : List Int} (h : Up l) {k : Nat} (hk : 0 < k) (hkl : k ≤ l.length) {z : Int} (hz : z ∈ l.take k) : z ≤ l.getD (k - 1) 0 := by
  obtain ⟨i, hi, rfl⟩ := List.getElem_of_mem hz
  have hi' : i < k := by simp at hi; omega
  have e : (l.take k)[i] = l.getD i 0 := by simp [show i < l.length by omega]
  rw [e]
  exact up_le h (by omega) (by omega)
theorem gone_pick {z0 : List Int} {y : Int} {ys : List Int} {k : Nat} {a : Int} (h : sset z0 = y :: ys) (hg : Gone y ys k a) (hk : k < (y :: ys).length) : pick (fun z => decide (a < z)) z0 = ((y :: ys).getD k 0, true) := by
  have hu : Up (y :: ys) := h ▸ up_sset z0
  refine pick_above (pre := (y :: ys).take k) (r := (y :: ys).drop (k + 1)) (by rw [h]; exact split_at _ k hk) ?_ ?_
  · intro z hz
    rcases hg with ⟨rfl, _⟩ | ⟨h1, h2, rfl⟩
    · simp at hz
    · exact mem_take_le hu h1 h2 hz
  · rcases hg with ⟨rfl, rfl⟩ | ⟨h1, h2, rfl⟩
    · show y - 1 < y
      omega
    · exact up_lt hu (by omega) hk
theorem gone_end {z0 : List Int} {y : Int} {ys : List Int} {k : Nat} {a : Int} (h : sset z0 = y :: ys) (hg : Gone y ys k a) (hk : (y :: ys).length ≤ k) : pick (fun z => decide (a < z)) z0 = (0, false) := by
  have hu : Up (y :: ys) := h ▸ up_sset z0
  refine pick_none fun z hz => ?_
  rw [h] at hz
  rcases hg with ⟨rfl, _⟩ | ⟨h1, h2, rfl⟩
  · simp at hk
  · have : (y :: ys).take k = y :: ys := List.take_of_length_le hk
    exact mem_take_le hu h1 h2 (by rw [this]; exact hz)

set_option maxRecDepth 100000 in
set_option maxHeartbeats 2000000 in
theorem walk (A0 : Option Addr) (n0 c0 : Nat) (z0 : List Int) (w : World) (w0 : Came w 1 A0 n0 c0 z0) (s0 : n0 ≤ 17592186044416) :
    Calls Try.prog 6 #[.slice A0 n0 c0] w (Drew (.bool true) w) := by
  obtain ⟨hN, hnc, hA, hwf⟩ := w0
  have HN := hide hN
  have HA := hide hA
  have HW := hide hwf
  have HL : Hid (z0.length = n0) := by have := hN.1; show _ = _; omega
  clear hN hA hwf hnc
  have H0 := hide (live_yes w)
  have HU := hide (len_sset z0)
  by_cases h1 : 200 < n0
  · have t1 : decide ((200 : Int) < (n0 : Int)) = true := by simp; omega
    go_enter Try.func6, Try.ntmps6
    go_wp2_with fail
    refine (H0.out).mono ?_
    rintro e u1 ⟨rfl, hb⟩
    have HN := hide (HN.out.step hb)
    have B := hide hb
    clear hb
    go_wp2_with fail
    refine (set_any A0 n0 c0 z0 u1 HN.out HW s0).mono ?_
    rintro e u2 ⟨As, ms, ds, rfl, hAs, hr, hb⟩
    have HN := hide (HN.out.step hb)
    have B := hide (B.out.trans (hb.mono B.out.size))
    have Ns := hide (own_nums hr)
    have Ls := hide (own_len hr)
    clear hr hb
    have hms : ms ≤ n0 := by have := Ls.out; have := HU.out; have := HL.out; omega
    go_wp2
    go_ret
    exact ⟨rfl, B.out⟩
  have t1 : decide ((200 : Int) < (n0 : Int)) = false := by simp; omega
  have hn0 : n0 ≤ 200 := by omega
  clear h1
  rcases hss : sset z0 with _ | ⟨y, ys⟩
  · have HE := hide hss
    clear hss
    go_enter Try.func6, Try.ntmps6
    go_wp2_with fail
    refine (H0.out).mono ?_
    rintro e u1 ⟨rfl, hb⟩
    have HN := hide (HN.out.step hb)
    have B := hide hb
    clear hb
    go_wp2_with fail
    refine (set_any A0 n0 c0 z0 u1 HN.out HW s0).mono ?_
    rintro e u2 ⟨As, ms, ds, rfl, hAs, hr, hb⟩
    have HN := hide (HN.out.step hb)
    have B := hide (B.out.trans (hb.mono B.out.size))
    have Ns := hide (own_nums hr)
    have Ls := hide (own_len hr)
    clear hr hb
    obtain rfl : ms = 0 := by have := Ls.out; rw [HE.out] at this; simpa using this
    go_wp2
    go_ret
    exact ⟨rfl, B.out⟩
  have HE := hide hss
  clear hss
  have hwy : (Lit.int .i64 y).wf = true := HW.out y (mem_sset.1 (by rw [HE.out]; simp))
  have hb := wf_bounds hwy
  clear hwy
  by_cases h2 : y = -9223372036854775808
  · have t3 : (y == -9223372036854775808) = true := by simpa using h2
    have HX := hide h2
    clear h2
    go_enter Try.func6, Try.ntmps6
    go_wp2_with fail
    refine (H0.out).mono ?_
    rintro e u1 ⟨rfl, hb⟩
    have HN := hide (HN.out.step hb)
    have B := hide hb
    clear hb
    go_wp2_with fail
    refine (set_any A0 n0 c0 z0 u1 HN.out HW s0).mono ?_
    rintro e u2 ⟨As, ms, ds, rfl, hAs, hr, hb⟩
    have HN := hide (HN.out.step hb)
    have B := hide (B.out.trans (hb.mono B.out.size))
    have Ns := hide (own_nums hr)
    have Ls := hide (own_len hr)
    clear hr hb
    have hms : ms ≤ 200 := by have := Ls.out; have := HU.out; have := HL.out; omega
    have hms1 : 1 ≤ ms := by have := Ls.out; rw [HE.out] at this; simp at this; omega
    have Nse := hide (Ns.out.as HE.out)
    have Lse : Hid (ms = (y :: ys).length) := by have := Ls.out; rw [HE.out] at this; exact this
    clear Ns Ls
    obtain ⟨g, off, rfl, hgl, hc0⟩ := Nse.out.at_ (k := 0) (by omega)
    simp only [Nat.add_zero, List.getD_cons_zero] at hc0
    have t2 : ((ms : Int) == 0) = false := by simp; omega
    have i1 : (0 : Int) < (ms : Int) := by omega
    go_wp2
    go_ret
    exact ⟨rfl, B.out⟩
  have t3 : (y == -9223372036854775808) = false := by simpa using h2
  have hb0 : -9223372036854775807 ≤ y := by omega
  have hb1 : y ≤ 9223372036854775807 := hb.2
  clear hb h2
  go_enter Try.func6, Try.ntmps6
  go_wp2_with fail
  refine (H0.out).mono ?_
  rintro e u1 ⟨rfl, hb⟩
  have HN := hide (HN.out.step hb)
  have B := hide hb
  clear hb
  go_wp2_with fail
  refine (set_any A0 n0 c0 z0 u1 HN.out HW s0).mono ?_
  rintro e u2 ⟨As, ms, ds, rfl, hAs, hr, hb⟩
  have HN := hide (HN.out.step hb)
  have B := hide (B.out.trans (hb.mono B.out.size))
  have Ns := hide (own_nums hr)
  have Ls := hide (own_len hr)
  clear hr hb
  have hms : ms ≤ 200 := by have := Ls.out; have := HU.out; have := HL.out; omega
  have hms1 : 1 ≤ ms := by have := Ls.out; rw [HE.out] at this; simp at this; omega
  have Nse := hide (Ns.out.as HE.out)
  have Lse : Hid (ms = (y :: ys).length) := by have := Ls.out; rw [HE.out] at this; exact this
  clear Ns Ls
  obtain ⟨g, off, rfl, hgl, hc0⟩ := Nse.out.at_ (k := 0) (by omega)
  simp only [Nat.add_zero, List.getD_cons_zero] at hc0
  have t2 : ((ms : Int) == 0) = false := by simp; omega
  have i1 : (0 : Int) < (ms : Int) := by omega
  go_wp2
  go_loopw [4, 35] (fun v i wr => ∃ (k : Nat) (a : Int), k ≤ ms ∧ i = .int .i64 k ∧ v = .int .i64 a ∧ Hid (Gone y ys k a) ∧ wr = u2) (fun _ i _ => ms - (intOf i).toNat)
  case atStart => exact ⟨0, y - 1, by omega, rfl, by go_num, gone_start y ys, rfl⟩
  case round =>
    obtain ⟨k, a, hk, rfl, rfl, HG, rfl⟩ := hrel
    clear hc0
    by_cases hlt : k < ms
    · obtain ⟨g', off', e1, _, hc⟩ := Nse.out.at_ hlt
      simp only [Option.some.injEq, Addr.mk.injEq, and_true] at e1
      obtain ⟨rfl, rfl⟩ := e1
      have HP := hide (gone_pick HE.out HG.out (by have := Lse.out; omega))
      have HG' := hide (gone_step (y := y) (ys := ys) (k := k) (by have := Lse.out; omega))
      generalize (y :: ys).getD k 0 = z at hc HP HG'
      have t4 : (z != z) = false := by simp
      go_wp2_with fail
      refine (above_any A0 n0 c0 _ z0 a z true _ HN.out HP s0).mono ?_
      rintro e v0 ⟨rfl, rfl⟩
      go_wp2
      go_roundw
      case rel => exact ⟨k + 1, z, by omega, by go_num, rfl, HG', trivial⟩
      case measure => simp [intOf]; omega
    · have HP := hide (gone_end HE.out HG.out (by have := Lse.out; omega))
      go_wp2_with fail
      refine (above_any A0 n0 c0 _ z0 a 0 false _ HN.out HP s0).mono ?_
      rintro e v0 ⟨rfl, rfl⟩
      go_wp2
      go_ret
      exact ⟨rfl, B.out⟩

theorem lifted (os : Os) (started : os.Started) (H : Type) (enc : TypeId × Value → H) :
    ReturnsInHanded {} Try.checked os 6 .any (Rows.orderGoesSpec.pre6 enc Try.prog Try.f6 Rows.orderGoesRow.domain false) (Rows.orderGoesSpec.post enc Try.prog Try.f6 false true false false) := by
  refine returnsInHanded_of_change_sized (C := Try.checked) own started (by kernel_rfl) Try.func6
    (ChangeSpec.witness6 (enc := enc) (C := Try.checked) false ⟨#[], #[.slice none 0 0], []⟩ 8 (by kernel_rfl) (by kernel_rfl) (by kernel_rfl) (by kernel_rfl)) ?_
  intro W base args ds gs before hval0 hW hcnd hz0 _
  have hval : ∀ (j : Nat) t v, Try.f6.params[j]? = some t → args[j]? = some v → Value.okWide Try.prog W .any base t v := hval0
  have hW' := hW
  obtain ⟨p, q, hA0, hV, rfl, hfz, hnd⟩ := hW
  have hA : DataW.TrodAll enc Try.prog W 0 (fun _ => true) true Try.f6.params.toList args.toList ds p := hA0
  have hz := hz0
  rw [Try.params6] at hA hval hz
  obtain ⟨x0, vs0, d0, ds0, p0, q0, hargs, rfl, rfl, h0, r0⟩ := trodAll_cons hA
  obtain ⟨rfl, rfl, rfl⟩ := trodAll_nil r0
  obtain rfl : args = #[x0] := by cases args; simp_all
  obtain ⟨rfl, rfl⟩ := trodVars_none hV
  have lt0 : ∀ x ∈ p0, x.block < W.heap.size := by obtain ⟨m, hm⟩ := h0; exact DataW.trod_lt m _ _ _ hm
  obtain ⟨A0, n0, c0, rfl⟩ := okWide_slice Try.underlying22 (hval 0 22 x0 rfl rfl)
  obtain ⟨z0, w0⟩ := open_flat Try.underlying22 cells3 (by omega) elem3 h0
  have s0 := open_size (j := 0) h0 hz rfl rfl
  clear hA0 hval0 hz0
  refine (walk A0 n0 c0 z0 W w0 s0).mono fun e W' ⟨he, bel⟩ => ?_
  subst he
  exact ⟨_, rfl, _, _, _, [], _, [], hW', trodAll_mk1 (shut_bool Try.underlying4 _), (trodAll_cons_mk (Below.trod laidOut (by kernel_rfl) (of_decide_eq_true (by kernel_rfl)) h0 bel lt0) trodAll_mk0), rfl, bel.frame _, fun h => by cases h⟩

theorem over : Rows.orderGoesRow.holds Try.pinned (OpenSpec.ofChange Rows.orderGoesSpec) :=
  OpenClaim.holds_of_wide 6 Try.f6 rfl rfl rfl rfl rfl rfl rfl ⟨rfl, rfl, rfl, rfl, rfl⟩ rfl rfl rfl rfl rfl (by kernel_rfl) Try.func6 (by kernel_rfl)
    (of_decide_eq_true (by kernel_rfl)) (by unfold Func.isWrapper; first | (rw [if_pos (by decide +kernel)]; kernel_rfl) | (rw [if_neg (by decide +kernel)]; exact ⟨rfl, rfl⟩))
    (fun os started H enc _ => lifted os started H enc)

end Go.Proofs.Ytijiolkjnlgleaa.orderGoes

namespace Go.Proofs.Ytijiolkjnlgleaa
/-- The statement. -/
theorem orderGoes_holds : Rows.OrderGoesSaid := orderGoes.over
#print axioms orderGoes_holds
end Go.Proofs.Ytijiolkjnlgleaa
