/- Where the next event of a thread is, and how many are ahead of one: the document's answer. Conditions: not many. -/
import Derived.Test.YtfefkdedgceomaaWL
import Derived.Test.YtfefkdedgceomaaLMath
import Derived.WalkKit
import Derived.Below
import Derived.Deep.QuietTactic
import Derived.BigQuiet
import Derived.Deep.AppendLies
import Derived.Deep.RegionHeld3
import Derived.Deep.DeepCutAuto
import Derived.Shelf.Abstract
import Derived.Laws.Rows
namespace Go.Proofs.Ytfefkdedgceomaa
open Go.RowKit
set_option linter.unusedVariables false
set_option maxRecDepth 100000

theorem nth_step {l : List Ev} {i k : Nat} (hk : k < i) (hi : i ≤ l.length) (t : Int) : (l.take (k + 1)).countP (fun y => decide (y.t = t)) = (l.take k).countP (fun y => decide (y.t = t)) + (if (l.getD k noEv).t = t then 1 else 0) := by
  rw [take_snoc (by omega), List.countP_append]
  simp [List.countP_cons]

set_option maxHeartbeats 4000000 in
theorem next_any (sl : Sl) (L : List Ev) (i : Nat) (r : Int) (w : World) (p : Evs w w.heap.size sl L) (hn : sl.n ≤ 1000) (hi : i < L.length) (hr : Hid (nxt L i = r)) : Calls Try.prog 26 #[.slice sl.A sl.n sl.c, .int .i64 i] w (Drew (.int .i64 r) w) := by
  obtain ⟨A0, N, cp⟩ := sl
  have HP := hide p
  have hl : Hid (L.length = N) := p.1
  dsimp only at hn ⊢
  clear p
  have hiN : i < N := by have := hl.out; omega
  obtain ⟨b, off, zi, e, hb, LI0, _⟩ := HP.out.at_ hiN
  dsimp only at e
  subst e
  obtain ⟨ti, hti⟩ : ∃ t, Hid ((L.getD i noEv).t = t) := ⟨_, rfl⟩
  have ci : w.cell? ⟨b, off + i * 12, none⟩ = some (.int .i64 ti) := by rw [← hti.out]; exact LI0.e0
  clear LI0
  have i1 : (0 : Int) ≤ (i : Int) := by omega
  have i2 : (i : Int) < (N : Int) := by omega
  go_enter Try.func26, Try.ntmps26
  go_wp2
  go_loopw [5] (fun j wr => ∃ k q : Nat, i < k ∧ k ≤ N ∧ j = .int .i64 k ∧ Hid (∀ m, i < m → m < k → (L.getD m noEv).t ≠ ti) ∧ wr = w.drewN q) (fun j _ => N - (intOf j).toNat)
  case atStart => exact ⟨i + 1, 0, by omega, by omega, by go_num, (fun m a b => by omega), rfl⟩
  case round =>
    obtain ⟨k, q, hik, hk, rfl, HS, rfl⟩ := hrel
    by_cases hlt : k < N
    · obtain ⟨b', off', zk, e, _, LK0, _⟩ := HP.out.at_ hlt
      dsimp only at e
      simp only [Option.some.injEq, Addr.mk.injEq, and_true] at e
      obtain ⟨x1, x2⟩ := e
      subst x1 x2
      obtain ⟨tk, htk⟩ : ∃ t, Hid ((L.getD k noEv).t = t) := ⟨_, rfl⟩
      have ck : w.cell? ⟨b, off + k * 12, none⟩ = some (.int .i64 tk) := by rw [← htk.out]; exact LK0.e0
      clear LK0
      have j1 : (0 : Int) ≤ (k : Int) := by omega
      have j2 : (k : Int) < (N : Int) := by omega
      by_cases ht : tk = ti
      · have HR : Hid (r = (k : Int)) := by
          show _ = _
          rw [← hr.out]
          exact nxt_here hik (by have := hl.out; omega) (by rw [htk.out, hti.out, ht]) fun m a b => by rw [hti.out]; exact HS.out m a b
        have t1 : (tk == ti) = true := by simpa using ht
        clear ht hr
        go_wp2
        go_quiet (fail)
        go_wp2
        go_ret
        exact ⟨by rw [HR.out]; rfl, Below.drewN (Below.drewN (Below.refl _ _) _) _⟩
      · have HS' : Hid (∀ m, i < m → m < k + 1 → (L.getD m noEv).t ≠ ti) := fun m a b => by
          by_cases e : m = k
          · subst e; rw [htk.out]; exact ht
          · exact HS.out m a (by omega)
        have t1 : (tk == ti) = false := by simpa using ht
        clear ht HS
        go_wp2
        go_quiet (fail)
        go_wp2
        go_roundw
        case rel => exact ⟨k + 1, _, by omega, by omega, by go_num, HS', rfl⟩
        case measure => simp [intOf]; omega
    · obtain rfl : N = k := by omega
      have HR : Hid (r = -1) := by
        show _ = _
        rw [← hr.out]
        exact nxt_none fun m a b => by rw [hti.out]; exact HS.out m a (by have := hl.out; omega)
      clear hr
      go_wp2
      go_ret
      exact ⟨by rw [HR.out]; rfl, Below.drewN (Below.refl _ _) _⟩

set_option maxHeartbeats 4000000 in
theorem nth_any (sl : Sl) (L : List Ev) (i : Nat) (w : World) (p : Evs w w.heap.size sl L) (hn : sl.n ≤ 1000) (hcap : sl.n ≤ sl.c) (hi : i < L.length) : Calls Try.prog 27 #[.slice sl.A sl.n sl.c, .int .i64 i] w (Drew (.int .i64 (nthN L i : Nat)) w) := by
  obtain ⟨A0, N, cp⟩ := sl
  have HP := hide p
  have hl : Hid (L.length = N) := p.1
  dsimp only at hn hcap ⊢
  clear p
  have hiN : i < N := by have := hl.out; omega
  obtain ⟨b, off, zi, e, hb, LI1, _⟩ := HP.out.at_ hiN
  dsimp only at e
  subst e
  obtain ⟨ti, hti⟩ : ∃ t, Hid ((L.getD i noEv).t = t) := ⟨_, rfl⟩
  have HCI : Hid (w.cell? ⟨b, off + i * 12, none⟩ = some (.int .i64 ti)) := by show _ = _; rw [← hti.out]; exact LI1.e0
  clear LI1
  have i1 : (0 : Int) ≤ (i : Int) := by omega
  have i2 : (i : Int) ≤ (cp : Int) := by omega
  have i3 : (i : Int) < (N : Int) := by omega
  go_enter Try.func27, Try.ntmps27
  go_wp2
  go_loopw [5, 12] (fun m j wr => ∃ k m' : Nat, k ≤ i ∧ j = .int .i64 k ∧ m = .int .i64 m' ∧ Hid (m' = (L.take k).countP (fun y => decide (y.t = ti))) ∧ Hid (Below w.heap.size w wr)) (fun _ j _ => i - (intOf j).toNat)
  case atStart => exact ⟨0, 0, by omega, rfl, rfl, rfl, Below.refl _ _⟩
  case round =>
    obtain ⟨k, m, hk, rfl, rfl, HM, HB⟩ := hrel
    have hmk : m ≤ k := by have h1 := HM.out; have h2 : (L.take k).countP (fun y => decide (y.t = ti)) ≤ (L.take k).length := List.countP_le_length; simp at h2; omega
    by_cases hlt : k < i
    · obtain ⟨b', off', z, e, _, LI0, _⟩ := (HP.out.below HB.out (Nat.le_refl _)).at_ (k := k) (by dsimp only; omega)
      dsimp only at e
      simp only [Option.some.injEq, Addr.mk.injEq, and_true] at e
      obtain ⟨x1, x2⟩ := e
      subst x1 x2
      obtain ⟨x, hx⟩ : ∃ x, Hid (L.getD k noEv = x) := ⟨_, rfl⟩
      rw [hx.out] at LI0
      have LI := hide LI0
      have MD := hide (made wr zero45 (ec x z) 45)
      clear LI0
      have HB1 := hide (HB.out.trans (MD.out.2.mono HB.out.size))
      have HST := hide (nth_step (l := L) hlt (by have := hl.out; omega) ti)
      rw [hx.out] at HST
      go_upto_region 5 with (first | ((with_reducible refine ld45 (.tmp 14) b (off + k * 12) ?_ ?_ x z ?_ ?_); (exact rfl); (exact rfl); (exact LI.out)) | ((with_reducible refine st45 (.tmp 7) (.tmp 15) wr.heap.size ?_ x z ?_ zero45 ?_ rfl ?_); (exact rfl); (exact rfl); (exact Bx.new wr zero45 45)))
      obtain ⟨U, hU⟩ : ∃ U, Hid ((wr.alloc (.cells zero45 45)).setRow wr.heap.size (ec x z) = U) := ⟨_, rfl⟩
      obtain ⟨g, hg⟩ : ∃ g, Hid (wr.heap.size = g) := ⟨_, rfl⟩
      have BX := hide MD.out.1
      have hU' := hU.out
      have hg' := hg.out
      rw [hU', hg']
      rw [hU'] at BX HB1
      rw [hg'] at BX
      clear hU hU' hg hg' MD HB LI
      have c0 : U.cell? ⟨g, 0, none⟩ = some (.int .i64 x.t) := BX.out.e0
      have ci : U.cell? ⟨b, off + i * 12, none⟩ = some (.int .i64 ti) := (HB1.out.cell (p := ⟨b, off + i * 12, none⟩) hb).trans HCI.out
      by_cases ht : x.t = ti
      · have HM' : Hid (m + 1 = (L.take (k + 1)).countP (fun y => decide (y.t = ti))) := by show _ = _; rw [HST.out, if_pos ht, HM.out]
        have t1 : (x.t == ti) = true := by simpa using ht
        clear ht HST HM
        go_quiet (fail)
        go_wp2
        go_roundw
        case rel => exact ⟨k + 1, m + 1, by omega, by go_num, by go_num, HM', Below.drewN HB1.out _⟩
        case measure => simp [intOf]; omega
      · have HM' : Hid (m = (L.take (k + 1)).countP (fun y => decide (y.t = ti))) := by show _ = _; rw [HST.out, if_neg ht, HM.out, Nat.add_zero]
        have t1 : (x.t == ti) = false := by simpa using ht
        clear ht HST HM
        go_quiet (fail)
        go_wp2
        go_roundw
        case rel => exact ⟨k + 1, m, by omega, by go_num, rfl, HM', Below.drewN HB1.out _⟩
        case measure => simp [intOf]; omega
    · obtain rfl : k = i := by omega
      have HT : Hid (m = nthN L k) := by
        show _ = _
        unfold nthN
        rw [HM.out, hti.out]
      go_wp2
      go_ret
      exact ⟨by rw [HT.out]; rfl, HB.out⟩

end Go.Proofs.Ytfefkdedgceomaa
