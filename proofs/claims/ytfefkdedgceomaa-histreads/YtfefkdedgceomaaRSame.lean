/- Whether two lists of calls are the same: the document's answer, of two that are. Conditions: not many, lists that a memory can hold. -/
import Derived.Test.YtfefkdedgceomaaWL
import Derived.WalkKit
import Derived.Below
import Derived.Deep.QuietTactic
import Derived.BigQuiet
import Derived.Deep.AppendLies
import Derived.Deep.RegionHeld3
import Derived.Deep.DeepCutAuto
import Derived.Shelf.Abstract
import Derived.Laws.Rows
namespace Go.Proofs.Ytfefkdedgceomaa
open Go.RowKit
set_option linter.unusedVariables false
set_option maxRecDepth 100000

/-- A call's cells are loaded. -/
theorem exec39 {a : Act} {u : World} {dst : Option Tmp} {ty : TypeId} {pos : String} {af : Array Edge} {gd : Option (Nat × Bool)} (x : Operand) (g off : Nat) (hx : a.eval x = .pointer (some ⟨g, off, none⟩)) (c : Cl) (z : S3) (HG : Lies u g off (cc c z)) :
    (execOp a.eval ⟨dst, .load 39 x, ty, pos, af, gd⟩).run Try.prog u = .ok (.value (.agg (cc c z))) u := by
  have hl : (loadCells ⟨g, off, none⟩ (cc c z).toList.length).run Try.prog u = .ok (cc c z).toList.toArray u :=
    run_loadCells_list (P := Try.prog) u ⟨g, off, none⟩ (cc c z).toList (fun j v hv => by
      have hadd : (⟨g, off, none⟩ : Addr).add j = ⟨g, off + j, none⟩ := by unfold Addr.add; split <;> simp_all
      rw [hadd]
      exact HG j v hv)
  have hr : (loadVar 39 ⟨g, off, none⟩).run Try.prog u = .ok (.agg (cc c z)) u := by
    have hi := size39
    cases hq : Try.prog.info? 39 with
    | none => simp [hq] at hi
    | some i =>
      have hs : i.size = (cc c z).size := by
        have h : i.size = 13 := by simpa [hq] using hi
        exact h
      have hagg : (isAgg 39).run Try.prog u = .ok true u := by
        unfold isAgg
        rw [Sem.run_bind, run_underlying Try.underlying39 u]
        rfl
      simp only [Array.length_toList, Array.toArray_toList] at hl
      simp [loadVar, Sem.run_bind, hagg, sizeOf, typeInfo, hq, hs, hl]
  unfold execOp
  simp only [hx, Instr.loadAt, Instr.sureAddr, Sem.run_bind, Sem.run_pure, Result.andThen_ok, hr]

set_option maxHeartbeats 4000000 in
theorem sameAll_any (s s' : Sl) (C : List Cl) (w : World) (p : Cls w w.heap.size s C) (p' : Cls w w.heap.size s' C) (hn : s.n ≤ 1000) (M : ∀ i, i < C.length → MostR (C.getD i noCl).r) : Calls Try.prog 15 #[.slice s.A s.n s.c, .slice s'.A s'.n s'.c] w (Drew (.bool true) w) := by
  obtain ⟨A, n, c⟩ := s
  obtain ⟨A', n', c'⟩ := s'
  have P1 := hide p
  have P2 := hide p'
  have HM := hide M
  have hl : Hid (C.length = n) := p.1
  have e' := p'.1
  dsimp only at hn e' ⊢
  obtain rfl : n = n' := by have := hl.out; omega
  clear p p' M e'
  have h0 : (((n : Nat) : Int) != (n : Int)) = false := by simp
  go_enter Try.func15, Try.ntmps15
  go_wp2
  go_loopw [13] (fun i wr => ∃ k : Nat, k ≤ n ∧ i = .int .i64 k ∧ Hid (Below w.heap.size w wr)) (fun i _ => n - (intOf i).toNat)
  case atStart => exact ⟨0, by omega, rfl, Below.refl _ _⟩
  case round =>
    obtain ⟨k, hk, rfl, HB⟩ := hrel
    by_cases hlt : k < n
    · obtain ⟨b, off, z, e, hb, L1, R1⟩ := (P1.out.below HB.out (Nat.le_refl _)).at_ hlt
      obtain ⟨b', off', z', e', hb', L2, R2⟩ := (P2.out.below HB.out (Nat.le_refl _)).at_ hlt
      dsimp only at e e'
      subst e e'
      obtain ⟨x, hx⟩ : ∃ x, Hid (C.getD k noCl = x) := ⟨_, rfl⟩
      have MX : Hid (MostR x.r) := by have h := HM.out k (by have := hl.out; omega); rw [hx.out] at h; exact h
      rw [hx.out] at L1 L2 R1 R2
      have K1 := hide L1
      have K2 := hide L2
      have Q1 := hide R1
      have Q2 := hide R2
      clear L1 L2 R1 R2
      have i1 : (0 : Int) ≤ (k : Int) := by omega
      have i2 : (k : Int) < (n : Int) := by omega
      go_upto_region 6 with fail
      refine wp_region_held_drew (S := fun u => Lies u b (off + k * 13) (cc x z) ∧ Lies u b' (off' + k * 13) (cc x z') ∧ Below w.heap.size wr u) (by kernel_rfl) ⟨K1.out.below (Below.refl wr.heap.size wr).drew (Nat.lt_of_lt_of_le hb HB.out.size), K2.out.below (Below.refl wr.heap.size wr).drew (Nat.lt_of_lt_of_le hb' HB.out.size), (Below.refl w.heap.size wr).drew⟩ (fun hS => ?_)
      refine wpAnyH_take (i := 0) (v := .slice (some ⟨b, off, none⟩) n c) rfl (by kernel_rfl) (by kernel_rfl) (by kernel_rfl) (fun _ _ _ h => h) (Or.inl ⟨by kernel_rfl, by intro u hu; go_simp⟩) hS ?_
      refine wpAnyH_take (i := 1) (v := .int .i64 k) rfl (by kernel_rfl) (by kernel_rfl) (by kernel_rfl) (fun _ _ _ h => h) (Or.inl ⟨by kernel_rfl, by intro u hu; go_simp⟩) hS ?_
      refine wpAnyH_take (i := 2) (v := .pointer (some ⟨b, off + k * 13, none⟩)) rfl (by kernel_rfl) (by kernel_rfl) (by kernel_rfl) (fun _ _ _ h => h) (Or.inl ⟨by kernel_rfl, by intro u hu; go_simp⟩) hS ?_
      refine wpAnyH_take (i := 3) (v := .agg (cc x z)) rfl (by kernel_rfl) (by kernel_rfl) (by kernel_rfl) (fun _ _ _ h => h) (Or.inl ⟨by kernel_rfl, by intro u hu; exact exec39 (.tmp 18) b (off + k * 13) rfl x z hu.1⟩) hS ?_
      refine wpAnyH_take (i := 4) (v := .slice (some ⟨b', off', none⟩) n c') rfl (by kernel_rfl) (by kernel_rfl) (by kernel_rfl) (fun _ _ _ h => h) (Or.inl ⟨by kernel_rfl, by intro u hu; go_simp⟩) hS ?_
      refine wpAnyH_take (i := 5) (v := .int .i64 k) rfl (by kernel_rfl) (by kernel_rfl) (by kernel_rfl) (fun _ _ _ h => h) (Or.inl ⟨by kernel_rfl, by intro u hu; go_simp⟩) hS ?_
      refine wpAnyH_take (i := 6) (v := .pointer (some ⟨b', off' + k * 13, none⟩)) rfl (by kernel_rfl) (by kernel_rfl) (by kernel_rfl) (fun _ _ _ h => h) (Or.inl ⟨by kernel_rfl, by intro u hu; go_simp⟩) hS ?_
      refine wpAnyH_take (i := 7) (v := .agg (cc x z')) rfl (by kernel_rfl) (by kernel_rfl) (by kernel_rfl) (fun _ _ _ h => h) (Or.inl ⟨by kernel_rfl, by intro u hu; exact exec39 (.tmp 22) b' (off' + k * 13) rfl x z' hu.2.1⟩) hS ?_
      refine wpAnyH_ready (rs := [8]) (by kernel_rfl) (by simp) ?_
      refine AllReadyH.cons rfl (fun K hK => ?_) AllReadyH.nil
      go_simp
      refine (csame19 x x z z' true _ ((Q1.out.below hS.2.2 (Nat.le_refl _)).more (Nat.le_trans HB.out.size hS.2.2.size)) ((Q2.out.below hS.2.2 (Nat.le_refl _)).more (Nat.le_trans HB.out.size hS.2.2.size)) MX.out MX.out ⟨fun _ => rfl, fun _ => rfl⟩).mono ?_
      rintro e u1 ⟨rfl, hb1⟩
      have BU : Below w.heap.size wr u1 := hS.2.2.trans (hb1.mono (Nat.le_trans HB.out.size hS.2.2.size))
      refine hK.out _ _ ⟨K1.out.below BU hb, K2.out.below BU hb', BU⟩ (fun hS1 => ?_)
      clear hK K
      refine wpAnyH_ready (rs := [9]) (by kernel_rfl) (by simp) ?_
      refine AllReadyH.cons rfl (fun K hK => ?_) AllReadyH.nil
      go_simp
      refine hK.out _ _ hS1 (fun _ => ?_)
      clear hK K
      refine wpAnyH_done (by kernel_rfl) ?_ _
      have HB2 := hide (HB.out.trans BU)
      clear hS hS1 hb1 BU
      go_wp2
      go_roundw
      case rel => exact ⟨k + 1, by omega, by go_num, HB2⟩
      case measure => simp [intOf]; omega
    · obtain rfl : n = k := by omega
      go_wp2
      go_ret
      exact ⟨rfl, HB.out⟩

end Go.Proofs.Ytfefkdedgceomaa
