/- What the laws of layer 11 share: the example, whether a graph may be and is small, whether results are the same. What the frames of layer 11's laws share: operations and results, opened. No conditions. What the laws of layer 11 share: graphs that are the same. Rows of operations that are the call's own. No conditions. -/
import Derived.Test.YtiiadkjiofkonaaGreatAB3
import Derived.Test.YtiiadkjiofkonaaGreatGMay
import Derived.Test.YtiiadkjiofkonaaGreatLMath
import Derived.WalkKit
import Derived.Below
import Derived.Deep.QuietTactic
import Derived.BigQuiet
import Derived.Deep.AppendLies
import Derived.Deep.RegionHeld3
import Derived.Deep.DeepCutAuto
import Derived.Shelf.Abstract
import Derived.Laws.Rows
import Derived.Test.YtiiadkjiofkonaaGreatFrame
import Derived.ProofKit
import Derived.OpenShut
import Derived.ChangeOld
import Derived.Lib.SmallJoins
import Derived.Deep.Slices
import Derived.Carry
import Derived.Test.YtiiadkjiofkonaaGreatGSame
import Derived.Test.YtiiadkjiofkonaaGreatGWalksC
import Derived.Test.YtiiadkjiofkonaaGreatGStep
import Derived.Test.YtiiadkjiofkonaaGreatRLaws
namespace Go.Proofs.YtiiadkjiofkonaaGreat
open Go.RowKit
set_option linter.unusedVariables false
set_option maxRecDepth 100000

def three : List O5 := [⟨1, 0, 0, 0, 0⟩, ⟨1, 0, 0, 0, 0⟩, ⟨2, 1, 2, 0, 0⟩]
theorem three_ops (u : World) (t : TypeId) : Ops (u.alloc (.cells #[.int .i64 1, .int .i64 0, .int .i64 0, .int .i64 0, .int .i64 0, .int .i64 1, .int .i64 0, .int .i64 0, .int .i64 0, .int .i64 0, .int .i64 2, .int .i64 1, .int .i64 2, .int .i64 0, .int .i64 0] t)) (u.alloc (.cells #[.int .i64 1, .int .i64 0, .int .i64 0, .int .i64 0, .int .i64 0, .int .i64 1, .int .i64 0, .int .i64 0, .int .i64 0, .int .i64 0, .int .i64 2, .int .i64 1, .int .i64 2, .int .i64 0, .int .i64 0] t)).heap.size ⟨some ⟨u.heap.size, 0, none⟩, 3, 3⟩ three := by
  refine ⟨rfl, fun h => (by cases h), fun _ => ⟨u.heap.size, 0, rfl, by simp, fun i hi j v hv => ?_⟩⟩
  have hB := Bx.new u #[.int .i64 1, .int .i64 0, .int .i64 0, .int .i64 0, .int .i64 0, .int .i64 1, .int .i64 0, .int .i64 0, .int .i64 0, .int .i64 0, .int .i64 2, .int .i64 1, .int .i64 2, .int .i64 0, .int .i64 0] t
  have hj : j < 5 := (List.getElem?_eq_some_iff.1 hv).1
  rw [hB.cells]
  have h3 : i < 3 := hi
  rw [← hv]
  have a : i = 0 ∨ i = 1 ∨ i = 2 := by omega
  have b : j = 0 ∨ j = 1 ∨ j = 2 ∨ j = 3 ∨ j = 4 := by omega
  rcases a with rfl | rfl | rfl <;> rcases b with rfl | rfl | rfl | rfl | rfl <;> rfl
theorem three_wf : Wf three := by
  intro o ho
  simp only [three, List.mem_cons, List.not_mem_nil, or_false] at ho
  rcases ho with rfl | rfl | rfl <;> decide
theorem three_res : allR 4 4 newG0 three = [⟨0, 1, [], [], []⟩, ⟨0, 2, [], [], []⟩, ⟨0, 1, [], [], []⟩] := by rfl
theorem aplain_any (w : World) : Calls Tryz.prog 27 #[] w (Drew (.agg (fc 4 4 4 4 4)) w) := by
  go_enter Tryz.func27, Tryz.ntmps27
  go_wp2
  exact bodyPost_ret (results_cell_row rfl _ _ w.heap.size 23 _ (0, 0) _ rfl (heap_alloc_new w _) Tryz.underlying23 rfl asize23) rfl ⟨rfl, (Below.refl _ _).alloc (Nat.le_refl _) _⟩

set_option maxHeartbeats 4000000 in
theorem alive_any (w : World) : Calls Tryz.prog 8 #[] w (Drew (.bool true) w) := by
  go_enter Tryz.func8, Tryz.ntmps8
  go_wp2_with fail
  refine (aplain_any w).mono ?_
  rintro e u1 ⟨rfl, hb⟩
  have BW := hide hb
  clear hb
  go_wp2_with fail
  obtain ⟨X, hX⟩ : ∃ X, Hid (u1.alloc (.cells #[.int .i64 1, .int .i64 0, .int .i64 0, .int .i64 0, .int .i64 0, .int .i64 1, .int .i64 0, .int .i64 0, .int .i64 0, .int .i64 0, .int .i64 2, .int .i64 1, .int .i64 2, .int .i64 0, .int .i64 0] 29) = X) := ⟨_, rfl⟩
  have PO : Hid (Ops X X.heap.size ⟨some ⟨u1.heap.size, 0, none⟩, 3, 3⟩ three) := by show Ops _ _ _ _; rw [← hX.out]; exact three_ops u1 29
  have BX : Hid (Below w.heap.size w X) := by show Below _ _ _; rw [← hX.out]; exact BW.out.alloc BW.out.size _
  have hX' := hX.out
  rw [hX']
  clear hX hX' BW
  refine (all_any 4 4 4 4 4 ⟨some ⟨u1.heap.size, 0, none⟩, 3, 3⟩ three X PO.out (by show 3 ≤ 100; decide) three_wf).mono ?_
  rintro e u2 ⟨v', A, n, cp, Z, rfl, -, hR, hM, hb⟩
  have BW := hide (BX.out.trans (hb.out.mono BX.out.size))
  clear hb BX PO
  have HM : Hid (Z.map (·.1) = [⟨0, 1, [], [], []⟩, ⟨0, 2, [], [], []⟩, ⟨0, 1, [], [], []⟩]) := hM.out.trans three_res
  obtain rfl : n = 3 := by have h1 := hR.out.len; have h2 := congrArg List.length HM.out; simp only [List.length_map, List.length_cons, List.length_nil] at h2; omega
  have Hh : Hid (Bx (u2.alloc (.cells (#[.slice none 0 0, .slice none 0 0, .int .i64 0, .int .i64 0]) 27)) u2.heap.size (#[.slice none 0 0, .slice none 0 0, .int .i64 0, .int .i64 0]) 27) := Bx.new u2 (#[.slice none 0 0, .slice none 0 0, .int .i64 0, .int .i64 0]) 27
  go_upto_region 2 with (((with_reducible refine stG (.tmp 1) (.tmp 10) (u2.heap.size) ?_ v' ?_ (#[.slice none 0 0, .slice none 0 0, .int .i64 0, .int .i64 0]) ?_ ?_ ?_); (exact rfl); (exact rfl); (exact Hh.out); (exact rfl)))
  obtain ⟨V, hV⟩ : ∃ V, Hid ((u2.alloc (.cells (#[.slice none 0 0, .slice none 0 0, .int .i64 0, .int .i64 0]) 27)).setRow u2.heap.size (gc v') = V) := ⟨_, rfl⟩
  have BV : Hid (Below u2.heap.size u2 V) := by show Below _ _ _; rw [← hV.out]; exact row_below ((Below.refl _ _).alloc (Nat.le_refl _) _) (Nat.le_refl _) _
  have hV' := hV.out
  rw [hV']
  clear hV hV' hM
  have RO := hide (hR.out.step BV.out)
  have BW := hide (BW.out.trans (BV.out.mono BW.out.size))
  clear BV hR Hh
  obtain ⟨gR, eR, lR, L0, -⟩ := RO.out.at_ (k := 0) (by decide)
  subst eR
  obtain ⟨g', e', -, L1, -⟩ := RO.out.at_ (k := 1) (by decide)
  simp only [Option.some.injEq, Addr.mk.injEq, and_true] at e'
  subst e'
  obtain ⟨g', e', -, L2, -⟩ := RO.out.at_ (k := 2) (by decide)
  simp only [Option.some.injEq, Addr.mk.injEq, and_true] at e'
  subst e'
  rw [maps_at HM.out (by have := RO.out.len; omega)] at L0 L1 L2
  have c0 : V.cell? ⟨gR, 1, none⟩ = some (.int .i64 1) := L0 1 _ rfl
  have c1 : V.cell? ⟨gR, 6, none⟩ = some (.int .i64 2) := L1 1 _ rfl
  have c2 : V.cell? ⟨gR, 11, none⟩ = some (.int .i64 1) := L2 1 _ rfl
  have c3 : V.cell? ⟨gR, 10, none⟩ = some (.int .i64 0) := L2 0 _ rfl
  clear L0 L1 L2
  go_wp2
  go_ret
  exact ⟨rfl, BW.out⟩

set_option maxHeartbeats 4000000 in
theorem amay_any (c0 c1 c2 c3 c4 : Int) (v : Gv) (G : GL) (q : Bool) (w : World) (S : Sees w w.heap.size v G) (hn : v.N.n ≤ 9223372036854775807) (he : v.E.n ≤ 9223372036854775807) (hp : ∀ j, j < G.N.length → (G.N.getD j (0, [])).2.length ≤ 9223372036854775807) (hq : Hid (q = true ↔ FewG G ∧ Okg c0 c1 c2 c3 c4 G)) :
    Calls Tryz.prog 9 #[.agg (fc c0 c1 c2 c3 c4), .agg (gc v)] w (Drew (.bool q) w) := by
  have SB := hide S
  have HN := hide hn
  have HE := hide he
  have HP := hide hp
  clear S hn he hp
  obtain ⟨f, hf⟩ := bool_of (FewG G)
  have HQF := hide hf
  clear hf
  obtain ⟨W, hW⟩ : ∃ W, Hid ((w.alloc (.cells ((fc c0 c1 c2 c3 c4)) 23)).alloc (.cells (gc v) 27) = W) := ⟨_, rfl⟩
  have BW : Hid (Below w.heap.size w W) := by show Below _ _ _; rw [← hW.out]; exact (((Below.refl _ _).alloc (Nat.le_refl _) _).alloc (by simp) _)
  have HC : Hid (Bx W (w.heap.size) ((fc c0 c1 c2 c3 c4)) 23) := by
    have h := ((Bx.new w ((fc c0 c1 c2 c3 c4)) 23).alloc (.cells (gc v) 27))
    show Bx _ _ _ _
    rw [← hW.out]
    simpa using h
  have HG : Hid (Bx W (w.heap.size + 1) (gc v) 27) := by
    have h := (Bx.new (w.alloc (.cells ((fc c0 c1 c2 c3 c4)) 23)) (gc v) 27)
    show Bx _ _ _ _
    rw [← hW.out]
    simpa using h
  go_enter Tryz.func9, Tryz.ntmps9
  go_upto_region 1 with fail
  have hW' := hW.out
  rw [hW']
  clear hW hW'
  go_wp2_with (((with_reducible refine ldG (.tmp 3) (w.heap.size + 1) (0) ?_ ?_ v ?_ ?_); (exact rfl); (exact rfl); (exact HG.out.lies)))
  refine (few_wide v G f W (sees_at SB.out BW.out) HN.out HE.out HP.out HQF).mono ?_
  rintro e u1 ⟨rfl, hb⟩
  have HC := hide (HC.out.step hb)
  have HG := hide (HG.out.step hb)
  have BW := hide (BW.out.trans (hb.mono BW.out.size))
  clear hb
  cases f
  · have HQ : Hid (q = false) := by show q = false; rw [Bool.eq_false_iff]; intro h; have := HQF.out.2 (hq.out.1 h).1; cases this
    have e := HQ.out
    subst e
    go_wp2
    go_ret
    exact ⟨rfl, BW.out⟩
  have HFG : Hid (FewG G) := HQF.out.1 rfl
  have HQ : Hid (q = true ↔ Okg c0 c1 c2 c3 c4 G) := ⟨fun h => (hq.out.1 h).2, fun h => hq.out.2 ⟨HFG.out, h⟩⟩
  go_wp2_with (first | ((with_reducible refine ldC (.tmp 2) (w.heap.size) (0) ?_ ?_ c0 c1 c2 c3 c4 ?_ ?_); (exact rfl); (exact rfl); (exact HC.out.lies)) | ((with_reducible refine ldG (.tmp 3) (w.heap.size + 1) (0) ?_ ?_ v ?_ ?_); (exact rfl); (exact rfl); (exact HG.out.lies)))
  refine (rcheck_any c0 c1 c2 c3 c4 v G q u1 (sees_at SB.out BW.out) HFG.out HQ).mono ?_
  rintro e u2 ⟨rfl, hb⟩
  have BW := hide (BW.out.trans (hb.mono BW.out.size))
  clear hb
  cases q
  · go_wp2
    go_ret
    exact ⟨rfl, BW.out⟩
  · go_wp2
    go_ret
    exact ⟨rfl, BW.out⟩

set_option maxHeartbeats 4000000 in
theorem sameAll_yes (A A' : Option Addr) (n cp cq : Nat) (B B' : Nat) (Z Z' : List RZ) (w : World) (RA : ROws w B A n cp Z) (RB : ROws w B' A' n cq Z') (he : Hid (Z.map (·.1) = Z'.map (·.1))) (hn : n ≤ 1000) (hm : Hid (∀ r ∈ Z.map (·.1), Most r)) :
    Calls Tryz.prog 24 #[.slice A n cp, .slice A' n cq] w (Drew (.bool true) w) := by
  have HA := hide RA
  have HB := hide RB
  clear RA RB
  have h0 : (((n : Nat) : Int) != (n : Int)) = false := by simp
  go_enter Tryz.func24, Tryz.ntmps24
  go_wp2
  go_loopw [13] (fun i wr => ∃ k : Nat, k ≤ n ∧ i = .int .i64 k ∧ Hid (Below w.heap.size w wr)) (fun i _ => n - (intOf i).toNat)
  case atStart => exact ⟨0, by omega, rfl, Below.refl _ _⟩
  case round =>
    obtain ⟨k, hk, rfl, BW⟩ := hrel
    by_cases hlt : k < n
    · obtain ⟨gA, eA, lA0, LA0, SA0⟩ := HA.out.at_ hlt
      obtain ⟨gB, eB, lB0, LB0, SB0⟩ := HB.out.at_ hlt
      subst eA eB
      have lA := hide lA0
      have lB := hide lB0
      have hz := HA.out.len
      have hz' := HB.out.len
      have e1 := maps_at (Z := Z) (k := k) rfl (by omega)
      have e2 := maps_at (Z := Z') (k := k) he.out.symm (by omega)
      obtain ⟨r, hr⟩ : ∃ r, Hid ((Z.map (·.1)).getD k noR = r) := ⟨_, rfl⟩
      rw [e1, hr.out] at LA0 SA0
      rw [e2, hr.out] at LB0 SB0
      have MR : Hid (Most r) := hm.out r (by rw [← hr.out, List.getD_eq_getElem?_getD, List.getElem?_eq_getElem (by simp; omega)]; exact List.getElem_mem _)
      generalize (Z.getD k noZ).2 = s at LA0 SA0
      generalize (Z'.getD k noZ).2 = z at LB0 SB0
      have LA := hide LA0
      have LB := hide LB0
      have SA := hide SA0
      have SZ := hide SB0
      have ip : (0 : Int) ≤ (k : Int) := by omega
      have jp : (k : Int) < (n : Int) := by omega
      clear LA0 LB0 SA0 SB0 lA0 lB0 e1 e2 hr hz hz'
      go_upto_region 6 with fail
      have D0 := hide (Below.drew BW.out)
      refine wp_region_held_drew (S := fun u => Below w.heap.size w u) (by kernel_rfl) D0.out (fun hS => ?_)
      refine wpAnyH_take (i := 0) (v := .slice (some ⟨gA, 0, none⟩) n cp) rfl (by kernel_rfl) (by kernel_rfl) (by kernel_rfl) (fun _ _ _ h => h) (Or.inl ⟨by kernel_rfl, by intro u hu; go_simp⟩) hS ?_
      refine wpAnyH_take (i := 1) (v := .int .i64 k) rfl (by kernel_rfl) (by kernel_rfl) (by kernel_rfl) (fun _ _ _ h => h) (Or.inl ⟨by kernel_rfl, by intro u hu; go_simp⟩) hS ?_
      refine wpAnyH_take (i := 2) (v := .pointer (some ⟨gA, k * 5, none⟩)) rfl (by kernel_rfl) (by kernel_rfl) (by kernel_rfl) (fun _ _ _ h => h) (Or.inl ⟨by kernel_rfl, by intro u hu; go_simp⟩) hS ?_
      refine wpAnyH_take (i := 3) (v := .agg (rc r s)) rfl (by kernel_rfl) (by kernel_rfl) (by kernel_rfl) (fun _ _ _ h => h) (Or.inl ⟨by kernel_rfl, fun u hu => xlR (.tmp 18) gA (k * 5) rfl r s (LA.out.below hu lA.out)⟩) hS ?_
      refine wpAnyH_take (i := 4) (v := .slice (some ⟨gB, 0, none⟩) n cq) rfl (by kernel_rfl) (by kernel_rfl) (by kernel_rfl) (fun _ _ _ h => h) (Or.inl ⟨by kernel_rfl, by intro u hu; go_simp⟩) hS ?_
      refine wpAnyH_take (i := 5) (v := .int .i64 k) rfl (by kernel_rfl) (by kernel_rfl) (by kernel_rfl) (fun _ _ _ h => h) (Or.inl ⟨by kernel_rfl, by intro u hu; go_simp⟩) hS ?_
      refine wpAnyH_take (i := 6) (v := .pointer (some ⟨gB, k * 5, none⟩)) rfl (by kernel_rfl) (by kernel_rfl) (by kernel_rfl) (fun _ _ _ h => h) (Or.inl ⟨by kernel_rfl, by intro u hu; go_simp⟩) hS ?_
      refine wpAnyH_take (i := 7) (v := .agg (rc r z)) rfl (by kernel_rfl) (by kernel_rfl) (by kernel_rfl) (fun _ _ _ h => h) (Or.inl ⟨by kernel_rfl, fun u hu => xlR (.tmp 22) gB (k * 5) rfl r z (LB.out.below hu lB.out)⟩) hS ?_
      refine wpAnyH_ready (rs := [8]) (by kernel_rfl) (by simp) ?_
      refine AllReadyH.cons rfl (fun K hK => ?_) AllReadyH.nil
      go_simp
      refine (rsame_any r r s z true _ ((SA.out.below hS (Nat.le_refl _)).more hS.size) ((SZ.out.below hS (Nat.le_refl _)).more hS.size) MR.out MR.out ⟨fun _ => rfl, fun _ => rfl⟩).mono ?_
      rintro e u1 ⟨rfl, hb⟩
      have B1 : Hid (Below w.heap.size w u1) := hS.trans (hb.mono hS.size)
      refine hK.out _ _ B1.out (fun hS1 => ?_)
      clear hK K hS hb
      refine wpAnyH_ready (rs := [9]) (by kernel_rfl) (by simp) ?_
      refine AllReadyH.cons rfl (fun K hK => ?_) AllReadyH.nil
      go_simp
      refine hK.out _ _ hS1 (fun _ => ?_)
      clear hK K
      refine wpAnyH_done (by kernel_rfl) ?_ _
      clear D0 BW hS1
      go_wp2
      go_roundw
      case rel => exact ⟨k + 1, by omega, by go_num, B1⟩
      case measure => simp [intOf]; omega
    · go_wp2
      go_ret
      exact ⟨rfl, BW.out⟩

end Go.Proofs.YtiiadkjiofkonaaGreat

namespace Go.Proofs.YtiiadkjiofkonaaGreat
open Go.Joins Go.ChangeShapes Go.WideShapes Go.ChangeAt Go.RowKit Go.Deep
set_option linter.unusedVariables false
set_option maxRecDepth 100000
theorem acells29 : Tryz.prog.cellsOf 29 = 5 := by kernel_rfl
theorem acells37 : Tryz.prog.cellsOf 37 = 5 := by kernel_rfl
theorem acells33 : Tryz.prog.cellsOf 33 = 1 := by kernel_rfl
theorem acells34 : Tryz.prog.cellsOf 34 = 1 := by kernel_rfl
theorem acells35 : Tryz.prog.cellsOf 35 = 1 := by kernel_rfl
theorem acells83 : Tryz.prog.cellsOf 83 = 2 := by kernel_rfl
theorem acells85 : Tryz.prog.cellsOf 85 = 2 := by kernel_rfl
theorem acells3 : Tryz.prog.cellsOf 3 = 1 := by kernel_rfl

section
variable {H : Type} {enc : TypeId × Value → H} {w : World} {base : Nat} {spare : Nat → Bool} {held : Bool}

theorem elemP {m : Nat} {cs : List Value} {y : DataW H × List MemPlace} (h : DataW.trod enc Tryz.prog w base spare held m 83 cs = some y) : ∀ j, j < 2 → ∃ z, cs[j]? = some (.int .i64 z) ∧ (Lit.int .i64 z).wf = true := by
  obtain ⟨xs, m', _, hx, _, hlen, hg⟩ := DataW.trod_struct Tryz.underlying83 h
  match xs, hlen with
  | [y0, y1], _ =>
    have g0 : DataW.trod enc Tryz.prog w base spare held m' 3 ((cs.drop 0).take (Tryz.prog.cellsOf 3)) = some y0 := hg 0 _ rfl
    have g1 : DataW.trod enc Tryz.prog w base spare held m' 3 ((cs.drop 1).take (Tryz.prog.cellsOf 3)) = some y1 := hg 1 _ rfl
    rw [acells3] at g0 g1
    obtain ⟨z0, e0, _, w0⟩ := DataW.trod_int (x := y0) Tryz.underlying3 g0
    obtain ⟨z1, e1, _, w1⟩ := DataW.trod_int (x := y1) Tryz.underlying3 g1
    intro j hj
    match j, hj with
    | 0, _ => exact ⟨z0, drop_take1 e0, w0⟩
    | 1, _ => exact ⟨z1, drop_take1 e1, w1⟩

theorem elemX {m : Nat} {cs : List Value} {y : DataW H × List MemPlace} (h : DataW.trod enc Tryz.prog w base spare held m 85 cs = some y) : ∀ j, j < 2 → ∃ z, cs[j]? = some (.int .i64 z) ∧ (Lit.int .i64 z).wf = true := by
  obtain ⟨xs, m', _, hx, _, hlen, hg⟩ := DataW.trod_struct Tryz.underlying85 h
  match xs, hlen with
  | [y0, y1], _ =>
    have g0 : DataW.trod enc Tryz.prog w base spare held m' 3 ((cs.drop 0).take (Tryz.prog.cellsOf 3)) = some y0 := hg 0 _ rfl
    have g1 : DataW.trod enc Tryz.prog w base spare held m' 3 ((cs.drop 1).take (Tryz.prog.cellsOf 3)) = some y1 := hg 1 _ rfl
    rw [acells3] at g0 g1
    obtain ⟨z0, e0, _, w0⟩ := DataW.trod_int (x := y0) Tryz.underlying3 g0
    obtain ⟨z1, e1, _, w1⟩ := DataW.trod_int (x := y1) Tryz.underlying3 g1
    intro j hj
    match j, hj with
    | 0, _ => exact ⟨z0, drop_take1 e0, w0⟩
    | 1, _ => exact ⟨z1, drop_take1 e1, w1⟩

theorem slice_most {t e m : Nat} {cs : List Value} {y : DataW H × List MemPlace} {A : Option Addr} {n c : Nat} (ht : Tryz.prog.underlying t = some (.slice e)) (hf : DataW.trod enc Tryz.prog w base (fun _ => true) held m t cs = some y) (e1 : cs = [.slice A n c]) : n ≤ maxLen := by
  rcases open_slice ht hf with ⟨hcs, _⟩ | ⟨x, l, c', m2, n2, D, Pl, hcs, _, hl, hml, _⟩
  · rw [hcs] at e1
    simp only [List.cons.injEq, Value.slice.injEq, and_true] at e1
    omega
  · rw [hcs] at e1
    simp only [List.cons.injEq, Value.slice.injEq, and_true] at e1
    omega
/-- Lists that a memory can hold. -/
def MostL (r : RL) : Prop := r.P.length ≤ maxLen ∧ r.O.length ≤ maxLen ∧ r.I.length ≤ maxLen
theorem res_of {m : Nat} {cs : List Value} {y : DataW H × List MemPlace} (h : DataW.trod enc Tryz.prog w base (fun _ => true) held m 37 cs = some y) : ∃ (r : RL) (s : S3), (∀ j, j < 5 → cs[j]? = (rc r s)[j]?) ∧ RSee w w.heap.size s r ∧ MostL r := by
  obtain ⟨xs, m', _, hx, _, hlen, hg⟩ := DataW.trod_struct Tryz.underlying37 h
  match xs, hlen with
  | [y0, y1, y2, y3, y4], _ =>
    have g0 : DataW.trod enc Tryz.prog w base (fun _ => true) held m' 33 ((cs.drop 0).take (Tryz.prog.cellsOf 33)) = some y0 := hg 0 _ rfl
    have g1 : DataW.trod enc Tryz.prog w base (fun _ => true) held m' 3 ((cs.drop 1).take (Tryz.prog.cellsOf 3)) = some y1 := hg 1 _ rfl
    have g2 : DataW.trod enc Tryz.prog w base (fun _ => true) held m' 34 ((cs.drop 2).take (Tryz.prog.cellsOf 34)) = some y2 := hg 2 _ rfl
    have g3 : DataW.trod enc Tryz.prog w base (fun _ => true) held m' 35 ((cs.drop 3).take (Tryz.prog.cellsOf 35)) = some y3 := hg 3 _ rfl
    have g4 : DataW.trod enc Tryz.prog w base (fun _ => true) held m' 35 ((cs.drop 4).take (Tryz.prog.cellsOf 35)) = some y4 := hg 4 _ rfl
    rw [acells33] at g0
    rw [acells3] at g1
    rw [acells34] at g2
    rw [acells35] at g3 g4
    obtain ⟨z0, e0, _, _⟩ := DataW.trod_int (x := y0) Tryz.underlying33 g0
    obtain ⟨z1, e1, _, _⟩ := DataW.trod_int (x := y1) Tryz.underlying3 g1
    obtain ⟨A2, n2, c2, zs2, e2, k2⟩ := flat_of Tryz.underlying34 acells83 (by omega) elemP g2
    obtain ⟨A3, n3, c3, zs3, e3, k3⟩ := flat_of Tryz.underlying35 acells85 (by omega) elemX g3
    obtain ⟨A4, n4, c4, zs4, e4, k4⟩ := flat_of Tryz.underlying35 acells85 (by omega) elemX g4
    obtain ⟨L2, q2⟩ := pairs_of k2.1.1
    obtain ⟨L3, q3⟩ := pairs_of k3.1.1
    obtain ⟨L4, q4⟩ := pairs_of k4.1.1
    have b2 := slice_most Tryz.underlying34 g2 e2
    have b3 := slice_most Tryz.underlying35 g3 e3
    have b4 := slice_most Tryz.underlying35 g4 e4
    have p2 : Props w w.heap.size ⟨A2, n2, c2⟩ L2 := ⟨by rw [q2]; exact k2.1, k2.2.2.1⟩
    have p3 : Props w w.heap.size ⟨A3, n3, c3⟩ L3 := ⟨by rw [q3]; exact k3.1, k3.2.2.1⟩
    have p4 : Props w w.heap.size ⟨A4, n4, c4⟩ L4 := ⟨by rw [q4]; exact k4.1, k4.2.2.1⟩
    have l2 := p2.len
    have l3 := p3.len
    have l4 := p4.len
    dsimp only at l2 l3 l4
    refine ⟨⟨z0, z1, L2, L3, L4⟩, ⟨⟨A2, n2, c2⟩, ⟨A3, n3, c3⟩, ⟨A4, n4, c4⟩⟩, fun j hj => ?_, ⟨p2, p3, p4⟩, ⟨by dsimp only; omega, by dsimp only; omega, by dsimp only; omega⟩⟩
    match j, hj with
    | 0, _ => exact drop_take1 e0
    | 1, _ => exact drop_take1 e1
    | 2, _ => exact drop_take1 e2
    | 3, _ => exact drop_take1 e3
    | 4, _ => exact drop_take1 e4
theorem op_of {m : Nat} {cs : List Value} {y : DataW H × List MemPlace} (h : DataW.trod enc Tryz.prog w base (fun _ => true) held m 29 cs = some y) : ∃ o : O5, (∀ j, j < 5 → cs[j]? = (oc o)[j]?) ∧ (Lit.int .i64 o.k).wf = true := by
  obtain ⟨xs, m', _, hx, _, hlen, hg⟩ := DataW.trod_struct Tryz.underlying29 h
  match xs, hlen with
  | [y0, y1, y2, y3, y4], _ =>
    have g0 : DataW.trod enc Tryz.prog w base (fun _ => true) held m' 3 ((cs.drop 0).take (Tryz.prog.cellsOf 3)) = some y0 := hg 0 _ rfl
    have g1 : DataW.trod enc Tryz.prog w base (fun _ => true) held m' 3 ((cs.drop 1).take (Tryz.prog.cellsOf 3)) = some y1 := hg 1 _ rfl
    have g2 : DataW.trod enc Tryz.prog w base (fun _ => true) held m' 3 ((cs.drop 2).take (Tryz.prog.cellsOf 3)) = some y2 := hg 2 _ rfl
    have g3 : DataW.trod enc Tryz.prog w base (fun _ => true) held m' 3 ((cs.drop 3).take (Tryz.prog.cellsOf 3)) = some y3 := hg 3 _ rfl
    have g4 : DataW.trod enc Tryz.prog w base (fun _ => true) held m' 3 ((cs.drop 4).take (Tryz.prog.cellsOf 3)) = some y4 := hg 4 _ rfl
    rw [acells3] at g0 g1 g2 g3 g4
    obtain ⟨z0, e0, _, w0⟩ := DataW.trod_int (x := y0) Tryz.underlying3 g0
    obtain ⟨z1, e1, _, _⟩ := DataW.trod_int (x := y1) Tryz.underlying3 g1
    obtain ⟨z2, e2, _, _⟩ := DataW.trod_int (x := y2) Tryz.underlying3 g2
    obtain ⟨z3, e3, _, _⟩ := DataW.trod_int (x := y3) Tryz.underlying3 g3
    obtain ⟨z4, e4, _, _⟩ := DataW.trod_int (x := y4) Tryz.underlying3 g4
    refine ⟨⟨z0, z1, z2, z3, z4⟩, fun j hj => ?_, w0⟩
    match j, hj with
    | 0, _ => exact drop_take1 e0
    | 1, _ => exact drop_take1 e1
    | 2, _ => exact drop_take1 e2
    | 3, _ => exact drop_take1 e3
    | 4, _ => exact drop_take1 e4
theorem ops_of {m : Nat} {cs : List Value} {y : DataW H × List MemPlace} (hf : DataW.trod enc Tryz.prog w base (fun _ => true) held m 48 cs = some y) : ∃ (s : Sl) (L : List O5), cs = [.slice s.A s.n s.c] ∧ Ops w w.heap.size s L ∧ s.n ≤ maxLen ∧ Wf L := by
  rcases open_slice Tryz.underlying48 hf with ⟨hcs, _⟩ | ⟨x, l, c, m, n, D, Pl, hcs, _, hl, hml, hm, _, hi⟩
  · exact ⟨noSl, [], hcs, ⟨rfl, fun _ => rfl, fun h => by cases h⟩, by unfold maxLen; decide, (fun o h => by cases h)⟩
  · rw [acells29] at hi
    simp only [if_true] at hm
    have hel : ∀ i, i < l → ∃ d : O5, (∀ j, j < 5 → w.cell? (x.add (i * 5 + j)) = (oc d)[j]?) ∧ (Lit.int .i64 d.k).wf = true := fun i hil => by
      obtain ⟨cs', hc, htr⟩ := hi i (by omega)
      obtain ⟨_, hcl, hat⟩ := World.cells?_some hc
      obtain ⟨z, h0, h1⟩ := op_of htr
      refine ⟨z, fun j hj => ?_, h1⟩
      have := hat j hj
      rw [Go.Deep.add_add] at this
      rw [this]
      exact h0 j hj
    rcases Nat.eq_zero_or_pos l with rfl | hpos
    · exact ⟨⟨some x, 0, c⟩, [], hcs, ⟨rfl, (fun h => by cases h), fun h => by cases h⟩, by show 0 ≤ maxLen; omega, (fun o h => by cases h)⟩
    · obtain ⟨b, off, spot⟩ := x
      obtain ⟨d0, hd0, _⟩ := hel 0 hpos
      have h00 : w.cell? ((⟨b, off, spot⟩ : Addr).add (0 * 5 + 0)) = some (.int .i64 d0.k) := hd0 0 (by omega)
      have hsp : spot = none := by simpa [Addr.add] using World.cell?_spot h00
      subst hsp
      have hf : ∃ f : Nat → O5, ∀ i, i < l → (∀ j, j < 5 → w.cell? ⟨b, off + i * 5 + j, none⟩ = (oc (f i))[j]?) ∧ (Lit.int .i64 (f i).k).wf = true := by
        refine ⟨fun i => if h : i < l then Classical.choose (hel i h) else noO, fun i hil => ?_⟩
        have h1 := Classical.choose_spec (hel i hil)
        simp only [hil, dite_true]
        generalize Classical.choose (hel i hil) = dd at h1
        obtain ⟨h2, h3⟩ := h1
        exact ⟨fun j hj => by rw [← h2 j hj, Addr.add_lit, Nat.add_assoc], h3⟩
      obtain ⟨f, hf⟩ := hf
      have hget : ∀ i, i < l → ((List.range l).map fun i => f i).getD i noO = f i := fun i hil => by simp [List.getD_eq_getElem?_getD, hil]
      have hb0 : b < w.heap.size := by
        have h := (hf 0 hpos).1 0 (by omega)
        exact World.block_lt_of_cell? w ⟨b, off + 0 * 5 + 0, none⟩ (h.trans rfl : _ = some (.int .i64 (f 0).k))
      refine ⟨⟨some ⟨b, off, none⟩, l, c⟩, (List.range l).map fun i => f i, hcs, ⟨by simp, (fun h => by cases h), fun _ => ⟨b, off, rfl, hb0, fun i hil => ?_⟩⟩, by show l ≤ maxLen; omega, fun o ho => ?_⟩
      · rw [hget i hil]
        obtain ⟨h1, _⟩ := hf i hil
        intro j v hv
        have hj : j < 5 := (List.getElem?_eq_some_iff.1 hv).1
        rw [h1 j hj]
        simpa using hv
      · obtain ⟨i, hi, rfl⟩ := List.mem_map.1 ho
        exact (hf i (by simpa using hi)).2
theorem open_op {r : Reach} {b0 : Nat} {v : Value} {d : DataW H} {q : List MemPlace} (hv : Value.okWide Tryz.prog w r b0 29 v) (h : DataW.Trod enc Tryz.prog w base (fun _ => true) held 29 v d q) :
    ∃ x : O5, v = .agg (oc x) ∧ (Lit.int .i64 x.k).wf = true := by
  obtain ⟨⟨l⟩, rfl, hsz⟩ := okWide_struct Tryz.underlying29 hv
  rw [acells29] at hsz
  obtain ⟨fuel, hf⟩ := h
  obtain ⟨x, h0, h1⟩ := op_of hf
  refine ⟨x, ?_, h1⟩
  congr 1
  apply Array.ext'
  apply List.ext_getElem?
  intro j
  rcases Nat.lt_or_ge j 5 with hj | hj
  · have := h0 j hj
    simpa [Value.cells] using this
  · have e1 : l.length = 5 := by simpa using hsz
    have e2 : (oc x).toList.length = 5 := rfl
    rw [List.getElem?_eq_none (by simpa using (by omega : l.length ≤ j)), List.getElem?_eq_none (by omega)]
theorem open_res {r : Reach} {b0 : Nat} {v : Value} {d : DataW H} {q : List MemPlace} (hv : Value.okWide Tryz.prog w r b0 37 v) (h : DataW.Trod enc Tryz.prog w base (fun _ => true) held 37 v d q) :
    ∃ (x : RL) (s : S3), v = .agg (rc x s) ∧ RSee w w.heap.size s x ∧ MostL x := by
  obtain ⟨⟨l⟩, rfl, hsz⟩ := okWide_struct Tryz.underlying37 hv
  rw [acells37] at hsz
  obtain ⟨fuel, hf⟩ := h
  obtain ⟨x, s, h0, h1, h2⟩ := res_of hf
  refine ⟨x, s, ?_, h1, h2⟩
  congr 1
  apply Array.ext'
  apply List.ext_getElem?
  intro j
  rcases Nat.lt_or_ge j 5 with hj | hj
  · have := h0 j hj
    simpa [Value.cells] using this
  · have e1 : l.length = 5 := by simpa using hsz
    have e2 : (rc x s).toList.length = 5 := rfl
    rw [List.getElem?_eq_none (by simpa using (by omega : l.length ≤ j)), List.getElem?_eq_none (by omega)]
theorem open_ops {r : Reach} {b0 : Nat} {v : Value} {d : DataW H} {q : List MemPlace} (hv : Value.okWide Tryz.prog w r b0 48 v) (h : DataW.Trod enc Tryz.prog w base (fun _ => true) held 48 v d q) :
    ∃ (s : Sl) (L : List O5), v = .slice s.A s.n s.c ∧ Ops w w.heap.size s L ∧ s.n ≤ maxLen ∧ Wf L := by
  obtain ⟨fuel, hf⟩ := h
  obtain ⟨s, L, e, h1, h2, h3⟩ := ops_of hf
  obtain ⟨a, l, c, rfl⟩ := okWide_slice Tryz.underlying48 hv
  simp [Value.cells] at e
  obtain ⟨rfl, rfl, rfl⟩ := e
  exact ⟨s, L, rfl, h1, h2, h3⟩
end

end Go.Proofs.YtiiadkjiofkonaaGreat

namespace Go.Proofs.YtiiadkjiofkonaaGreat
open Go.RowKit
set_option linter.unusedVariables false
set_option maxRecDepth 100000

section
variable {u w : World} {B k : Nat} {v v' : Gv} {G : GL}
theorem sees_len (h : Sees u B v G) (f : Few k G) (hk : k ≤ 1000) : v.N.n ≤ 17592186044416 ∧ v.E.n ≤ 17592186044416 := by
  have h1 := h.nodes.1
  have h2 := edges_len h.edges
  have h3 := f.n
  have h4 := f.e
  exact ⟨by omega, by omega⟩
theorem few_short (f : Few k G) (hk : k ≤ 1000) : Hid (∀ j, j < G.N.length → (G.N.getD j (0, [])).2.length ≤ 17592186044416) := fun j hj => by
  have h1 := f.prs j
  have h2 : (prsAt G j).length = (G.N.getD j (0, [])).2.length := rfl
  omega
theorem rgraph_eq (S : Sees w w.heap.size v G) (S' : Sees w w.heap.size v' G) (f : Few k G) (hk : k ≤ 1000) : Calls Tryz.prog 13 #[.agg (gc v), .agg (gc v')] w (Drew (.bool true) w) :=
  same_graph v v' G G true w S S' (sees_len S f hk).1 (sees_len S f hk).2 (sees_len S' f hk).1 (sees_len S' f hk).2 (few_short f hk) (few_short f hk) ⟨fun _ => rfl, fun _ => rfl⟩
theorem cgraph_eq (S : Sees w w.heap.size v G) (S' : Sees w w.heap.size v' G) (f : Few k G) (hk : k ≤ 1000) : Calls Tryz.prog 26 #[.agg (gc v), .agg (gc v')] w (Drew (.bool true) w) :=
  same_any v v' G G true w S S' (sees_len S f hk).1 (sees_len S f hk).2 (sees_len S' f hk).1 (sees_len S' f hk).2 (few_short f hk) (few_short f hk) ⟨fun _ => rfl, fun _ => rfl⟩
theorem cgraph_any {G' : GL} {k' : Nat} {q : Bool} (S : Sees w w.heap.size v G) (S' : Sees w w.heap.size v' G') (f : Few k G) (hk : k ≤ 1000) (f' : Few k' G') (hk' : k' ≤ 1000) (hq : Hid (q = true ↔ G = G')) : Calls Tryz.prog 26 #[.agg (gc v), .agg (gc v')] w (Drew (.bool q) w) :=
  same_any v v' G G' q w S S' (sees_len S f hk).1 (sees_len S f hk).2 (sees_len S' f' hk').1 (sees_len S' f' hk').2 (few_short f hk) (few_short f' hk') hq
end

end Go.Proofs.YtiiadkjiofkonaaGreat

namespace Go.Proofs.YtiiadkjiofkonaaGreat
open Go.RowKit
set_option linter.unusedVariables false
set_option maxRecDepth 100000

def cellsO (l : List O5) : List Value := l.flatMap fun o => (oc o).toList
theorem oc_len (o : O5) : (oc o).toList.length = 5 := rfl
theorem cellsO_cons (o : O5) (l : List O5) : cellsO (o :: l) = (oc o).toList ++ cellsO l := rfl
theorem cellsO_app (l m : List O5) : cellsO (l ++ m) = cellsO l ++ cellsO m := by simp [cellsO]
theorem cellsO_len (l : List O5) : (cellsO l).length = l.length * 5 := by
  induction l with
  | nil => rfl
  | cons o l ih => rw [cellsO_cons, List.length_append, ih, oc_len, List.length_cons]; omega
theorem cellsO_at : ∀ (l : List O5) (k j : Nat), k < l.length → j < 5 → (cellsO l)[k * 5 + j]? = (oc (l.getD k noO))[j]?
  | [], k, j, h, _ => by simp at h
  | o :: l, 0, j, _, hj => by
    rw [cellsO_cons, Nat.zero_mul, Nat.zero_add, List.getElem?_append_left (by rw [oc_len]; exact hj)]
    simp
  | o :: l, k + 1, j, h, hj => by
    rw [cellsO_cons, List.getElem?_append_right (by rw [oc_len]; omega), oc_len, show (k + 1) * 5 + j - 5 = k * 5 + j by omega, cellsO_at l k j (by simpa using h) hj]
    simp
theorem cellsO_one (l : List O5) : ∀ u ∈ cellsO l, u.oneCell' = true := by
  intro u hu
  unfold cellsO at hu
  obtain ⟨o, _, ho⟩ := List.mem_flatMap.1 hu
  have := oc_one o
  rw [Array.all_eq_true'] at this
  exact this u (by simpa using ho)
section
variable {w u : World} {B n c : Nat} {s : Sl} {l m : List O5} {A : Option Addr}
theorem Ops.nil_ (p : Ops w B s l) : s.A = none → s.n = 0 := fun e => by
  rcases Nat.eq_zero_or_pos s.n with h | h
  · exact h
  · obtain ⟨b, off, e', _⟩ := p.2.2 h
    rw [e] at e'
    cases e'
theorem Ops.news (p : Ops w B s l) : ∀ ad, s.A = some ad → ∀ j u, (cellsO l)[j]? = some u → w.cell? (ad.add j) = some u := by
  intro ad ea j u hj
  have hl := p.1
  have hjl : j < l.length * 5 := by
    have := (List.getElem?_eq_some_iff.1 hj).1
    rwa [cellsO_len] at this
  obtain ⟨b, off, e, _, h⟩ := p.2.2 (by omega)
  rw [ea] at e
  injection e with e
  subst e
  have hadd : (⟨b, off, none⟩ : Addr).add j = ⟨b, off + j, none⟩ := by unfold Addr.add; split <;> simp_all
  rw [hadd]
  have ej : j = j / 5 * 5 + j % 5 := by omega
  have h1 := cellsO_at l (j / 5) (j % 5) (by omega) (by omega)
  rw [← ej, hj] at h1
  have := h (j / 5) (by omega) (j % 5) u (by rw [h1]; simp)
  rw [ej, ← Nat.add_assoc]
  exact this
theorem own_ops (h : u.ownsRow B 29 5 (.slice A n c) n (cellsO l)) : Ops u u.heap.size ⟨A, n, c⟩ l := by
  have hl : l.length = n := by have := h.1; rw [cellsO_len] at this; omega
  refine ⟨hl, own_nil_cap h, fun hn => ?_⟩
  dsimp only at hn ⊢
  rcases h.2 with ⟨_, h0⟩ | ⟨g, cap, cur, hv, hB, hg, _, _, _, ht⟩
  · omega
  · refine ⟨g, 0, by injection hv, (Array.getElem?_eq_some_iff.1 hg).1, fun i hi j x hx => ?_⟩
    have hj : j < 5 := (List.getElem?_eq_some_iff.1 hx).1
    have h1 := cellsO_at l i j (by omega) hj
    have h2 : (cellsO l)[i * 5 + j]? = some x := h1.trans (by simpa using hx)
    rw [cell_of_row u g _ cur 29 (0, 0) hg, Nat.zero_add]
    have h := congrArg (fun l : List Value => l[i * 5 + j]?) ht
    have hj2 : i * 5 + j < n * 5 := by omega
    simp only [List.getElem?_take, hj2, if_true, Array.getElem?_toList] at h
    rw [h, h2]
theorem ROws.aside {u w2 : World} {B B' n c n2 c2 : Nat} {A A2 : Option Addr} {xs : List Value} {Z2 : List RZ} {o : Obj} (q : ROws u B' A2 n2 c2 Z2) (R : u.ownsRow B 37 5 (.slice A n c) n xs) (hg : (u.alloc o).grownBy w2 (Value.slice A n c).ownBlock) (h : Apt (.slice A n c) (.slice A2 n2 c2)) : ROws w2 B' A2 n2 c2 Z2 :=
  ⟨grow_same hg q.rows h, fun i hi => (q.rd i hi).grown R hg⟩
theorem rc_all (r : RL) (s : S3) : ∀ u ∈ (rc r s).toList, u.oneCell' = true := fun v hv => by
  have := rc_one r s
  rw [Array.all_eq_true'] at this
  exact this v (by simpa using hv)
theorem Wf.app (h : Wf l) (h' : Wf m) : Wf (l ++ m) := fun o ho => by
  rcases List.mem_append.1 ho with h1 | h1
  · exact h o h1
  · exact h' o h1
end
section
variable {ops : Array Oper} {rest : List Oper} {a : Act} {w : World} {Q : Exit → Act → World → Prop} {dst : Option Tmp} {ty : TypeId} {pos : String} {af : Array Edge} {gd : Option (Nat × Bool)}
/-- A result is loaded, written out. -/
theorem ldRl (x : Operand) (g off : Nat) (hw : Region.wanted ⟨dst, .load 37 x, ty, pos, af, gd⟩ (yielded ops a.tmps) = true) (hx : a.eval x = .pointer (some ⟨g, off, none⟩)) (r : RL) (s : S3) (HG : Lies w g off (rc r s)) (h : wpList Tryz.prog ops Q rest (a.put dst (.agg #[.int .i64 r.er, .int .i64 r.id, .slice s.P.A s.P.n s.P.c, .slice s.O.A s.O.n s.O.c, .slice s.I.A s.I.n s.I.c])) w) :
    wpList Tryz.prog ops Q (⟨dst, .load 37 x, ty, pos, af, gd⟩ :: rest) a w := ldR x g off hw hx r s HG h
end

end Go.Proofs.YtiiadkjiofkonaaGreat
