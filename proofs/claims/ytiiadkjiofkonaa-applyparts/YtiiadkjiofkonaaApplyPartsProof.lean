/- Operations, and others behind them, come to what those come to, done behind them. No condition. (The statement tendrillaw11.ApplyParts.) -/
import Derived.Test.YtiiadkjiofkonaaRows
import Derived.Test.YtiiadkjiofkonaaAB4
import Derived.Test.YtiiadkjiofkonaaAOps
import Derived.Test.YtiiadkjiofkonaaGSame
import Derived.WalkKit
import Derived.Below
import Derived.Deep.QuietTactic
import Derived.BigQuiet
import Derived.Deep.AppendLies
import Derived.Deep.RegionHeld3
import Derived.Deep.DeepCutAuto
import Derived.Shelf.Abstract
namespace Go.Proofs.Ytiiadkjiofkonaa.applyParts
open Go.Joins Go.ChangeShapes Go.WideShapes Go.ChangeAt Go.RowKit Go.Deep
set_option linter.unusedVariables false

set_option maxRecDepth 100000 in
set_option maxHeartbeats 16000000 in
theorem walk (n0 e0 p0 i0 j0 : Int) (s1 : Sl) (l1 : List O5) (s2 : Sl) (l2 : List O5) (w : World) (w1 : Ops w w.heap.size s1 l1) (m1 : s1.n ≤ 9223372036854775807) (u1 : Wf l1) (w2 : Ops w w.heap.size s2 l2) (m2 : s2.n ≤ 9223372036854775807) (u2 : Wf l2) :
    Calls Try.prog 9 #[.agg (fc n0 e0 p0 i0 j0), .slice s1.A s1.n s1.c, .slice s2.A s2.n s2.c] w (Drew (.bool true) w) := by
  obtain ⟨lA, ln, lc⟩ := s1
  obtain ⟨mA, mn, mc⟩ := s2
  have PL := hide w1
  have PM := hide w2
  have WL := hide u1
  have WM := hide u2
  have LL : Hid (l1.length = ln) := w1.1
  have LM : Hid (l2.length = mn) := w2.1
  dsimp only at m1 m2
  clear w1 w2 u1 u2
  obtain ⟨W, hW⟩ : ∃ W, Hid (w.alloc (.cells ((fc n0 e0 p0 i0 j0)) 23) = W) := ⟨_, rfl⟩
  have BW : Hid (Below w.heap.size w W) := by show Below _ _ _; rw [← hW.out]; exact ((Below.refl _ _).alloc (Nat.le_refl _) _)
  have HC : Hid (Bx W (w.heap.size) ((fc n0 e0 p0 i0 j0)) 23) := by
    have h := (Bx.new w ((fc n0 e0 p0 i0 j0)) 23)
    show Bx _ _ _ _
    rw [← hW.out]
    simpa using h
  go_enter Try.func9, Try.ntmps9
  go_upto_region 1 with fail
  have hW' := hW.out
  rw [hW']
  clear hW hW'
  go_wp2_with fail
  refine (alive_any W).mono ?_
  rintro e u1 ⟨rfl, hb⟩
  have HC := hide (HC.out.step hb)
  have BW := hide (BW.out.trans (hb.mono BW.out.size))
  clear hb
  go_wp2_with (((with_reducible refine ldC (.tmp 3) (w.heap.size) (0) ?_ ?_ n0 e0 p0 i0 j0 ?_ ?_); (exact rfl); (exact rfl); (exact HC.out.lies)))
  by_cases hc : Place.Ok n0 e0 p0 i0 j0
  case neg =>
    refine (Place.rcheck_no n0 e0 p0 i0 j0 u1 hc).mono ?_
    rintro e u2 ⟨rfl, hb⟩
    have BW := hide (BW.out.trans (hb.mono BW.out.size))
    clear hb
    go_wp2
    go_ret
    exact ⟨rfl, BW.out⟩
  refine (Place.rcheck_ok n0 e0 p0 i0 j0 u1 hc).mono ?_
  rintro e u2 ⟨rfl, hb⟩
  have HC := hide (HC.out.step hb)
  have BW := hide (BW.out.trans (hb.mono BW.out.size))
  clear hb hc
  by_cases h1 : ln ≤ 30
  case neg =>
    have t1 : decide ((30 : Int) < (ln : Int)) = true := by simp; omega
    go_wp2
    go_ret
    exact ⟨rfl, BW.out⟩
  have t1 : decide ((30 : Int) < (ln : Int)) = false := by simp; omega
  by_cases h2 : mn ≤ 30
  case neg =>
    have t2 : decide ((30 : Int) < (mn : Int)) = true := by simp; omega
    go_wp2
    go_ret
    exact ⟨rfl, BW.out⟩
  have t2 : decide ((30 : Int) < (mn : Int)) = false := by simp; omega
  clear m1 m2
  go_wp2_with (((with_reducible refine ldC (.tmp 3) (w.heap.size) (0) ?_ ?_ n0 e0 p0 i0 j0 ?_ ?_); (exact rfl); (exact rfl); (exact HC.out.lies)))
  refine (all_any n0 e0 p0 i0 j0 ⟨lA, ln, lc⟩ l1 u2 ((PL.out.below BW.out (Nat.le_refl _)).more BW.out.size) (by dsimp only; omega) WL.out).mono ?_
  rintro e u3 ⟨v1, A1, n1, c1, Z1, rfl, hH, hR, hM, hb⟩
  have OG : Hid (Has u3 w.heap.size v1 (allG i0 j0 newG0 l1)) := hH.out.less BW.out.size
  have RO : Hid (ROws u3 w.heap.size A1 n1 c1 Z1) := hR.out.less BW.out.size
  clear hH hR
  have HC := hide (HC.out.step hb.out)
  have BW := hide (BW.out.trans (hb.out.mono BW.out.size))
  clear hb t1 t2
  have Hh : Hid (Bx (u3.alloc (.cells (#[.slice none 0 0, .slice none 0 0, .int .i64 0, .int .i64 0]) 27)) u3.heap.size (#[.slice none 0 0, .slice none 0 0, .int .i64 0, .int .i64 0]) 27) := Bx.new u3 (#[.slice none 0 0, .slice none 0 0, .int .i64 0, .int .i64 0]) 27
  go_upto_region 6 with (((with_reducible refine stG (.tmp 7) (.tmp 34) (u3.heap.size) ?_ v1 ?_ (#[.slice none 0 0, .slice none 0 0, .int .i64 0, .int .i64 0]) ?_ ?_ ?_); (exact rfl); (exact rfl); (exact Hh.out); (exact rfl)))
  obtain ⟨V, hV⟩ : ∃ V, Hid ((u3.alloc (.cells (#[.slice none 0 0, .slice none 0 0, .int .i64 0, .int .i64 0]) 27)).setRow u3.heap.size (gc v1) = V) := ⟨_, rfl⟩
  obtain ⟨g1, hg1⟩ : ∃ g, Hid (u3.heap.size = g) := ⟨_, rfl⟩
  have BV : Hid (Below u3.heap.size u3 V) := by show Below _ _ _; rw [← hV.out]; exact row_below ((Below.refl _ _).alloc (Nat.le_refl _) _) (Nat.le_refl _) _
  have Hh : Hid (Bx V g1 (gc v1) 27) := by show Bx _ _ _ _; rw [← hV.out, ← hg1.out]; exact Hh.out.put _
  have hgl : Hid (w.heap.size < g1) := by show _ < _; rw [← hg1.out]; exact HC.out.lt
  have HC := hide (HC.out.step BV.out)
  have OG := hide (OG.out.step BV.out)
  have RO := hide (RO.out.step BV.out)
  have BW := hide (BW.out.trans (BV.out.mono BW.out.size))
  clear BV
  have hV' := hV.out
  have hg' := hg1.out
  rw [hV', hg']
  clear hV hg1 hV' hg'
  go_cut [9, 10] (fun p l wx => ∃ (gx : Nat) (v2 : Gv) (A2 : Option Addr) (n2 c2 : Nat) (Z2 : List RZ), p = .pointer (some ⟨gx, 0, none⟩) ∧ l = .slice A2 n2 c2 ∧ Hid (V.heap.size ≤ gx) ∧ Hid (Bx wx gx (gc v2) 27) ∧ Hid (Has wx V.heap.size v2 (allG i0 j0 newG0 (l1 ++ l2))) ∧ Hid (ROws wx V.heap.size A2 n2 c2 Z2) ∧ Hid (Z2.map (·.1) = allR i0 j0 newG0 (l1 ++ l2)) ∧ Hid (Below V.heap.size V wx))
  case first =>
    have D0 := hide ((Below.refl V.heap.size V).drew)
    have QL := hide (PL.out.below BW.out (Nat.le_refl _))
    have QM := hide (PM.out.below BW.out (Nat.le_refl _))
    have HCD := hide HC.out.lt
    refine wp_region_held_drew (S := fun u => Below V.heap.size V u) (by kernel_rfl) D0.out (fun hS => ?_)
    generalize V.drew = VD at hS ⊢
    clear D0
    refine wpAnyH_take (i := 0) (v := .agg (fc n0 e0 p0 i0 j0)) rfl (by kernel_rfl) (by kernel_rfl) (by kernel_rfl) (fun _ _ _ h => h) (Or.inl ⟨by kernel_rfl, fun u hu => xlC (.tmp 3) w.heap.size 0 rfl n0 e0 p0 i0 j0 (HC.out.step hu).lies⟩) hS ?_
    refine wpAnyH_take (i := 1) (v := .slice lA ln lc) rfl (by kernel_rfl) (by kernel_rfl) (by kernel_rfl) (fun _ _ _ h => h) (Or.inl ⟨by kernel_rfl, by intro u hu; go_simp⟩) hS ?_
    refine wpAnyH_take (i := 3) (v := .slice mA mn mc) rfl (by kernel_rfl) (by kernel_rfl) (by kernel_rfl) (fun _ _ _ h => h) (Or.inl ⟨by kernel_rfl, by intro u hu; go_simp⟩) hS ?_
    refine wpAnyH_ready (rs := [2, 9]) (by kernel_rfl) (by simp) ?_
    refine AllReadyH.cons rfl (fun K hK => ?_) (AllReadyH.cons rfl (fun K hK => ?_) AllReadyH.nil)
    · refine step_row VD 69 62 5 40 (.agg #[.int .i64 0, .int .i64 0, .int .i64 0, .int .i64 0, .int .i64 0]) rfl _ _ rfl Try.underlying69 ainfoO rfl (by decide) (by decide) V.heap.size none 0 0 [] rfl (World.ownsRow_nil _ _ _ _) lA ln lc (cellsO l1) rfl QL.out.2.1 (by rw [cellsO_len, LL.out]) (fun ad ea j x hx => ((hS.cell (p := ad.add j) (by have h := QL.out.news ad ea j x hx; have h2 := World.block_lt_of_cell? V _ h; exact h2)).trans (QL.out.news ad ea j x hx))) QL.out.nil_ (cellsO_one l1) (by omega) hS.size ?_
      intro A4 c4 ua hO4 hg4 _
      rw [show 0 + ln = ln from Nat.zero_add ln] at hO4 ⊢
      rw [List.nil_append] at hO4
      have BA : Hid (Below V.heap.size V ua) := hS.grown hg4 hS.size (fun k e => by cases e)
      have hO4 := hide hO4.out
      refine hK.out _ _ BA.out (fun hSa => ?_)
      clear hK K hg4 hS
      refine wpAnyH_ready (rs := [4, 9]) (by kernel_rfl) (by simp) ?_
      refine AllReadyH.cons rfl (fun K hK => ?_) (AllReadyH.cons rfl (fun K hK => ?_) AllReadyH.nil)
      · refine step_row ua 69 62 5 40 (.agg #[.int .i64 0, .int .i64 0, .int .i64 0, .int .i64 0, .int .i64 0]) rfl _ _ rfl Try.underlying69 ainfoO rfl (by decide) (by decide) V.heap.size A4 ln c4 (cellsO l1) rfl hO4.out mA mn mc (cellsO l2) rfl QM.out.2.1 (by rw [cellsO_len, LM.out]) (fun ad ea j x hx => ((hSa.cell (p := ad.add j) (by have h := QM.out.news ad ea j x hx; have h2 := World.block_lt_of_cell? V _ h; exact h2)).trans (QM.out.news ad ea j x hx))) QM.out.nil_ (cellsO_one l2) (by omega) hSa.size ?_
        intro A5 c5 ub hO5 hg5 _
        have BB : Hid (Below V.heap.size V ub) := hSa.grown hg5 hSa.size (fun j ej => (hO4.out.lt j ej).1)
        refine hK.out _ _ BB.out (fun hSb => ?_)
        clear hK K hg5 hSa hO4
        refine wpAnyH_ready (rs := [5, 9]) (by kernel_rfl) (by simp) ?_
        refine AllReadyH.cons rfl (fun K hK => ?_) (AllReadyH.cons rfl (fun K hK => ?_) AllReadyH.nil)
        · have PO := hide (own_ops (l := l1 ++ l2) (by have h := hO5.out; rw [← cellsO_app] at h; exact h))
          go_simp
          refine (all_any n0 e0 p0 i0 j0 ⟨A5, ln + mn, c5⟩ (l1 ++ l2) ub PO.out (by dsimp only; omega) (WL.out.app WM.out)).mono ?_
          rintro e uc ⟨v2, A2, n2, c2, Z2, rfl, hH, hR, hM2, hb⟩
          have HH : Hid (Has uc V.heap.size v2 (allG i0 j0 newG0 (l1 ++ l2))) := hH.out.less hSb.size
          have RR : Hid (ROws uc V.heap.size A2 n2 c2 Z2) := hR.out.less hSb.size
          have BC : Hid (Below V.heap.size V uc) := hSb.trans (hb.out.mono hSb.size)
          refine hK.out _ _ BC.out (fun hSc => ?_)
          clear hK K hH hR hb hSb PO hO5
          refine wpAnyH_take (i := 6) (v := .tuple #[.agg (gc v2), .slice A2 n2 c2]) rfl (by kernel_rfl) (by kernel_rfl) (by kernel_rfl) (fun _ _ _ h => h) (Or.inl ⟨by kernel_rfl, by intro u hu; go_simp⟩) hSc ?_
          refine wpAnyH_take (i := 7) (v := (.agg (gc v2))) rfl (by kernel_rfl) (by kernel_rfl) (by kernel_rfl) (fun _ _ _ h => h) (Or.inl ⟨by kernel_rfl, by intro u hu; go_simp⟩) hSc ?_
          refine wpAnyH_take (i := 8) (v := .slice A2 n2 c2) rfl (by kernel_rfl) (by kernel_rfl) (by kernel_rfl) (fun _ _ _ h => h) (Or.inl ⟨by kernel_rfl, by intro u hu; go_simp⟩) hSc ?_
          refine wpAnyH_ready (rs := [9]) (by kernel_rfl) (by simp) ?_
          refine AllReadyH.cons rfl (fun K hK => ?_) AllReadyH.nil
          go_simp
          obtain ⟨gx, hgx⟩ : ∃ g, Hid (uc.heap.size = g) := ⟨_, rfl⟩
          obtain ⟨ux, hux⟩ : ∃ x, Hid (uc.alloc (.cells (#[.slice none 0 0, .slice none 0 0, .int .i64 0, .int .i64 0]) 27) = x) := ⟨_, rfl⟩
          have BX9 : Hid (Below uc.heap.size uc ux) := by show Below _ _ _; rw [← hux.out]; exact (Below.refl _ _).alloc (Nat.le_refl _) _
          have HX : Hid (Bx ux gx (#[.slice none 0 0, .slice none 0 0, .int .i64 0, .int .i64 0]) 27) := by show Bx _ _ _ _; rw [← hux.out, ← hgx.out]; exact Bx.new uc (#[.slice none 0 0, .slice none 0 0, .int .i64 0, .int .i64 0]) 27
          have HGX : Hid (V.heap.size ≤ gx) := by show _ ≤ _; rw [← hgx.out]; exact hSc.size
          have HH := hide (HH.out.step BX9.out)
          have RR := hide (RR.out.step BX9.out)
          have hSX0 : Below V.heap.size V ux := hSc.trans (BX9.out.mono hSc.size)
          have e1 := hux.out
          have e2 := hgx.out
          rw [e1, e2]
          refine hK.out _ _ hSX0 (fun hSx => ?_)
          clear hK K e1 e2 hux hgx BX9 hSc hSX0
          refine wpAnyH_ready (rs := [10]) (by kernel_rfl) (by simp) ?_
          refine AllReadyH.cons rfl (fun K hK => ?_) AllReadyH.nil
          rw [if_pos (by kernel_rfl)]
          refine wp_store_row 27 (.tmp 9) (.tmp 43) rfl gx (gc v2) rfl rfl 27 (#[.slice none 0 0, .slice none 0 0, .int .i64 0, .int .i64 0]) HX.out asize27 rfl (gc_one v2) ?_
          refine hK.out _ _ (row_below hSx HGX.out _) (fun hSz => ?_)
          clear hK K
          refine wpAnyH_ready (rs := [11]) (by kernel_rfl) (by simp) ?_
          refine AllReadyH.cons rfl (fun K hK => ?_) AllReadyH.nil
          go_simp
          refine hK.out _ _ hSz (fun _ => ?_)
          clear hK K
          refine wpAnyH_done (by kernel_rfl) ?_ _
          go_wp2
          go_meet
          case rel => exact ⟨gx, v2, A2, n2, c2, Z2, rfl, rfl, HGX, HX.out.put _, HH.out.row HX.out apG _, RR.out.row HX.out apG (by decide) _, hM2, hSz⟩
        · go_simp
          obtain ⟨gx, hgx⟩ : ∃ g, Hid (ub.heap.size = g) := ⟨_, rfl⟩
          obtain ⟨ux, hux⟩ : ∃ x, Hid (ub.alloc (.cells (#[.slice none 0 0, .slice none 0 0, .int .i64 0, .int .i64 0]) 27) = x) := ⟨_, rfl⟩
          have BX9 : Hid (Below ub.heap.size ub ux) := by show Below _ _ _; rw [← hux.out]; exact (Below.refl _ _).alloc (Nat.le_refl _) _
          have HX : Hid (Bx ux gx (#[.slice none 0 0, .slice none 0 0, .int .i64 0, .int .i64 0]) 27) := by show Bx _ _ _ _; rw [← hux.out, ← hgx.out]; exact Bx.new ub (#[.slice none 0 0, .slice none 0 0, .int .i64 0, .int .i64 0]) 27
          have HGX : Hid (V.heap.size ≤ gx) := by show _ ≤ _; rw [← hgx.out]; exact hSb.size
          have hO5 := hide (own_below hO5.out BX9.out)
          have hSX0 : Below V.heap.size V ux := hSb.trans (BX9.out.mono hSb.size)
          have e1 := hux.out
          have e2 := hgx.out
          rw [e1, e2]
          refine hK.out _ _ hSX0 (fun hSx => ?_)
          clear hK K e1 e2 hux hgx BX9 hSb hSX0
          refine wpAnyH_ready (rs := [5]) (by kernel_rfl) (by simp) ?_
          refine AllReadyH.cons rfl (fun K hK => ?_) AllReadyH.nil
          have PO := hide (own_ops (l := l1 ++ l2) (by have h := hO5.out; rw [← cellsO_app] at h; exact h))
          go_simp
          refine (all_any n0 e0 p0 i0 j0 ⟨A5, ln + mn, c5⟩ (l1 ++ l2) ux PO.out (by dsimp only; omega) (WL.out.app WM.out)).mono ?_
          rintro e uc ⟨v2, A2, n2, c2, Z2, rfl, hH, hR, hM2, hb⟩
          have HH : Hid (Has uc V.heap.size v2 (allG i0 j0 newG0 (l1 ++ l2))) := hH.out.less hSx.size
          have RR : Hid (ROws uc V.heap.size A2 n2 c2 Z2) := hR.out.less hSx.size
          have BC : Hid (Below V.heap.size V uc) := hSx.trans (hb.out.mono hSx.size)
          have HX := hide (HX.out.step hb.out)
          refine hK.out _ _ BC.out (fun hSc => ?_)
          clear hK K hH hR hb hSx PO hO5
          refine wpAnyH_take (i := 6) (v := .tuple #[.agg (gc v2), .slice A2 n2 c2]) rfl (by kernel_rfl) (by kernel_rfl) (by kernel_rfl) (fun _ _ _ h => h) (Or.inl ⟨by kernel_rfl, by intro u hu; go_simp⟩) hSc ?_
          refine wpAnyH_take (i := 7) (v := (.agg (gc v2))) rfl (by kernel_rfl) (by kernel_rfl) (by kernel_rfl) (fun _ _ _ h => h) (Or.inl ⟨by kernel_rfl, by intro u hu; go_simp⟩) hSc ?_
          refine wpAnyH_take (i := 8) (v := .slice A2 n2 c2) rfl (by kernel_rfl) (by kernel_rfl) (by kernel_rfl) (fun _ _ _ h => h) (Or.inl ⟨by kernel_rfl, by intro u hu; go_simp⟩) hSc ?_
          refine wpAnyH_ready (rs := [10]) (by kernel_rfl) (by simp) ?_
          refine AllReadyH.cons rfl (fun K hK => ?_) AllReadyH.nil
          rw [if_pos (by kernel_rfl)]
          refine wp_store_row 27 (.tmp 9) (.tmp 43) rfl gx (gc v2) rfl rfl 27 (#[.slice none 0 0, .slice none 0 0, .int .i64 0, .int .i64 0]) HX.out asize27 rfl (gc_one v2) ?_
          refine hK.out _ _ (row_below hSc HGX.out _) (fun hSz => ?_)
          clear hK K
          refine wpAnyH_ready (rs := [11]) (by kernel_rfl) (by simp) ?_
          refine AllReadyH.cons rfl (fun K hK => ?_) AllReadyH.nil
          go_simp
          refine hK.out _ _ hSz (fun _ => ?_)
          clear hK K
          refine wpAnyH_done (by kernel_rfl) ?_ _
          go_wp2
          go_meet
          case rel => exact ⟨gx, v2, A2, n2, c2, Z2, rfl, rfl, HGX, HX.out.put _, HH.out.row HX.out apG _, RR.out.row HX.out apG (by decide) _, hM2, hSz⟩
      · go_simp
        obtain ⟨gx, hgx⟩ : ∃ g, Hid (ua.heap.size = g) := ⟨_, rfl⟩
        obtain ⟨ux, hux⟩ : ∃ x, Hid (ua.alloc (.cells (#[.slice none 0 0, .slice none 0 0, .int .i64 0, .int .i64 0]) 27) = x) := ⟨_, rfl⟩
        have BX9 : Hid (Below ua.heap.size ua ux) := by show Below _ _ _; rw [← hux.out]; exact (Below.refl _ _).alloc (Nat.le_refl _) _
        have HX : Hid (Bx ux gx (#[.slice none 0 0, .slice none 0 0, .int .i64 0, .int .i64 0]) 27) := by show Bx _ _ _ _; rw [← hux.out, ← hgx.out]; exact Bx.new ua (#[.slice none 0 0, .slice none 0 0, .int .i64 0, .int .i64 0]) 27
        have HGX : Hid (V.heap.size ≤ gx) := by show _ ≤ _; rw [← hgx.out]; exact hSa.size
        have hO4 := hide (own_below hO4.out BX9.out)
        have hSX0 : Below V.heap.size V ux := hSa.trans (BX9.out.mono hSa.size)
        have e1 := hux.out
        have e2 := hgx.out
        rw [e1, e2]
        refine hK.out _ _ hSX0 (fun hSx => ?_)
        clear hK K e1 e2 hux hgx BX9 hSa hSX0
        refine wpAnyH_ready (rs := [4]) (by kernel_rfl) (by simp) ?_
        refine AllReadyH.cons rfl (fun K hK => ?_) AllReadyH.nil
        refine step_row ux 69 62 5 40 (.agg #[.int .i64 0, .int .i64 0, .int .i64 0, .int .i64 0, .int .i64 0]) rfl _ _ rfl Try.underlying69 ainfoO rfl (by decide) (by decide) V.heap.size A4 ln c4 (cellsO l1) rfl hO4.out mA mn mc (cellsO l2) rfl QM.out.2.1 (by rw [cellsO_len, LM.out]) (fun ad ea j x hx => ((hSx.cell (p := ad.add j) (by have h := QM.out.news ad ea j x hx; have h2 := World.block_lt_of_cell? V _ h; exact h2)).trans (QM.out.news ad ea j x hx))) QM.out.nil_ (cellsO_one l2) (by omega) hSx.size ?_
        intro A5 c5 ub hO5 hg5 _
        have BB : Hid (Below V.heap.size V ub) := hSx.grown hg5 hSx.size (fun j ej => (hO4.out.lt j ej).1)
        have HX : Hid (Bx ub gx (#[.slice none 0 0, .slice none 0 0, .int .i64 0, .int .i64 0]) 27) := bx_grown HX.out hO4.out hg5 (by decide)
        refine hK.out _ _ BB.out (fun hSb => ?_)
        clear hK K hg5 hSx hO4
        refine wpAnyH_ready (rs := [5]) (by kernel_rfl) (by simp) ?_
        refine AllReadyH.cons rfl (fun K hK => ?_) AllReadyH.nil
        have PO := hide (own_ops (l := l1 ++ l2) (by have h := hO5.out; rw [← cellsO_app] at h; exact h))
        go_simp
        refine (all_any n0 e0 p0 i0 j0 ⟨A5, ln + mn, c5⟩ (l1 ++ l2) ub PO.out (by dsimp only; omega) (WL.out.app WM.out)).mono ?_
        rintro e uc ⟨v2, A2, n2, c2, Z2, rfl, hH, hR, hM2, hb⟩
        have HH : Hid (Has uc V.heap.size v2 (allG i0 j0 newG0 (l1 ++ l2))) := hH.out.less hSb.size
        have RR : Hid (ROws uc V.heap.size A2 n2 c2 Z2) := hR.out.less hSb.size
        have BC : Hid (Below V.heap.size V uc) := hSb.trans (hb.out.mono hSb.size)
        have HX := hide (HX.out.step hb.out)
        refine hK.out _ _ BC.out (fun hSc => ?_)
        clear hK K hH hR hb hSb PO hO5
        refine wpAnyH_take (i := 6) (v := .tuple #[.agg (gc v2), .slice A2 n2 c2]) rfl (by kernel_rfl) (by kernel_rfl) (by kernel_rfl) (fun _ _ _ h => h) (Or.inl ⟨by kernel_rfl, by intro u hu; go_simp⟩) hSc ?_
        refine wpAnyH_take (i := 7) (v := (.agg (gc v2))) rfl (by kernel_rfl) (by kernel_rfl) (by kernel_rfl) (fun _ _ _ h => h) (Or.inl ⟨by kernel_rfl, by intro u hu; go_simp⟩) hSc ?_
        refine wpAnyH_take (i := 8) (v := .slice A2 n2 c2) rfl (by kernel_rfl) (by kernel_rfl) (by kernel_rfl) (fun _ _ _ h => h) (Or.inl ⟨by kernel_rfl, by intro u hu; go_simp⟩) hSc ?_
        refine wpAnyH_ready (rs := [10]) (by kernel_rfl) (by simp) ?_
        refine AllReadyH.cons rfl (fun K hK => ?_) AllReadyH.nil
        rw [if_pos (by kernel_rfl)]
        refine wp_store_row 27 (.tmp 9) (.tmp 43) rfl gx (gc v2) rfl rfl 27 (#[.slice none 0 0, .slice none 0 0, .int .i64 0, .int .i64 0]) HX.out asize27 rfl (gc_one v2) ?_
        refine hK.out _ _ (row_below hSc HGX.out _) (fun hSz => ?_)
        clear hK K
        refine wpAnyH_ready (rs := [11]) (by kernel_rfl) (by simp) ?_
        refine AllReadyH.cons rfl (fun K hK => ?_) AllReadyH.nil
        go_simp
        refine hK.out _ _ hSz (fun _ => ?_)
        clear hK K
        refine wpAnyH_done (by kernel_rfl) ?_ _
        go_wp2
        go_meet
        case rel => exact ⟨gx, v2, A2, n2, c2, Z2, rfl, rfl, HGX, HX.out.put _, HH.out.row HX.out apG _, RR.out.row HX.out apG (by decide) _, hM2, hSz⟩
    · go_simp
      obtain ⟨gx, hgx⟩ : ∃ g, Hid (VD.heap.size = g) := ⟨_, rfl⟩
      obtain ⟨ux, hux⟩ : ∃ x, Hid (VD.alloc (.cells (#[.slice none 0 0, .slice none 0 0, .int .i64 0, .int .i64 0]) 27) = x) := ⟨_, rfl⟩
      have BX9 : Hid (Below VD.heap.size VD ux) := by show Below _ _ _; rw [← hux.out]; exact (Below.refl _ _).alloc (Nat.le_refl _) _
      have HX : Hid (Bx ux gx (#[.slice none 0 0, .slice none 0 0, .int .i64 0, .int .i64 0]) 27) := by show Bx _ _ _ _; rw [← hux.out, ← hgx.out]; exact Bx.new VD (#[.slice none 0 0, .slice none 0 0, .int .i64 0, .int .i64 0]) 27
      have HGX : Hid (V.heap.size ≤ gx) := by show _ ≤ _; rw [← hgx.out]; exact hS.size
      have hSX0 : Below V.heap.size V ux := hS.trans (BX9.out.mono hS.size)
      have e1 := hux.out
      have e2 := hgx.out
      rw [e1, e2]
      refine hK.out _ _ hSX0 (fun hSx => ?_)
      clear hK K e1 e2 hux hgx BX9 hS hSX0
      refine wpAnyH_ready (rs := [2]) (by kernel_rfl) (by simp) ?_
      refine AllReadyH.cons rfl (fun K hK => ?_) AllReadyH.nil
      refine step_row ux 69 62 5 40 (.agg #[.int .i64 0, .int .i64 0, .int .i64 0, .int .i64 0, .int .i64 0]) rfl _ _ rfl Try.underlying69 ainfoO rfl (by decide) (by decide) V.heap.size none 0 0 [] rfl (World.ownsRow_nil _ _ _ _) lA ln lc (cellsO l1) rfl QL.out.2.1 (by rw [cellsO_len, LL.out]) (fun ad ea j x hx => ((hSx.cell (p := ad.add j) (by have h := QL.out.news ad ea j x hx; have h2 := World.block_lt_of_cell? V _ h; exact h2)).trans (QL.out.news ad ea j x hx))) QL.out.nil_ (cellsO_one l1) (by omega) hSx.size ?_
      intro A4 c4 ua hO4 hg4 _
      rw [show 0 + ln = ln from Nat.zero_add ln] at hO4 ⊢
      rw [List.nil_append] at hO4
      have BA : Hid (Below V.heap.size V ua) := hSx.grown hg4 hSx.size (fun k e => by cases e)
      have HX := hide (HX.out.grown hg4 (fun e => by cases e))
      have hO4 := hide hO4.out
      refine hK.out _ _ BA.out (fun hSa => ?_)
      clear hK K hg4 hSx
      refine wpAnyH_ready (rs := [4]) (by kernel_rfl) (by simp) ?_
      refine AllReadyH.cons rfl (fun K hK => ?_) AllReadyH.nil
      refine step_row ua 69 62 5 40 (.agg #[.int .i64 0, .int .i64 0, .int .i64 0, .int .i64 0, .int .i64 0]) rfl _ _ rfl Try.underlying69 ainfoO rfl (by decide) (by decide) V.heap.size A4 ln c4 (cellsO l1) rfl hO4.out mA mn mc (cellsO l2) rfl QM.out.2.1 (by rw [cellsO_len, LM.out]) (fun ad ea j x hx => ((hSa.cell (p := ad.add j) (by have h := QM.out.news ad ea j x hx; have h2 := World.block_lt_of_cell? V _ h; exact h2)).trans (QM.out.news ad ea j x hx))) QM.out.nil_ (cellsO_one l2) (by omega) hSa.size ?_
      intro A5 c5 ub hO5 hg5 _
      have BB : Hid (Below V.heap.size V ub) := hSa.grown hg5 hSa.size (fun j ej => (hO4.out.lt j ej).1)
      have HX : Hid (Bx ub gx (#[.slice none 0 0, .slice none 0 0, .int .i64 0, .int .i64 0]) 27) := bx_grown HX.out hO4.out hg5 (by decide)
      refine hK.out _ _ BB.out (fun hSb => ?_)
      clear hK K hg5 hSa hO4
      refine wpAnyH_ready (rs := [5]) (by kernel_rfl) (by simp) ?_
      refine AllReadyH.cons rfl (fun K hK => ?_) AllReadyH.nil
      have PO := hide (own_ops (l := l1 ++ l2) (by have h := hO5.out; rw [← cellsO_app] at h; exact h))
      go_simp
      refine (all_any n0 e0 p0 i0 j0 ⟨A5, ln + mn, c5⟩ (l1 ++ l2) ub PO.out (by dsimp only; omega) (WL.out.app WM.out)).mono ?_
      rintro e uc ⟨v2, A2, n2, c2, Z2, rfl, hH, hR, hM2, hb⟩
      have HH : Hid (Has uc V.heap.size v2 (allG i0 j0 newG0 (l1 ++ l2))) := hH.out.less hSb.size
      have RR : Hid (ROws uc V.heap.size A2 n2 c2 Z2) := hR.out.less hSb.size
      have BC : Hid (Below V.heap.size V uc) := hSb.trans (hb.out.mono hSb.size)
      have HX := hide (HX.out.step hb.out)
      refine hK.out _ _ BC.out (fun hSc => ?_)
      clear hK K hH hR hb hSb PO hO5
      refine wpAnyH_take (i := 6) (v := .tuple #[.agg (gc v2), .slice A2 n2 c2]) rfl (by kernel_rfl) (by kernel_rfl) (by kernel_rfl) (fun _ _ _ h => h) (Or.inl ⟨by kernel_rfl, by intro u hu; go_simp⟩) hSc ?_
      refine wpAnyH_take (i := 7) (v := (.agg (gc v2))) rfl (by kernel_rfl) (by kernel_rfl) (by kernel_rfl) (fun _ _ _ h => h) (Or.inl ⟨by kernel_rfl, by intro u hu; go_simp⟩) hSc ?_
      refine wpAnyH_take (i := 8) (v := .slice A2 n2 c2) rfl (by kernel_rfl) (by kernel_rfl) (by kernel_rfl) (fun _ _ _ h => h) (Or.inl ⟨by kernel_rfl, by intro u hu; go_simp⟩) hSc ?_
      refine wpAnyH_ready (rs := [10]) (by kernel_rfl) (by simp) ?_
      refine AllReadyH.cons rfl (fun K hK => ?_) AllReadyH.nil
      rw [if_pos (by kernel_rfl)]
      refine wp_store_row 27 (.tmp 9) (.tmp 43) rfl gx (gc v2) rfl rfl 27 (#[.slice none 0 0, .slice none 0 0, .int .i64 0, .int .i64 0]) HX.out asize27 rfl (gc_one v2) ?_
      refine hK.out _ _ (row_below hSc HGX.out _) (fun hSz => ?_)
      clear hK K
      refine wpAnyH_ready (rs := [11]) (by kernel_rfl) (by simp) ?_
      refine AllReadyH.cons rfl (fun K hK => ?_) AllReadyH.nil
      go_simp
      refine hK.out _ _ hSz (fun _ => ?_)
      clear hK K
      refine wpAnyH_done (by kernel_rfl) ?_ _
      go_wp2
      go_meet
      case rel => exact ⟨gx, v2, A2, n2, c2, Z2, rfl, rfl, HGX, HX.out.put _, HH.out.row HX.out apG _, RR.out.row HX.out apG (by decide) _, hM2, hSz⟩
  obtain ⟨gx, v2, A2, n2, c2, Z2, rfl, rfl, HGX, Hx, OH, RH, HM2, BC⟩ := hcut
  have HGL : Hid (g1 < gx) := Nat.lt_of_lt_of_le Hh.out.lt HGX.out
  have VS : Hid (w.heap.size ≤ V.heap.size) := BW.out.size
  have APT : Hid (Apt (.slice A1 n1 c1) (.slice A2 n2 c2)) := fun j h1 h2 => by have a := own_block_lt RO.out.rows h1; have b := (RH.out.rows.lt j h2).1; omega
  have HC := hide (HC.out.step BC.out)
  have Hh := hide (Hh.out.step BC.out)
  have OG := hide (OG.out.step BC.out)
  have RO := hide (RO.out.step BC.out)
  have BW := hide (BW.out.trans (BC.out.mono BW.out.size))
  have OH := hide (OH.out.less VS.out)
  have RH := hide (RH.out.less VS.out)
  clear BC
  obtain ⟨i0_, hi0, hz0, hz1, hz2⟩ := info_parts ainfoR
  have J1 := hide hi0
  have J2 := hide hz0
  have J3 := hide hz1
  have J4 := hide hz2
  clear hi0 hz0 hz1 hz2
  have hM' : Hid (Z1.map (·.1) = allR i0 j0 newG0 (l1 ++ l2.take 0)) := by show _ = _; rw [List.take_zero, List.append_nil]; exact hM.out
  have OG' : Hid (Has wc w.heap.size v1 (allG i0 j0 newG0 (l1 ++ l2.take 0))) := by show Has _ _ _ _; rw [List.take_zero, List.append_nil]; exact OG.out
  clear hM OG
  have hn1 : n1 ≤ 30 := by have h1 := RO.out.len; have h2 := congrArg List.length hM'.out; rw [List.length_map, allR_len, List.length_append, List.length_take] at h2; have := LL.out; have := LM.out; omega
  go_wp2
  go_loopw [8, 47] (fun a i wr => ∃ (k : Nat) (v' : Gv) (A : Option Addr) (n c : Nat) (Z : List RZ), k ≤ mn ∧ i = .int .i64 k ∧ a = .slice A n c ∧ Hid (n = ln + k) ∧ Hid (Bx wr w.heap.size (fc n0 e0 p0 i0 j0) 23) ∧ Hid (Bx wr g1 (gc v') 27) ∧ Hid (Bx wr gx (gc v2) 27) ∧ Hid (Has wr w.heap.size v' (allG i0 j0 newG0 (l1 ++ l2.take k))) ∧ Hid (ROws wr w.heap.size A n c Z) ∧ Hid (Z.map (·.1) = allR i0 j0 newG0 (l1 ++ l2.take k)) ∧ Hid (Has wr w.heap.size v2 (allG i0 j0 newG0 (l1 ++ l2))) ∧ Hid (ROws wr w.heap.size A2 n2 c2 Z2) ∧ Hid (Apt (.slice A n c) (.slice A2 n2 c2)) ∧ Hid (Below w.heap.size w wr)) (fun _ i _ => mn - (intOf i).toNat)
  case atStart => exact ⟨0, v1, A1, n1, c1, Z1, by omega, rfl, rfl, (by show _ = _; have h1 := RO.out.len; have h2 := congrArg List.length hM'.out; rw [List.length_map, allR_len, List.length_append, List.length_take] at h2; have := LL.out; omega), HC, Hh, Hx, OG', RO, hM', OH, RH, APT, BW⟩
  case round =>
    clear HC Hh Hx OG' RO hM' OH RH APT BW hn1
    obtain ⟨k, v', A, n, cp, Z, hk, rfl, rfl, HNK, HC, Hh, Hx, OG, RO, HM1, OH, RH, APT, BW⟩ := hrel
    have hnb : n ≤ 60 := by have := HNK.out; omega
    by_cases hlt : k < mn
    · have HK : Hid (k < l2.length) := by have := LM.out; show _ < _; omega
      obtain ⟨b, off, e, hb, LI0⟩ := (PM.out.below BW.out (Nat.le_refl _)).at_ hlt
      dsimp only at e
      subst e
      obtain ⟨o, ho⟩ : ∃ o, Hid (l2.getD k noO = o) := ⟨_, rfl⟩
      have HWK : Hid ((Lit.int .i64 o.k).wf = true) := by have h := WM.out.at_ HK.out; rw [ho.out] at h; exact h
      rw [ho.out] at LI0
      have LIa : Hid (Lies (wr.alloc (.cells (#[.int .i64 0, .int .i64 0, .int .i64 0, .int .i64 0, .int .i64 0]) 62)) b (off + k * 5) (oc o)) := LI0.below ((Below.refl wr.heap.size wr).alloc (Nat.le_refl _) _) (Nat.lt_of_lt_of_le hb BW.out.size)
      have LI := hide LI0
      have ip : (0 : Int) ≤ (k : Int) := by omega
      have jp : (k : Int) < (mn : Int) := by omega
      clear LI0 hb
      have H5 : Hid (Bx (wr.alloc (.cells (#[.int .i64 0, .int .i64 0, .int .i64 0, .int .i64 0, .int .i64 0]) 62)) wr.heap.size (#[.int .i64 0, .int .i64 0, .int .i64 0, .int .i64 0, .int .i64 0]) 62) := Bx.new wr (#[.int .i64 0, .int .i64 0, .int .i64 0, .int .i64 0, .int .i64 0]) 62
      go_upto_region 10 with (first | ((with_reducible refine ldO (.tmp 49) (b) (off + k * 5) ?_ ?_ o ?_ ?_); (exact rfl); (exact rfl); (exact LI.out)) | ((with_reducible refine ldO (.tmp 49) (b) (off + k * 5) ?_ ?_ o ?_ ?_); (exact rfl); (exact rfl); (exact LIa.out)) | ((with_reducible refine stO (.tmp 12) (.tmp 50) (wr.heap.size) ?_ o ?_ (#[.int .i64 0, .int .i64 0, .int .i64 0, .int .i64 0, .int .i64 0]) ?_ ?_ ?_); (exact rfl); (exact rfl); (exact H5.out); (exact rfl)))
      obtain ⟨U, hU⟩ : ∃ U, Hid ((wr.alloc (.cells (#[.int .i64 0, .int .i64 0, .int .i64 0, .int .i64 0, .int .i64 0]) 62)).setRow wr.heap.size (oc o) = U) := ⟨_, rfl⟩
      obtain ⟨gO, hgO⟩ : ∃ g, Hid (wr.heap.size = g) := ⟨_, rfl⟩
      have BU : Hid (Below wr.heap.size wr U) := by show Below _ _ _; rw [← hU.out]; exact row_below ((Below.refl _ _).alloc (Nat.le_refl _) _) (Nat.le_refl _) _
      have HO : Hid (Bx U gO (oc o) 62) := by show Bx _ _ _ _; rw [← hU.out, ← hgO.out]; exact H5.out.put _
      have hV' := hU.out
      have hg' := hgO.out
      rw [hV', hg']
      clear hU hgO hV' hg' LI LIa H5
      have HC := hide (HC.out.step BU.out)
      have Hh := hide (Hh.out.step BU.out)
      have Hx := hide (Hx.out.step BU.out)
      have OG := hide (OG.out.step BU.out)
      have RO := hide (RO.out.step BU.out)
      have OH := hide (OH.out.step BU.out)
      have RH := hide (RH.out.step BU.out)
      have BW := hide (BW.out.trans (BU.out.mono BW.out.size))
      clear BU
      go_wp2_with (first | ((with_reducible refine ldC (.tmp 3) (w.heap.size) (0) ?_ ?_ n0 e0 p0 i0 j0 ?_ ?_); (exact rfl); (exact rfl); (exact HC.out.lies)) | ((with_reducible refine ldG (.tmp 7) (g1) (0) ?_ ?_ v' ?_ ?_); (exact rfl); (exact rfl); (exact Hh.out.lies)) | ((with_reducible refine ldO (.tmp 12) (gO) (0) ?_ ?_ o ?_ ?_); (exact rfl); (exact rfl); (exact HO.out.lies)))
      have F140 : Hid (Few 140 (allG i0 j0 newG0 (l1 ++ l2.take k))) := few_end (by rw [List.length_append, List.length_take]; have := LL.out; have := LM.out; omega)
      refine (do_any n0 e0 p0 i0 j0 v' (allG i0 j0 newG0 (l1 ++ l2.take k)) o U OG.out.sees F140.out HWK.out).mono ?_
      rintro e u2 ⟨v3, s3, rfl, hm, hr2, hb⟩
      have OG2 : Hid (Has u2 w.heap.size v3 (allG i0 j0 newG0 (l1 ++ l2.take (k + 1)))) := by have h := hm.out.less BW.out.size; show Has _ _ _ _; rw [getD_take (d := noO) HK.out, ← List.append_assoc, allG_append, ho.out]; exact h
      obtain ⟨r, hr⟩ : ∃ r, Hid ((doR i0 j0 (allG i0 j0 newG0 (l1 ++ l2.take k)) o).2 = r) := ⟨_, rfl⟩
      rw [hr.out] at hr2
      rw [hr.out]
      have OR2 : Hid (ROwn u2 w.heap.size s3 r) := hr2.out.less BW.out.size
      clear hm hr2 OG
      have HM3 : Hid ((Z ++ [(r, s3)]).map (·.1) = allR i0 j0 newG0 (l1 ++ l2.take (k + 1))) := by show _ = _; rw [List.map_append, HM1.out, getD_take (d := noO) HK.out, ← List.append_assoc, allR_append (l1 ++ l2.take k) [l2.getD k noO], ho.out, ← hr.out]; rfl
      have HC := hide (HC.out.step hb.out)
      have Hh := hide (Hh.out.step hb.out)
      have Hx := hide (Hx.out.step hb.out)
      have RO := hide (RO.out.step hb.out)
      have OH := hide (OH.out.step hb.out)
      have RH := hide (RH.out.step hb.out)
      have BW := hide (BW.out.trans (hb.out.mono BW.out.size))
      clear hb HO hr
      have Ha : Hid (Bx ((u2.alloc (.cells (#[.slice none 0 0, .slice none 0 0, .int .i64 0, .int .i64 0]) 27)).alloc (.cells (#[.int .i64 0, .int .i64 0, .slice none 0 0, .slice none 0 0, .slice none 0 0]) 64)) u2.heap.size (#[.slice none 0 0, .slice none 0 0, .int .i64 0, .int .i64 0]) 27) := (Bx.new u2 (#[.slice none 0 0, .slice none 0 0, .int .i64 0, .int .i64 0]) 27).alloc _
      have Hb : Hid (Bx (((u2.alloc (.cells (#[.slice none 0 0, .slice none 0 0, .int .i64 0, .int .i64 0]) 27)).alloc (.cells (#[.int .i64 0, .int .i64 0, .slice none 0 0, .slice none 0 0, .slice none 0 0]) 64)).setRow u2.heap.size (gc v3)) (u2.heap.size + 1) (#[.int .i64 0, .int .i64 0, .slice none 0 0, .slice none 0 0, .slice none 0 0]) 64) := by have h := Bx.new (u2.alloc (.cells (#[.slice none 0 0, .slice none 0 0, .int .i64 0, .int .i64 0]) 27)) (#[.int .i64 0, .int .i64 0, .slice none 0 0, .slice none 0 0, .slice none 0 0]) 64; exact Bx.far (by simpa using h) (by omega) _
      go_upto_region 11 with (first | ((with_reducible refine stG (.tmp 13) (.tmp 56) (u2.heap.size) ?_ v3 ?_ (#[.slice none 0 0, .slice none 0 0, .int .i64 0, .int .i64 0]) ?_ ?_ ?_); (exact rfl); (exact rfl); (exact Ha.out); (exact rfl)) | ((with_reducible refine stR (.tmp 14) (.tmp 57) (u2.heap.size + 1) ?_ r s3 ?_ (#[.int .i64 0, .int .i64 0, .slice none 0 0, .slice none 0 0, .slice none 0 0]) ?_ ?_ ?_); (exact rfl); (exact rfl); (exact Hb.out); (exact rfl)))
      obtain ⟨V9, hV⟩ : ∃ V, Hid (((((u2.alloc (.cells (#[.slice none 0 0, .slice none 0 0, .int .i64 0, .int .i64 0]) 27)).alloc (.cells (#[.int .i64 0, .int .i64 0, .slice none 0 0, .slice none 0 0, .slice none 0 0]) 64)).setRow u2.heap.size (gc v3)).setRow (u2.heap.size + 1) (rc r s3)) = V) := ⟨_, rfl⟩
      obtain ⟨g9, hg9⟩ : ∃ g, Hid (u2.heap.size = g) := ⟨_, rfl⟩
      have BV : Hid (Below u2.heap.size u2 V9) := by show Below _ _ _; rw [← hV.out]; exact row_below (row_below (((Below.refl _ _).alloc (Nat.le_refl _) _).alloc (by simp) _) (Nat.le_refl _) _) (by omega) _
      have Ha : Hid (Bx V9 g9 (gc v3) 27) := by show Bx _ _ _ _; rw [← hV.out, ← hg9.out]; exact (Ha.out.put _).far (by omega) _
      have Hb : Hid (Bx V9 (g9 + 1) (rc r s3) 64) := by show Bx _ _ _ _; rw [← hV.out, ← hg9.out]; exact Hb.out.put _
      have hg9x : Hid (gx < g9) := by show _ < _; rw [← hg9.out]; exact Hx.out.lt
      have HC := hide (HC.out.step BV.out)
      have Hh := hide (Hh.out.step BV.out)
      have Hx := hide (Hx.out.step BV.out)
      have RO := hide (RO.out.step BV.out)
      have OH := hide (OH.out.step BV.out)
      have RH := hide (RH.out.step BV.out)
      have OG2 := hide (OG2.out.step BV.out)
      have OR2 := hide (OR2.out.step BV.out)
      have BW := hide (BW.out.trans (BV.out.mono BW.out.size))
      clear BV
      have hV' := hV.out
      have hg' := hg9.out
      rw [hV', hg']
      clear hV hg9 hV' hg'
      have RO3 := hide (RO.out.row Hh.out apG (by decide) (gc v3))
      have OG3 := hide (OG2.out.row Hh.out apG (gc v3))
      have OR3 := hide (OR2.out.row Hh.out apG (gc v3))
      have OH3 := hide (OH.out.row Hh.out apG (gc v3))
      have RH3 := hide (RH.out.row Hh.out apG (by decide) (gc v3))
      have C3 := hide (HC.out.far (k := g1) (by have := hgl.out; omega) (gc v3))
      have H3 := hide (Hh.out.put (gc v3))
      have X3 := hide (Hx.out.far (k := g1) (by have := HGL.out; omega) (gc v3))
      have B3 := hide (row_below BW.out (by have := hgl.out; omega : w.heap.size ≤ g1) (gc v3))
      have Hb3 := hide (Hb.out.far (k := g1) (by have := hg9x.out; have := HGL.out; omega) (gc v3))
      clear RO OG2 OR2 OH RH HC Hx BW
      go_upto_region 12 with (first | ((with_reducible refine ldG (.tmp 13) (g9) (0) ?_ ?_ v3 ?_ ?_); (exact rfl); (exact rfl); (exact Ha.out.lies)) | ((with_reducible refine stG (.tmp 7) (.tmp 58) (g1) ?_ v3 ?_ (gc v') ?_ ?_ ?_); (exact rfl); (exact rfl); (exact Hh.out); (exact rfl)))
      obtain ⟨Y, hY⟩ : ∃ Y, Hid (V9.setRow g1 (gc v3) = Y) := ⟨_, rfl⟩
      have hY' := hY.out
      rw [hY'] at RO3 OG3 OR3 OH3 RH3 C3 H3 X3 B3 Hb3 ⊢
      clear hY hY' Ha Hb Hh
      go_wp2_with (first | ((with_reducible refine ldRl (.tmp 14) (g9 + 1) (0) ?_ ?_ r s3 ?_ ?_); (exact rfl); (exact rfl); (exact Hb3.out.lies)) | (at_builtin; refine wpList_append_lies _ rfl _ _ 71 rfl w.heap.size 64 i0_ (.agg #[.int .i64 0, .int .i64 0, .slice none 0 0, .slice none 0 0, .slice none 0 0]) 5 88 Try.underlying71 J1.out J2.out J3.out J4.out rfl (by decide) (.slice A n cp) n _ rfl (RO3.out.rows.alloc _) ⟨Y.heap.size, 0, none⟩ 1 1 (rc r s3).toList rfl rfl (cells_new _ _ _ _ (by simp)) (rc_all r s3) (by decide) (by simp only [maxLen]; omega) (by omega) (by have := B3.out.size; simp; omega) _ rfl ?_; intro gn cn w2 hown hg hat hlt9; have RO4 := hide (RO3.out.app OR3.out hown hg); have OG4 := hide (OG3.out.grown RO3.out.rows hg); have OH4 := hide (OH3.out.grown RO3.out.rows hg); have RH4 : Hid (ROws w2 w.heap.size A2 n2 c2 Z2) := RH3.out.aside RO3.out.rows hg APT.out; have AP4 : Hid (Apt (.slice (some ⟨gn, 0, none⟩) (n + 1) cn) (.slice A2 n2 c2)) := apt_new RH3.out.rows APT.out hat (by simp); have C4 := hide (C3.out.wider (by decide) RO3.out.rows hg); have H4 := hide (H3.out.wider (by decide) RO3.out.rows hg); have X4 := hide (X3.out.wider (by decide) RO3.out.rows hg); have B4 := hide (grow_below RO3.out.rows hg B3.out B3.out.size); clear hown hg hat hlt9 RO3 OG3 OH3 RH3 C3 H3 X3 B3 OR3 Hb3))
      refine ⟨⟨k + 1, v3, some ⟨gn, 0, none⟩, n + 1, cn, _, by omega, by go_num, rfl, by have := HNK.out; show _ = _; omega, C4, H4, X4, OG4, RO4, HM3, OH4, RH4, AP4, B4⟩, ?_⟩
      simp [intOf]; omega
    · obtain rfl : mn = k := by omega
      have et : l2.take mn = l2 := List.take_of_length_le (by rw [LM.out]; exact Nat.le_refl _)
      have OGL : Hid (Has wr w.heap.size v' (allG i0 j0 newG0 (l1 ++ l2))) := by have h := OG.out; rw [et] at h; exact h
      have HML : Hid (Z.map (·.1) = allR i0 j0 newG0 (l1 ++ l2)) := by have h := HM1.out; rw [et] at h; exact h
      clear et OG HM1
      have FE : Hid (Few 140 (allG i0 j0 newG0 (l1 ++ l2))) := few_end (by rw [List.length_append]; have := LL.out; have := LM.out; omega)
      obtain ⟨GE, hGE⟩ : ∃ G, Hid (allG i0 j0 newG0 (l1 ++ l2) = G) := ⟨_, rfl⟩
      rw [hGE.out] at FE OGL OH
      have lens : ∀ {v : Gv}, Has wr w.heap.size v GE → v.N.n ≤ 17592186044416 ∧ v.E.n ≤ 17592186044416 := fun h => by have h1 := h.sees.nodes.1; have h2 := edges_len h.sees.edges; have h3 := FE.out.n; have h4 := FE.out.e; exact ⟨by omega, by omega⟩
      have L1 := hide (lens OGL.out)
      have L2 := hide (lens OH.out)
      clear lens
      have HPR : Hid (∀ j, j < GE.N.length → (GE.N.getD j (0, [])).2.length ≤ 17592186044416) := fun j hj => by have h1 := FE.out.prs j; have h2 : (prsAt GE j).length = (GE.N.getD j (0, [])).2.length := rfl; omega
      go_wp2_with (first | ((with_reducible refine ldG (.tmp 7) (g1) (0) ?_ ?_ v' ?_ ?_); (exact rfl); (exact rfl); (exact Hh.out.lies)) | ((with_reducible refine ldG (.tmp 9) (gx) (0) ?_ ?_ v2 ?_ ?_); (exact rfl); (exact rfl); (exact Hx.out.lies)))
      refine (same_any v' v2 GE GE true wr OGL.out.sees OH.out.sees L1.out.1 L1.out.2 L2.out.1 L2.out.2 HPR HPR ⟨fun _ => rfl, fun _ => rfl⟩).mono ?_
      rintro e w5 ⟨rfl, hb⟩
      have RO5 := hide (RO.out.step hb)
      have RH5 := hide (RH.out.step hb)
      have BW := hide (BW.out.trans (hb.mono BW.out.size))
      clear hb
      obtain rfl : n2 = n := by have h1 := RO.out.len; have h2 := RH.out.len; have h3 := congrArg List.length HML.out; have h4 := congrArg List.length HM2.out; simp only [List.length_map] at h3 h4; omega
      go_wp2_with fail
      refine (sameAll_yes A A2 n2 cp c2 w.heap.size w.heap.size Z Z2 w5 RO5.out RH5.out (by show _ = _; rw [HML.out, HM2.out]) (by omega) (by show ∀ r ∈ Z.map (·.1), Most r; rw [HML.out]; exact most_all _ few_new (by rw [List.length_append]; have := LL.out; have := LM.out; omega))).mono ?_
      rintro e w6 ⟨rfl, hb⟩
      have BW := hide (BW.out.trans (hb.mono BW.out.size))
      clear hb
      go_wp2
      go_ret
      exact ⟨rfl, BW.out⟩

set_option maxRecDepth 100000 in
theorem lifted (os : Os) (started : os.Started) (H : Type) (enc : TypeId × Value → H) :
    ReturnsInHanded {} Try.checked os 9 .any (Rows.applyPartsSpec.pre6 enc Try.prog Try.f9 Rows.applyPartsRow.domain false) (Rows.applyPartsSpec.post enc Try.prog Try.f9 false true false false) := by
  refine returnsInHanded_of_change (C := Try.checked) own started (by kernel_rfl) Try.func9
    (ChangeSpec.witness6 (enc := enc) (C := Try.checked) false ⟨#[], #[.agg #[.int .i64 0, .int .i64 0, .int .i64 0, .int .i64 0, .int .i64 0], .slice none 0 0, .slice none 0 0], []⟩ 8 (by kernel_rfl) (by kernel_rfl) (by kernel_rfl) (by kernel_rfl)) ?_
  intro W base args ds gs before hval0 hW hcnd _
  have hval : ∀ (j : Nat) t v, Try.f9.params[j]? = some t → args[j]? = some v → Value.okWide Try.prog W .any base t v := hval0
  have hW' := hW
  obtain ⟨p, q, hA0, hV, rfl, hfz, hnd⟩ := hW
  have hA : DataW.TrodAll enc Try.prog W 0 (fun _ => true) true Try.f9.params.toList args.toList ds p := hA0
  rw [Try.params9] at hA hval
  obtain ⟨x0, vs0, d0, ds0, p0_, q0, hargs, rfl, rfl, h0, r0_⟩ := trodAll_cons hA
  obtain ⟨x1, vs1, d1, ds1, p1_, q1, rfl, rfl, rfl, h1, r1_⟩ := trodAll_cons r0_
  obtain ⟨x2, vs2, d2, ds2, p2_, q2, rfl, rfl, rfl, h2, r2_⟩ := trodAll_cons r1_
  obtain ⟨rfl, rfl, rfl⟩ := trodAll_nil r2_
  obtain rfl : args = #[x0, x1, x2] := by cases args; simp_all
  obtain ⟨rfl, rfl⟩ := trodVars_none hV
  have lt0 : ∀ x ∈ p0_, x.block < W.heap.size := by obtain ⟨m, hm⟩ := h0; exact DataW.trod_lt m _ _ _ hm
  have lt1 : ∀ x ∈ p1_, x.block < W.heap.size := by obtain ⟨m, hm⟩ := h1; exact DataW.trod_lt m _ _ _ hm
  have lt2 : ∀ x ∈ p2_, x.block < W.heap.size := by obtain ⟨m, hm⟩ := h2; exact DataW.trod_lt m _ _ _ hm
  obtain ⟨n0, e0, p0, i0, j0, rfl⟩ := open_cfg (hval 0 23 x0 rfl rfl) h0
  obtain ⟨s1, l1, rfl, w1, m1, u1⟩ := open_ops (hval 1 69 x1 rfl rfl) h1
  obtain ⟨s2, l2, rfl, w2, m2, u2⟩ := open_ops (hval 2 69 x2 rfl rfl) h2
  clear hA0 hval0
  refine (walk n0 e0 p0 i0 j0 s1 l1 s2 l2 W w1 (by unfold maxLen at m1; omega) u1 w2 (by unfold maxLen at m2; omega) u2).mono fun e W' ⟨he, bel⟩ => ?_
  subst he
  exact ⟨_, rfl, _, _, _, [], _, [], hW', trodAll_mk1 (shut_bool Try.underlying4 _), (trodAll_cons_mk (Below.trod laidOut (by kernel_rfl) (of_decide_eq_true (by kernel_rfl)) h0 bel lt0) (trodAll_cons_mk (Below.trod laidOut (by kernel_rfl) (of_decide_eq_true (by kernel_rfl)) h1 bel lt1) (trodAll_cons_mk (Below.trod laidOut (by kernel_rfl) (of_decide_eq_true (by kernel_rfl)) h2 bel lt2) trodAll_mk0))), rfl, bel.frame _, fun h => by cases h⟩

theorem over : Rows.applyPartsRow.holds Try.pinned (OpenSpec.ofChange Rows.applyPartsSpec) :=
  OpenClaim.holds_of_wide 9 Try.f9 rfl rfl rfl rfl rfl rfl rfl ⟨rfl, rfl, rfl, rfl, rfl⟩ rfl rfl rfl rfl rfl (by kernel_rfl) Try.func9 (by kernel_rfl)
    (of_decide_eq_true (by kernel_rfl)) (by unfold Func.isWrapper; first | (rw [if_pos (by decide +kernel)]; kernel_rfl) | (rw [if_neg (by decide +kernel)]; exact ⟨rfl, rfl⟩))
    (fun os started H enc _ => lifted os started H enc)

end Go.Proofs.Ytiiadkjiofkonaa.applyParts

namespace Go.Proofs.Ytiiadkjiofkonaa
/-- The statement. -/
theorem applyParts_holds : Rows.ApplyPartsSaid := applyParts.over
#print axioms applyParts_holds
end Go.Proofs.Ytiiadkjiofkonaa
