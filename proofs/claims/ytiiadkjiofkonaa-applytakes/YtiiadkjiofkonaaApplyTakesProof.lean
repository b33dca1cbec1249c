/- An operation that takes a record makes one more of that kind, one that takes none makes none more of any. No condition. (The statement tendrillaw11.ApplyTakes.) -/
import Derived.Test.YtiiadkjiofkonaaRows
import Derived.Test.YtiiadkjiofkonaaAB4
import Derived.Test.YtiiadkjiofkonaaAB3
import Derived.Test.YtiiadkjiofkonaaAB1
import Derived.WalkKit
import Derived.Below
import Derived.Deep.QuietTactic
import Derived.BigQuiet
import Derived.Deep.AppendLies
import Derived.Deep.RegionHeld3
import Derived.Deep.DeepCutAuto
import Derived.Shelf.Abstract
namespace Go.Proofs.Ytiiadkjiofkonaa.applyTakes
open Go.Joins Go.ChangeShapes Go.WideShapes Go.ChangeAt Go.RowKit Go.Deep
set_option linter.unusedVariables false
theorem wrap_small {z : Int} (h : -1000000 ≤ z ∧ z ≤ 1000000) : IntKind.i64.wrap z = z := by simp [IntKind.wrap, IntKind.bits, IntKind.signed]; omega
set_option maxRecDepth 100000 in
set_option maxHeartbeats 8000000 in
theorem walk (n0 e0 p0 i0 j0 : Int) (v1 : Gv) (G1 : GL) (o2 : O5) (w : World) (w1 : Sees w w.heap.size v1 G1) (s1 : v1.N.n ≤ 9223372036854775807) (t1 : v1.E.n ≤ 9223372036854775807) (u1 : ∀ j, j < G1.N.length → (G1.N.getD j (0, [])).2.length ≤ 9223372036854775807) (w2 : (Lit.int .i64 o2.k).wf = true) :
    Calls Try.prog 8 #[.agg (fc n0 e0 p0 i0 j0), .agg (gc v1), .agg (oc o2)] w (Drew (.bool true) w) := by
  have SB := hide w1
  have HN := hide s1
  have HE := hide t1
  have HP := hide u1
  have HWF := hide w2
  clear w1 s1 t1 u1 w2
  obtain ⟨W, hW⟩ : ∃ W, Hid (((w.alloc (.cells ((fc n0 e0 p0 i0 j0)) 23)).alloc (.cells (gc v1) 27)).alloc (.cells (oc o2) 62) = W) := ⟨_, rfl⟩
  have BW : Hid (Below w.heap.size w W) := by show Below _ _ _; rw [← hW.out]; exact ((((Below.refl _ _).alloc (Nat.le_refl _) _).alloc (by simp) _).alloc (by simp; omega) _)
  have HC : Hid (Bx W (w.heap.size) ((fc n0 e0 p0 i0 j0)) 23) := by
    have h := (((Bx.new w ((fc n0 e0 p0 i0 j0)) 23).alloc (.cells (gc v1) 27)).alloc (.cells (oc o2) 62))
    show Bx _ _ _ _
    rw [← hW.out]
    simpa using h
  have HG : Hid (Bx W (w.heap.size + 1) (gc v1) 27) := by
    have h := ((Bx.new (w.alloc (.cells ((fc n0 e0 p0 i0 j0)) 23)) (gc v1) 27).alloc (.cells (oc o2) 62))
    show Bx _ _ _ _
    rw [← hW.out]
    simpa using h
  have HO : Hid (Bx W (w.heap.size + 2) (oc o2) 62) := by
    have h := (Bx.new ((w.alloc (.cells ((fc n0 e0 p0 i0 j0)) 23)).alloc (.cells (gc v1) 27)) (oc o2) 62)
    show Bx _ _ _ _
    rw [← hW.out]
    simpa using h
  go_enter Try.func8, Try.ntmps8
  go_upto_region 1 with fail
  have hW' := hW.out
  rw [hW']
  clear hW hW'
  go_wp2_with fail
  refine (alive_any W).mono ?_
  rintro e u1 ⟨rfl, hb⟩
  have HC := hide (HC.out.step hb)
  have HG := hide (HG.out.step hb)
  have HO := hide (HO.out.step hb)
  have BW := hide (BW.out.trans (hb.mono BW.out.size))
  clear hb
  go_wp2_with (first | ((with_reducible refine ldC (.tmp 3) (w.heap.size) (0) ?_ ?_ n0 e0 p0 i0 j0 ?_ ?_); (exact rfl); (exact rfl); (exact HC.out.lies)) | ((with_reducible refine ldG (.tmp 4) (w.heap.size + 1) (0) ?_ ?_ v1 ?_ ?_); (exact rfl); (exact rfl); (exact HG.out.lies)))
  obtain ⟨q, hq⟩ := bool_of (FewG G1 ∧ Okg n0 e0 p0 i0 j0 G1)
  have HQ := hide hq
  clear hq
  refine (amay_any n0 e0 p0 i0 j0 v1 G1 q u1 (sees_at SB.out BW.out) HN.out HE.out HP.out HQ).mono ?_
  rintro e u2 ⟨rfl, hb⟩
  have HC := hide (HC.out.step hb)
  have HG := hide (HG.out.step hb)
  have HO := hide (HO.out.step hb)
  have BW := hide (BW.out.trans (hb.mono BW.out.size))
  clear hb
  cases q
  · go_wp2
    go_ret
    exact ⟨rfl, BW.out⟩
  have HK : Hid (Okg n0 e0 p0 i0 j0 G1) := (HQ.out.1 rfl).2
  have HF : Hid (Few 64 G1) := HK.out.few
  have H140 : Hid (Few 140 G1) := HF.out.more (by decide)
  clear HQ HN HE HP
  go_wp2_with (first | ((with_reducible refine ldC (.tmp 3) (w.heap.size) (0) ?_ ?_ n0 e0 p0 i0 j0 ?_ ?_); (exact rfl); (exact rfl); (exact HC.out.lies)) | ((with_reducible refine ldG (.tmp 4) (w.heap.size + 1) (0) ?_ ?_ v1 ?_ ?_); (exact rfl); (exact rfl); (exact HG.out.lies)) | ((with_reducible refine ldO (.tmp 5) (w.heap.size + 2) (0) ?_ ?_ o2 ?_ ?_); (exact rfl); (exact rfl); (exact HO.out.lies)))
  refine (do_any n0 e0 p0 i0 j0 v1 G1 o2 u2 (sees_at SB.out BW.out) H140.out HWF.out).mono ?_
  rintro e u3 ⟨v', s', rfl, hm, -, hb⟩
  have OG : Hid (Has u3 w.heap.size v' (doR i0 j0 G1 o2).1) := hm.out.less BW.out.size
  clear hm
  have HC := hide (HC.out.step hb.out)
  have HG := hide (HG.out.step hb.out)
  have HO := hide (HO.out.step hb.out)
  have BW := hide (BW.out.trans (hb.out.mono BW.out.size))
  clear hb
  have Hh : Hid (Bx ((u3.alloc (.cells (#[.slice none 0 0, .slice none 0 0, .int .i64 0, .int .i64 0]) 27)).alloc (.cells (#[.int .i64 0, .int .i64 0, .slice none 0 0, .slice none 0 0, .slice none 0 0]) 64)) u3.heap.size (#[.slice none 0 0, .slice none 0 0, .int .i64 0, .int .i64 0]) 27) := (Bx.new u3 (#[.slice none 0 0, .slice none 0 0, .int .i64 0, .int .i64 0]) 27).alloc _
  have Hq : Hid (Bx (((u3.alloc (.cells (#[.slice none 0 0, .slice none 0 0, .int .i64 0, .int .i64 0]) 27)).alloc (.cells (#[.int .i64 0, .int .i64 0, .slice none 0 0, .slice none 0 0, .slice none 0 0]) 64)).setRow u3.heap.size (gc v')) (u3.heap.size + 1) (#[.int .i64 0, .int .i64 0, .slice none 0 0, .slice none 0 0, .slice none 0 0]) 64) := by have h := Bx.new (u3.alloc (.cells (#[.slice none 0 0, .slice none 0 0, .int .i64 0, .int .i64 0]) 27)) (#[.int .i64 0, .int .i64 0, .slice none 0 0, .slice none 0 0, .slice none 0 0]) 64; exact Bx.far (by simpa using h) (by omega) _
  go_upto_region 7 with (first | ((with_reducible refine stG (.tmp 7) (.tmp 30) (u3.heap.size) ?_ v' ?_ (#[.slice none 0 0, .slice none 0 0, .int .i64 0, .int .i64 0]) ?_ ?_ ?_); (exact rfl); (exact rfl); (exact Hh.out); (exact rfl)) | ((with_reducible refine stR (.tmp 8) (.tmp 31) (u3.heap.size + 1) ?_ (doR i0 j0 G1 o2).2 s' ?_ (#[.int .i64 0, .int .i64 0, .slice none 0 0, .slice none 0 0, .slice none 0 0]) ?_ ?_ ?_); (exact rfl); (exact rfl); (exact Hq.out); (exact rfl)))
  obtain ⟨V, hV⟩ : ∃ V, Hid (((((u3.alloc (.cells (#[.slice none 0 0, .slice none 0 0, .int .i64 0, .int .i64 0]) 27)).alloc (.cells (#[.int .i64 0, .int .i64 0, .slice none 0 0, .slice none 0 0, .slice none 0 0]) 64)).setRow u3.heap.size (gc v')).setRow (u3.heap.size + 1) (rc (doR i0 j0 G1 o2).2 s')) = V) := ⟨_, rfl⟩
  obtain ⟨g1, hg1⟩ : ∃ g, Hid (u3.heap.size = g) := ⟨_, rfl⟩
  have BV : Hid (Below u3.heap.size u3 V) := by show Below _ _ _; rw [← hV.out]; exact row_below (row_below (((Below.refl _ _).alloc (Nat.le_refl _) _).alloc (by simp) _) (Nat.le_refl _) _) (by omega) _
  have Hh : Hid (Bx V g1 (gc v') 27) := by show Bx _ _ _ _; rw [← hV.out, ← hg1.out]; exact (Hh.out.put _).far (by omega) _
  have HC := hide (HC.out.step BV.out)
  have HG := hide (HG.out.step BV.out)
  have HO := hide (HO.out.step BV.out)
  have OG := hide (OG.out.step BV.out)
  have BW := hide (BW.out.trans (BV.out.mono BW.out.size))
  clear BV Hq
  have hV' := hV.out
  have hg' := hg1.out
  rw [hV', hg']
  clear hV hg1 hV' hg'
  obtain ⟨R, hR⟩ : ∃ R, Hid ((doR i0 j0 G1 o2).1 = R) := ⟨_, rfl⟩
  obtain ⟨kk, hkk⟩ : ∃ k, Hid (takesR i0 j0 G1 o2 = k) := ⟨_, rfl⟩
  have HR65 : Hid (Few 65 R) := by show Few _ _; rw [← hR.out]; exact few_do HF.out
  have OR : Hid (Has V w.heap.size v' R) := by have h := OG.out; rw [hR.out] at h; exact h
  clear OG
  obtain ⟨dn, de, dp, hM⟩ : ∃ dn de dp, Hid (More G1 R kk dn de dp) := by have h := takes_more (c3 := i0) (c4 := j0) (o := o2) HF.out; rw [hR.out, hkk.out] at h; exact h
  obtain ⟨⟨nA, nn, nc⟩, ⟨eA, en, ec⟩, x, y⟩ := v1
  obtain ⟨⟨xA, xn, xc⟩, ⟨yA, yn, yc⟩, x', y'⟩ := v'
  have S1 := hide (sees_at SB.out BW.out)
  have S2 := hide OR.out.sees
  have LN : Hid (G1.N.length = nn) := S1.out.nodes.1
  have LE : Hid (en = G1.E.length) := edges_len S1.out.edges
  have LX : Hid (R.N.length = xn) := S2.out.nodes.1
  have LY : Hid (yn = R.E.length) := edges_len S2.out.edges
  have b1 : nn ≤ 64 := by have := HF.out.n; have := LN.out; omega
  have b2 : en ≤ 64 := by have := HF.out.e; have := LE.out; omega
  have b3 : xn ≤ 65 := by have := HR65.out.n; have := LX.out; omega
  have b4 : yn ≤ 65 := by have := HR65.out.e; have := LY.out; omega
  have T1 : Hid (tot G1.N ≤ 64) := HF.out.p
  have T2 : Hid (tot R.N ≤ 65) := HR65.out.p
  have k0 := HG.out.g0
  have l0 := HG.out.lt
  have l1 := Hh.out.lt
  go_wp2
  clear k0 l0 l1
  go_loopw [9, 35] (fun p i wx => ∃ k : Nat, k ≤ nn ∧ i = .int .i64 k ∧ p = .int .i64 (propsN G1.N k : Nat) ∧ Hid (Below V.heap.size V wx)) (fun _ i _ => nn - (intOf i).toNat)
  case atStart => exact ⟨0, by omega, rfl, rfl, Below.refl _ _⟩
  case round =>
    obtain ⟨k, hk, rfl, rfl, HB⟩ := hrel
    by_cases hlt : k < nn
    · obtain ⟨b0, off, e, hb0, d0, ⟨hA, hh, hcc⟩, d1, hP⟩ := S1.out.nodes.at_ hlt
      dsimp only at e d1
      subst e
      have HK2 : Hid (k < G1.N.length) := by have := LN.out; show _ < _; omega
      have hhb : hh ≤ 100 := by have h1 := tot_get G1.N k; have h2 := T1.out; have := hP.len; dsimp only at this; omega
      have hpb : propsN G1.N k ≤ 100 := by have h1 := props_tot G1.N k; have h2 := T1.out; omega
      have HPS : Hid (propsN G1.N (k + 1) = propsN G1.N k + hh) := by
        show _ = _
        have e := hP.len
        dsimp only at e
        rw [propsN_succ HK2.out, e]
      obtain ⟨z, HZ⟩ : ∃ z, Hid ((G1.N.getD k (0, [])).1 = z) := ⟨_, rfl⟩
      rw [HZ.out] at d0
      have m0 := (HB.out.cell (p := ⟨b0, _, none⟩) hb0).trans d0
      have m1 := (HB.out.cell (p := ⟨b0, _, none⟩) hb0).trans d1
      clear d0 d1 hP hb0
      obtain ⟨pk, HPK⟩ : ∃ p, Hid (propsN G1.N k = p) := ⟨_, rfl⟩
      have HPK' := HPK.out
      rw [HPK'] at hpb HPS ⊢
      clear HPK'
      have BRA := fun o => hide (HB.out.alloc HB.out.size o)
      go_wp2
      go_roundw
      case rel => exact ⟨k + 1, by omega, by go_num, by rw [HPS.out]; go_num, BRA _⟩
      case measure => simp [intOf]; omega
    · obtain rfl : nn = k := by omega
      have HPA : Hid (propsN G1.N nn = tot G1.N) := by show _ = _; rw [← tot_props, LN.out]
      obtain ⟨ta, Hta⟩ : ∃ p, Hid (tot G1.N = p) := ⟨_, rfl⟩
      rw [HPA.out, Hta.out]
      clear HPA
      rename World => V2
      have HC := hide (HC.out.step HB.out)
      have HG := hide (HG.out.step HB.out)
      have HO := hide (HO.out.step HB.out)
      have Hh := hide (Hh.out.step HB.out)
      have OR := hide (OR.out.step HB.out)
      have BW := hide (BW.out.trans (HB.out.mono BW.out.size))
      clear HB S1 S2
      have S2 := hide OR.out.sees
      have k0 := Hh.out.g0
      have l0 := HG.out.lt
      have l1 := Hh.out.lt
      go_wp2
      clear k0 l0 l1
      go_loopw [10, 48] (fun p i wx => ∃ k : Nat, k ≤ xn ∧ i = .int .i64 k ∧ p = .int .i64 (propsN R.N k : Nat) ∧ Hid (Below V2.heap.size V2 wx)) (fun _ i _ => xn - (intOf i).toNat)
      case atStart => exact ⟨0, by omega, rfl, rfl, Below.refl _ _⟩
      case round =>
        obtain ⟨k, hk, rfl, rfl, HB⟩ := hrel
        by_cases hlt : k < xn
        · obtain ⟨b0, off, e, hb0, d0, ⟨hA, hh, hcc⟩, d1, hP⟩ := S2.out.nodes.at_ hlt
          dsimp only at e d1
          subst e
          have HK2 : Hid (k < R.N.length) := by have := LX.out; show _ < _; omega
          have hhb : hh ≤ 100 := by have h1 := tot_get R.N k; have h2 := T2.out; have := hP.len; dsimp only at this; omega
          have hpb : propsN R.N k ≤ 100 := by have h1 := props_tot R.N k; have h2 := T2.out; omega
          have HPS : Hid (propsN R.N (k + 1) = propsN R.N k + hh) := by
            show _ = _
            have e := hP.len
            dsimp only at e
            rw [propsN_succ HK2.out, e]
          obtain ⟨z, HZ⟩ : ∃ z, Hid ((R.N.getD k (0, [])).1 = z) := ⟨_, rfl⟩
          rw [HZ.out] at d0
          have m0 := (HB.out.cell (p := ⟨b0, _, none⟩) hb0).trans d0
          have m1 := (HB.out.cell (p := ⟨b0, _, none⟩) hb0).trans d1
          clear d0 d1 hP hb0
          obtain ⟨pk, HPK⟩ : ∃ p, Hid (propsN R.N k = p) := ⟨_, rfl⟩
          have HPK' := HPK.out
          rw [HPK'] at hpb HPS ⊢
          clear HPK'
          have BRA := fun o => hide (HB.out.alloc HB.out.size o)
          go_wp2
          go_roundw
          case rel => exact ⟨k + 1, by omega, by go_num, by rw [HPS.out]; go_num, BRA _⟩
          case measure => simp [intOf]; omega
        · obtain rfl : xn = k := by omega
          have HPA : Hid (propsN R.N xn = tot R.N) := by show _ = _; rw [← tot_props, LX.out]
          obtain ⟨tb, Htb⟩ : ∃ p, Hid (tot R.N = p) := ⟨_, rfl⟩
          rw [HPA.out, Htb.out]
          clear HPA
          rename World => V3
          have HC := hide (HC.out.step HB.out)
          have HG := hide (HG.out.step HB.out)
          have HO := hide (HO.out.step HB.out)
          have Hh := hide (Hh.out.step HB.out)
          have OR := hide (OR.out.step HB.out)
          have BW := hide (BW.out.trans (HB.out.mono BW.out.size))
          clear HB S2
          go_wp2_with (first | ((with_reducible refine ldC (.tmp 3) (w.heap.size) (0) ?_ ?_ n0 e0 p0 i0 j0 ?_ ?_); (exact rfl); (exact rfl); (exact HC.out.lies)) | ((with_reducible refine ldG (.tmp 4) (w.heap.size + 1) (0) ?_ ?_ ⟨⟨nA, nn, nc⟩, ⟨eA, en, ec⟩, x, y⟩ ?_ ?_); (exact rfl); (exact rfl); (exact HG.out.lies)) | ((with_reducible refine ldO (.tmp 5) (w.heap.size + 2) (0) ?_ ?_ o2 ?_ ?_); (exact rfl); (exact rfl); (exact HO.out.lies)))
          refine (takes_any n0 e0 p0 i0 j0 ⟨⟨nA, nn, nc⟩, ⟨eA, en, ec⟩, x, y⟩ G1 o2 V3 (sees_at SB.out BW.out) H140.out HWF.out).mono ?_
          rintro e V4 ⟨rfl, hb⟩
          rw [hkk.out]
          have HC := hide (HC.out.step hb)
          have HG := hide (HG.out.step hb)
          have HO := hide (HO.out.step hb)
          have Hh := hide (Hh.out.step hb)
          have OR := hide (OR.out.step hb)
          have BW := hide (BW.out.trans (hb.mono BW.out.size))
          clear hb
          go_upto_region 18 with fail
          have q0 := Hh.out.g0
          have q1 := Hh.out.g1
          have h0 := HG.out.g0
          have h1 := HG.out.g1
          have l0 := HG.out.lt
          have l1 := Hh.out.lt
          have M1 := hM.out.n
          have M2 := hM.out.e
          have M3 := hM.out.p
          have M4 := hide hM.out.c
          rw [LX.out, LN.out] at M1
          rw [← LY.out, ← LE.out] at M2
          rw [Htb.out, Hta.out] at M3
          have hta : ta ≤ 64 := by have := T1.out; have := Hta.out; omega
          have htb : tb ≤ 65 := by have := T2.out; have := Htb.out; omega
          have i1 : IntKind.i64.wrap ((xn : Int) - (nn : Int)) = dn := by rw [M1]; exact wrap_small (by omega)
          have i2 : IntKind.i64.wrap ((yn : Int) - (en : Int)) = de := by rw [M2]; exact wrap_small (by omega)
          have i3 : IntKind.i64.wrap ((tb : Int) - (ta : Int)) = dp := by rw [M3]; exact wrap_small (by omega)
          clear M1 M2 M3 hM
          go_quiet (fail)
          clear q0 q1 h0 h1 l0 l1 i1 i2 i3
          have BW4 := hide (Below.drewN BW.out nq)
          rcases M4.out with ⟨rfl, rfl, rfl, rfl⟩ | ⟨rfl, rfl, rfl, rfl⟩ | ⟨rfl, rfl, rfl, rfl⟩ | ⟨rfl, m1, m2, m3⟩
          · go_wp2
            go_ret
            exact ⟨rfl, BW4.out⟩
          · go_wp2
            go_ret
            exact ⟨rfl, BW4.out⟩
          · go_wp2
            go_ret
            exact ⟨rfl, BW4.out⟩
          · have t1 : decide (0 < dn) = false := by simp; omega
            have t2 : decide (0 < de) = false := by simp; omega
            have t3 : decide (0 < dp) = false := by simp; omega
            have t4 : decide (dn ≤ 1) = true := by simp; omega
            have t5 : decide (de ≤ 1) = true := by simp; omega
            have t6 : decide (dp ≤ 1) = true := by simp; omega
            clear m1 m2 m3
            go_wp2
            go_ret
            exact ⟨rfl, BW4.out⟩

set_option maxRecDepth 100000 in
theorem lifted (os : Os) (started : os.Started) (H : Type) (enc : TypeId × Value → H) :
    ReturnsInHanded {} Try.checked os 8 .any (Rows.applyTakesSpec.pre6 enc Try.prog Try.f8 Rows.applyTakesRow.domain false) (Rows.applyTakesSpec.post enc Try.prog Try.f8 false true false false) := by
  refine returnsInHanded_of_change (C := Try.checked) own started (by kernel_rfl) Try.func8
    (ChangeSpec.witness6 (enc := enc) (C := Try.checked) false ⟨#[], #[.agg #[.int .i64 0, .int .i64 0, .int .i64 0, .int .i64 0, .int .i64 0], .agg #[.slice none 0 0, .slice none 0 0, .int .i64 0, .int .i64 0], .agg #[.int .i64 0, .int .i64 0, .int .i64 0, .int .i64 0, .int .i64 0]], []⟩ 8 (by kernel_rfl) (by kernel_rfl) (by kernel_rfl) (by kernel_rfl)) ?_
  intro W base args ds gs before hval0 hW hcnd _
  have hval : ∀ (j : Nat) t v, Try.f8.params[j]? = some t → args[j]? = some v → Value.okWide Try.prog W .any base t v := hval0
  have hW' := hW
  obtain ⟨p, q, hA0, hV, rfl, hfz, hnd⟩ := hW
  have hA : DataW.TrodAll enc Try.prog W 0 (fun _ => true) true Try.f8.params.toList args.toList ds p := hA0
  rw [Try.params8] at hA hval
  obtain ⟨x0, vs0, d0, ds0, p0_, q0, hargs, rfl, rfl, h0, r0_⟩ := trodAll_cons hA
  obtain ⟨x1, vs1, d1, ds1, p1_, q1, rfl, rfl, rfl, h1, r1_⟩ := trodAll_cons r0_
  obtain ⟨x2, vs2, d2, ds2, p2_, q2, rfl, rfl, rfl, h2, r2_⟩ := trodAll_cons r1_
  obtain ⟨rfl, rfl, rfl⟩ := trodAll_nil r2_
  obtain rfl : args = #[x0, x1, x2] := by cases args; simp_all
  obtain ⟨rfl, rfl⟩ := trodVars_none hV
  have lt0 : ∀ x ∈ p0_, x.block < W.heap.size := by obtain ⟨m, hm⟩ := h0; exact DataW.trod_lt m _ _ _ hm
  have lt1 : ∀ x ∈ p1_, x.block < W.heap.size := by obtain ⟨m, hm⟩ := h1; exact DataW.trod_lt m _ _ _ hm
  have lt2 : ∀ x ∈ p2_, x.block < W.heap.size := by obtain ⟨m, hm⟩ := h2; exact DataW.trod_lt m _ _ _ hm
  obtain ⟨n0, e0, p0, i0, j0, rfl⟩ := open_cfg (hval 0 23 x0 rfl rfl) h0
  obtain ⟨v1, G1, rfl, w1, s1, t1, u1, -, -⟩ := open_graph (hval 1 27 x1 rfl rfl) h1
  obtain ⟨o2, rfl, w2⟩ := open_op (hval 2 62 x2 rfl rfl) h2
  clear hA0 hval0
  refine (walk n0 e0 p0 i0 j0 v1 G1 o2 W w1 s1 t1 u1 w2).mono fun e W' ⟨he, bel⟩ => ?_
  subst he
  exact ⟨_, rfl, _, _, _, [], _, [], hW', trodAll_mk1 (shut_bool Try.underlying4 _), (trodAll_cons_mk (Below.trod laidOut (by kernel_rfl) (of_decide_eq_true (by kernel_rfl)) h0 bel lt0) (trodAll_cons_mk (Below.trod laidOut (by kernel_rfl) (of_decide_eq_true (by kernel_rfl)) h1 bel lt1) (trodAll_cons_mk (Below.trod laidOut (by kernel_rfl) (of_decide_eq_true (by kernel_rfl)) h2 bel lt2) trodAll_mk0))), rfl, bel.frame _, fun h => by cases h⟩

theorem over : Rows.applyTakesRow.holds Try.pinned (OpenSpec.ofChange Rows.applyTakesSpec) :=
  OpenClaim.holds_of_wide 8 Try.f8 rfl rfl rfl rfl rfl rfl rfl ⟨rfl, rfl, rfl, rfl, rfl⟩ rfl rfl rfl rfl rfl (by kernel_rfl) Try.func8 (by kernel_rfl)
    (of_decide_eq_true (by kernel_rfl)) (by unfold Func.isWrapper; first | (rw [if_pos (by decide +kernel)]; kernel_rfl) | (rw [if_neg (by decide +kernel)]; exact ⟨rfl, rfl⟩))
    (fun os started H enc _ => lifted os started H enc)

end Go.Proofs.Ytiiadkjiofkonaa.applyTakes

namespace Go.Proofs.Ytiiadkjiofkonaa
/-- The statement. -/
theorem applyTakes_holds : Rows.ApplyTakesSaid := applyTakes.over
#print axioms applyTakes_holds
end Go.Proofs.Ytiiadkjiofkonaa
