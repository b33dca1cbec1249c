/- A node's edges: the document's answer. -/
import Derived.Test.YtiiadkjiofkonaaGreatGCopy
import Derived.Test.YtiiadkjiofkonaaGreatRLaws
import Derived.Test.YtiiadkjiofkonaaGreatGNear
import Derived.Test.YtiiadkjiofkonaaGreatGLink
import Derived.WalkKit
import Derived.Below
import Derived.Deep.QuietTactic
import Derived.BigQuiet
import Derived.Deep.AppendLies
import Derived.Deep.RegionHeld3
import Derived.Deep.DeepCutAuto
import Derived.Shelf.Abstract
namespace Go.Proofs.YtiiadkjiofkonaaGreat
open Go.RowKit
set_option linter.unusedVariables false

def outsE (E : List Ed) (n : Int) : List Pr := (E.filter fun d => d.2.1 == n).map fun d => (d.1, d.2.2)
def insE (E : List Ed) (n : Int) : List Pr := (E.filter fun d => d.2.2 == n).map fun d => (d.1, d.2.1)
section
variable {u : World} {B e s m k : Nat} {v : Value} {E : List Ed} {a z f t : Int}
theorem o_yes (hk : k < E.length) (hx : E.getD k (0, 0, 0) = (z, f, t)) (hq : f = a) (h : u.ownsRow B e s v m (ints (flat2 (outsE (E.take k) a)) ++ [.int .i64 z, .int .i64 t])) : Hid (u.ownsRow B e s v m (ints (flat2 (outsE (E.take (k + 1)) a)))) := by
  show u.ownsRow _ _ _ _ _ _
  have e1 : outsE (E.take (k + 1)) a = outsE (E.take k) a ++ [(z, t)] := by
    unfold outsE
    rw [getD_take (d := (0, 0, 0)) hk, hx]
    simp [hq]
  rw [e1, flat2_append]
  simpa [flat2] using h
theorem o_no (hk : k < E.length) (hx : E.getD k (0, 0, 0) = (z, f, t)) (hq : ¬ f = a) (h : u.ownsRow B e s v m (ints (flat2 (outsE (E.take k) a)))) : Hid (u.ownsRow B e s v m (ints (flat2 (outsE (E.take (k + 1)) a)))) := by
  show u.ownsRow _ _ _ _ _ _
  have e1 : outsE (E.take (k + 1)) a = outsE (E.take k) a := by
    unfold outsE
    rw [getD_take (d := (0, 0, 0)) hk, hx]
    simp [hq]
  rw [e1]
  exact h
theorem i_yes (hk : k < E.length) (hx : E.getD k (0, 0, 0) = (z, f, t)) (hq : t = a) (h : u.ownsRow B e s v m (ints (flat2 (insE (E.take k) a)) ++ [.int .i64 z, .int .i64 f])) : Hid (u.ownsRow B e s v m (ints (flat2 (insE (E.take (k + 1)) a)))) := by
  show u.ownsRow _ _ _ _ _ _
  have e1 : insE (E.take (k + 1)) a = insE (E.take k) a ++ [(z, f)] := by
    unfold insE
    rw [getD_take (d := (0, 0, 0)) hk, hx]
    simp [hq]
  rw [e1, flat2_append]
  simpa [flat2] using h
theorem i_no (hk : k < E.length) (hx : E.getD k (0, 0, 0) = (z, f, t)) (hq : ¬ t = a) (h : u.ownsRow B e s v m (ints (flat2 (insE (E.take k) a)))) : Hid (u.ownsRow B e s v m (ints (flat2 (insE (E.take (k + 1)) a)))) := by
  show u.ownsRow _ _ _ _ _ _
  have e1 : insE (E.take (k + 1)) a = insE (E.take k) a := by
    unfold insE
    rw [getD_take (d := (0, 0, 0)) hk, hx]
    simp [hq]
  rw [e1]
  exact h
end

set_option maxRecDepth 100000 in
set_option maxHeartbeats 4000000 in
theorem rnear_any (v : Gv) (G : GL) (o i : List Pr) (a er : Int) (w : World) (S : Sees w w.heap.size v G) (HS : Small G) (hr : Hid (nearR G a = (er, o, i))) :
    Calls Tryz.prog 38 #[v.val, .int .i64 a] w fun e w' => ∃ h k : Sl, e = .returned (.tuple #[.slice h.A h.n h.c, .slice k.A k.n k.c, .int .i64 er]) ∧ Hid (w'.ownsRow w.heap.size 85 2 (.slice h.A h.n h.c) h.n (ints (flat2 o))) ∧ Hid (w'.ownsRow w.heap.size 85 2 (.slice k.A k.n k.c) k.n (ints (flat2 i))) ∧ Hid (Below w.heap.size w w') := by
  obtain ⟨i0, hi0, hz0, hz1, hz2⟩ := info_parts info78
  have H1 := hide hi0
  have H2 := hide hz0
  have H3 := hide hz1
  have H4 := hide hz2
  clear hi0 hz0 hz1 hz2
  obtain ⟨⟨nA, nn, nc⟩, ⟨eA, en, ec⟩, x, y⟩ := v
  show Calls Tryz.prog 38 #[.agg #[.slice nA nn nc, .slice eA en ec, .int .i64 x, .int .i64 y], .int .i64 a] w _
  have SW := hide S
  have ln := S.nodes.1
  have le := edges_len S.edges
  dsimp only at ln le
  have hnn : nn ≤ 1000 := by have := HS.n; omega
  have hen : en ≤ 1000 := by have := HS.e; omega
  have LE := hide le
  clear S HS ln le
  obtain ⟨r, Hr⟩ : ∃ r, Hid (atI G.N a = r) := ⟨_, rfl⟩
  obtain ⟨W, hW⟩ : ∃ W, Hid (w.alloc (.cells #[.slice nA nn nc, .slice eA en ec, .int .i64 x, .int .i64 y] 27) = W) := ⟨_, rfl⟩
  have BW : Hid (Below w.heap.size w W) := by show Below _ _ _; rw [← hW.out]; exact (Below.refl _ _).alloc (Nat.le_refl _) _
  have HW : Hid (W.heap[w.heap.size]? = some (.cells #[.slice nA nn nc, .slice eA en ec, .int .i64 x, .int .i64 y] 27 (0, 0))) := by show _ = _; rw [← hW.out]; exact heap_alloc_new w _
  go_enter Tryz.func38, Tryz.ntmps38
  go_wp2_with fail
  have hW' := hW.out
  rw [hW']
  clear hW hW'
  refine (at_any ⟨⟨nA, nn, nc⟩, ⟨eA, en, ec⟩, x, y⟩ G a r _ ((SW.out.below BW.out (Nat.le_refl _)).more BW.out.size) (by dsimp only; omega) Hr).mono ?_
  rintro e u1 ⟨rfl, hb1⟩
  have HW1 := hide (bx_step HW.out hb1)
  have BW := hide (BW.out.trans (hb1.mono BW.out.size))
  clear hb1 HW
  by_cases t : r < 0
  · have t1 : decide (r < 0) = true := by simpa using t
    have HR : Hid ((2, [], []) = (er, o, i)) := by show _ = _; rw [← hr.out]; exact (nearR_none (by rw [isN_at, Hr.out]; simpa using t)).symm
    obtain ⟨rfl, rfl, rfl⟩ : 2 = er ∧ [] = o ∧ [] = i := by have := HR.out; simp only [Prod.mk.injEq] at this; exact this
    go_wp2
    exact bodyPost_ret (results_tmp3 rfl _ _ _) rfl ⟨noSl, noSl, rfl, Ends_none _ _, Ends_none _ _, BW⟩
  · have t1 : decide (r < 0) = false := by simpa using t
    have HR : Hid ((0, outs G a, ins G a) = (er, o, i)) := by show _ = _; rw [← hr.out]; exact (nearR_ok (by rw [isN_at, Hr.out]; simpa using t)).symm
    obtain ⟨rfl, rfl, rfl⟩ : 0 = er ∧ outs G a = o ∧ ins G a = i := by have := HR.out; simp only [Prod.mk.injEq] at this; exact this
    clear HR hr t
    obtain ⟨k1, -, l1⟩ := bx_all HW1.out
    go_wp2
    clear k1 l1 HW1 t1
    go_loopw [7, 8, 18] (fun p q j wr => ∃ (k m1 m2 : Nat) (A1 A2 : Option Addr) (c1 c2 : Nat), k ≤ en ∧ j = .int .i64 k ∧ p = .slice A1 m1 c1 ∧ q = .slice A2 m2 c2 ∧ m1 ≤ k ∧ m2 ≤ k ∧ Hid (A1 = none → c1 = 0) ∧ Hid (A2 = none → c2 = 0) ∧ Hid (wr.ownsRow w.heap.size 85 2 (.slice A1 m1 c1) m1 (ints (flat2 (outsE (G.E.take k) a)))) ∧ Hid (wr.ownsRow w.heap.size 85 2 (.slice A2 m2 c2) m2 (ints (flat2 (insE (G.E.take k) a)))) ∧ Hid (Apt (.slice A1 m1 c1) (.slice A2 m2 c2)) ∧ Hid (Below w.heap.size w wr))
      (fun _ _ j _ => en - (intOf j).toNat)
    case atStart => exact ⟨0, 0, 0, none, none, 0, 0, by omega, rfl, rfl, rfl, by omega, by omega, fun _ => rfl, fun _ => rfl, World.ownsRow_nil _ _ _ _, World.ownsRow_nil _ _ _ _, apt_none _, BW⟩
    case round =>
      clear BW
      obtain ⟨k, m1, m2, A1, A2, c1, c2, hk, rfl, rfl, rfl, hm1, hm2, HA1, HA2, R1, R2, AP, HB⟩ := hrel
      by_cases hlt : k < en
      · obtain ⟨b0, off, e0, hb0, d0, d1, d2⟩ := edge_at (SW.out.edges.below HB.out (Nat.le_refl _)) hlt
        dsimp only at e0
        subst e0
        obtain ⟨z, hz⟩ : ∃ z, Hid ((G.E.getD k (0, 0, 0)).1 = z) := ⟨_, rfl⟩
        obtain ⟨f, hf⟩ : ∃ z, Hid ((G.E.getD k (0, 0, 0)).2.1 = z) := ⟨_, rfl⟩
        obtain ⟨t, ht⟩ : ∃ z, Hid ((G.E.getD k (0, 0, 0)).2.2 = z) := ⟨_, rfl⟩
        rw [hz.out] at d0
        rw [hf.out] at d1
        rw [ht.out] at d2
        have HX0 : Hid (G.E.getD k (0, 0, 0) = (z, f, t)) := Prod.ext hz.out (Prod.ext hf.out ht.out)
        have HK : Hid (k < G.E.length) := by have := LE.out; show _ < _; omega
        clear hz hf ht
        obtain ⟨U, hU⟩ : ∃ U, Hid (wr.alloc (.cells #[.int .i64 z, .int .i64 f, .int .i64 t] 79) = U) := ⟨_, rfl⟩
        obtain ⟨gn, hgn⟩ : ∃ g, Hid (wr.heap.size = g) := ⟨_, rfl⟩
        have BU : Hid (Below wr.heap.size wr U) := by show Below _ _ _; rw [← hU.out]; exact (Below.refl _ _).alloc (Nat.le_refl _) _
        have HX : Hid (U.heap[gn]? = some (.cells #[.int .i64 z, .int .i64 f, .int .i64 t] 79 (0, 0))) := by show _ = _; rw [← hU.out, ← hgn.out]; exact heap_alloc_new _ _
        have BB := hide (HB.out.trans (BU.out.mono HB.out.size))
        have RU1 := hide (own_below R1.out BU.out)
        have RU2 := hide (own_below R2.out BU.out)
        go_upto_region 7 with fail
        have hU' := hU.out
        have hg' := hgn.out
        rw [hU', hg']
        clear hU hgn hU' hg' d0 d1 d2 R1 R2 HB BU
        obtain ⟨m0, -, n0⟩ := bx_all HX.out
        by_cases e1 : f = a
        · have t1 : (f == a) = true := by simpa using e1
          have E1 := hide e1
          clear e1
          go_upto_region 8 with fail
          go_cut [7] (fun p wx => ∃ g1 q1, p = .slice (some ⟨g1, 0, none⟩) (m1 + 1) q1 ∧ Hid (wx.ownsRow w.heap.size 85 2 (.slice (some ⟨g1, 0, none⟩) (m1 + 1) q1) (m1 + 1) (ints (flat2 (outsE (G.E.take (k + 1)) a)))) ∧ Hid (wx.ownsRow w.heap.size 85 2 (.slice A2 m2 c2) m2 (ints (flat2 (insE (G.E.take k) a)))) ∧ Hid (Apt (.slice (some ⟨g1, 0, none⟩) (m1 + 1) q1) (.slice A2 m2 c2)) ∧ Hid (Below w.heap.size w wx) ∧ Hid (wx.heap[gn]? = some (.cells #[.int .i64 z, .int .i64 f, .int .i64 t] 79 (0, 0))))
          case first =>
            go_wp2_with (at_builtin; refine wpList_append_lies _ rfl _ _ 35 rfl w.heap.size 85 i0 (.agg #[.int .i64 0, .int .i64 0]) 2 16 Tryz.underlying35 H1.out H2.out H3.out H4.out rfl (by decide) _ m1 _ rfl (RU1.out.alloc _) ⟨U.heap.size, 0, none⟩ 1 1 [.int .i64 z, .int .i64 t] rfl rfl (cells_new _ _ _ _ (by simp)) (two_cells z t) (by decide) (by simp only [maxLen]; omega) (by omega) (by have := BB.out.size; simp; omega) _ rfl ?_; intro g1 q1 w2 hown hg hat hlt2; have BN := hide (grow_below RU1.out hg BB.out BB.out.size); have RN2 := hide (grow_same hg RU2.out AP.out); have RN1 := hide (o_yes HK.out HX0.out E1.out hown); have AN := hide (apt_new (n' := m1 + 1) (c' := q1) RU2.out AP.out hat (by simp)); have HN := hide (grow_box RU1.out hg HX.out (by decide)); clear hown hg hat)
            go_meet
            exact ⟨g1, q1, rfl, RN1.out, RN2, AN, BN, HN⟩
          case rest =>
            obtain ⟨g0, q0, rfl, RV1, RV2, AV, BV, HV⟩ := hcut
            clear RU1 RU2 AP BB HX m0 n0
            obtain ⟨m0, -, n0⟩ := bx_all HV.out
            by_cases e2 : t = a
            · have t2 : (t == a) = true := by simpa using e2
              have E2 := hide e2
              clear e2
              go_wp2_with (at_builtin; refine wpList_append_lies _ rfl _ _ 35 rfl w.heap.size 85 i0 (.agg #[.int .i64 0, .int .i64 0]) 2 16 Tryz.underlying35 H1.out H2.out H3.out H4.out rfl (by decide) _ m2 _ rfl (RV2.out.alloc _) ⟨wc.heap.size, 0, none⟩ 1 1 [.int .i64 z, .int .i64 f] rfl rfl (cells_new _ _ _ _ (by simp)) (two_cells z f) (by decide) (by simp only [maxLen]; omega) (by omega) (by have := BV.out.size; simp; omega) _ rfl ?_; intro g1 q1 w2 hown hg hat hlt2; have BN := hide (grow_below RV2.out hg BV.out BV.out.size); have RN1 := hide (grow_same hg RV1.out AV.out.symm); have RN2 := hide (i_yes HK.out HX0.out E2.out hown); have AN := hide ((apt_new (n' := m2 + 1) (c' := q1) RV1.out AV.out.symm hat (by simp)).symm); clear hown hg hat)
              go_roundw
              case rel => exact ⟨k + 1, m1 + 1, m2 + 1, some ⟨g0, 0, none⟩, some ⟨g1, 0, none⟩, q0, q1, by omega, by go_num, rfl, rfl, by omega, by omega, (fun h => by cases h), (fun h => by cases h), RN1, RN2.out, AN, BN⟩
              case measure => simp [intOf]; omega
            · have t2 : (t == a) = false := by simpa using e2
              have RN2 := i_no HK.out HX0.out e2 RV2.out
              go_wp2
              go_roundw
              case rel => exact ⟨k + 1, m1 + 1, m2, some ⟨g0, 0, none⟩, A2, q0, c2, by omega, by go_num, rfl, rfl, by omega, by omega, (fun h => by cases h), HA2, RV1, RN2, AV, BV⟩
              case measure => simp [intOf]; omega
        · have t1 : (f == a) = false := by simpa using e1
          have RV1 := o_no HK.out HX0.out e1 RU1.out
          by_cases e2 : t = a
          · have t2 : (t == a) = true := by simpa using e2
            have E2 := hide e2
            clear e2
            go_wp2_with (at_builtin; refine wpList_append_lies _ rfl _ _ 35 rfl w.heap.size 85 i0 (.agg #[.int .i64 0, .int .i64 0]) 2 16 Tryz.underlying35 H1.out H2.out H3.out H4.out rfl (by decide) _ m2 _ rfl (RU2.out.alloc _) ⟨U.heap.size, 0, none⟩ 1 1 [.int .i64 z, .int .i64 f] rfl rfl (cells_new _ _ _ _ (by simp)) (two_cells z f) (by decide) (by simp only [maxLen]; omega) (by omega) (by have := BB.out.size; simp; omega) _ rfl ?_; intro g1 q1 w2 hown hg hat hlt2; have BN := hide (grow_below RU2.out hg BB.out BB.out.size); have RN1 := hide (grow_same hg RV1.out AP.out.symm); have RN2 := hide (i_yes HK.out HX0.out E2.out hown); have AN := hide ((apt_new (n' := m2 + 1) (c' := q1) RV1.out AP.out.symm hat (by simp)).symm); clear hown hg hat)
            go_roundw
            case rel => exact ⟨k + 1, m1, m2 + 1, A1, some ⟨g1, 0, none⟩, c1, q1, by omega, by go_num, rfl, rfl, by omega, by omega, HA1, (fun h => by cases h), RN1, RN2.out, AN, BN⟩
            case measure => simp [intOf]; omega
          · have t2 : (t == a) = false := by simpa using e2
            have RN2 := i_no HK.out HX0.out e2 RU2.out
            go_wp2
            go_roundw
            case rel => exact ⟨k + 1, m1, m2, A1, A2, c1, c2, by omega, by go_num, rfl, rfl, by omega, by omega, HA1, HA2, RV1, RN2, AP, BB⟩
            case measure => simp [intOf]; omega
      · obtain rfl : en = k := by omega
        go_wp2
        have h1 := R1.out
        have h2 := R2.out
        rw [List.take_of_length_le (by have := LE.out; omega)] at h1 h2
        exact bodyPost_ret (results_tmp3 rfl _ _ _) rfl ⟨⟨A1, m1, c1⟩, ⟨A2, m2, c2⟩, rfl, h1, h2, HB⟩

end Go.Proofs.YtiiadkjiofkonaaGreat
