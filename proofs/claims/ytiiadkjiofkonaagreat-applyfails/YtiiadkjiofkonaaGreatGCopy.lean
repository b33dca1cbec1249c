/- A graph's own copy: the document's answer. -/
import Derived.Test.YtiiadkjiofkonaaGreatGCp
import Derived.WalkKit
import Derived.Below
import Derived.Deep.QuietTactic
import Derived.BigQuiet
import Derived.Deep.RegionHeld3
import Derived.Deep.RegionLaw
import Derived.Laws.Rows
namespace Go.Proofs.YtiiadkjiofkonaaGreat
open Go.RowKit
set_option linter.unusedVariables false

set_option maxRecDepth 100000 in
set_option maxHeartbeats 4000000 in
theorem copy_any (v : Gv) (G : GL) (w : World) (S : Sees w w.heap.size v G) (hn : v.N.n ≤ 1000) (he : v.E.n ≤ 1000) (hp : Hid (∀ j, j < G.N.length → (G.N.getD j (0, [])).2.length ≤ 1000)) :
    Calls Tryz.prog 10 #[v.val] w fun e w' => ∃ v' L, e = .returned (Gv.val v') ∧ Hid (Own w' w.heap.size v' G L) ∧ Hid (Below w.heap.size w w') := by
  obtain ⟨⟨nA, nn, nc⟩, ⟨eA, en, ec⟩, x, y⟩ := v
  show Calls Tryz.prog 10 #[.agg #[.slice nA nn nc, .slice eA en ec, .int .i64 x, .int .i64 y]] w _
  have SN := hide S.nodes
  have SE := hide S.edges
  have LN := hide S.nodes.1
  have CE := hide S.cap
  have EX := hide S.x
  have EY := hide S.y
  have TW := hide (Two.new w ⟨⟨nA, nn, nc⟩, ⟨eA, en, ec⟩, x, y⟩ ⟨⟨none, 0, 0⟩, ⟨none, 0, 0⟩, 0, 0⟩)
  have BW := hide (boxed2 w (.cells #[.slice nA nn nc, .slice eA en ec, .int .i64 x, .int .i64 y] 27) (.cells #[.slice none 0 0, .slice none 0 0, .int .i64 0, .int .i64 0] 27))
  have HS : Hid (((w.alloc (.cells #[.slice nA nn nc, .slice eA en ec, .int .i64 x, .int .i64 y] 27)).alloc (.cells #[.slice none 0 0, .slice none 0 0, .int .i64 0, .int .i64 0] 27)).heap.size = w.heap.size + 2) := by show _ = _; simp
  dsimp only at hn he LN CE EX EY
  clear S
  go_enter Tryz.func10, Tryz.ntmps10
  go_wp2
  generalize ((w.alloc (.cells #[.slice nA nn nc, .slice eA en ec, .int .i64 x, .int .i64 y] 27)).alloc (.cells #[.slice none 0 0, .slice none 0 0, .int .i64 0, .int .i64 0] 27)) = W at TW BW HS ⊢
  have hg : ∀ i, W.cell? ⟨w.heap.size, i, none⟩ = (#[.slice nA nn nc, .slice eA en ec, .int .i64 x, .int .i64 y] : Array Value)[i]? := TW.out.c1
  have hl : w.heap.size < W.heap.size := by have := HS.out; omega
  have NE := hide (SE.out.below BW.out (Nat.le_refl _))
  have RD : Hid (∀ u, Hid (Below W.heap.size W u) → (u.cell? ⟨w.heap.size, 2, none⟩ = some (.int .i64 x) ∧ u.cell? ⟨w.heap.size, 3, none⟩ = some (.int .i64 y) ∧ u.cell? ⟨w.heap.size, 1, none⟩ = some (.slice eA en ec) ∧ Hid (Below W.heap.size W u))) := fun u hu => ⟨(hu.out.cell (p := ⟨_, _, none⟩) hl).trans (hg 2), (hu.out.cell (p := ⟨_, _, none⟩) hl).trans (hg 3), (hu.out.cell (p := ⟨_, _, none⟩) hl).trans (hg 1), hu⟩
  have D0 := hide ((Below.refl W.heap.size W).drew)
  have D1 := hide (below_al (o := .cells #[.slice none 0 0, .slice none 0 0, .int .i64 0, .int .i64 0] 27) D0.out (Nat.le_refl _))
  have N0 := hide (NE.out.below D0.out (by have := HS.out; omega))
  have N1 := hide (NE.out.below D1.out (by have := HS.out; omega))
  have K1 : Hid (0 + en ≤ 1000000) := by show _ ≤ _; omega
  have K2 : Hid (W.heap.size ≤ (W.drew.alloc (.cells #[.slice none 0 0, .slice none 0 0, .int .i64 0, .int .i64 0] 27)).heap.size) := by show _ ≤ _; simp
  go_region_held3 (fun u => u.cell? ⟨w.heap.size, 2, none⟩ = some (.int .i64 x) ∧ u.cell? ⟨w.heap.size, 3, none⟩ = some (.int .i64 y) ∧ u.cell? ⟨w.heap.size, 1, none⟩ = some (.slice eA en ec) ∧ Hid (Below W.heap.size W u))
    (first | exact RD.out _ D0 | exact RD.out _ D1 | exact RD.out _ (by assumption) | exact RD.out _ (hide (set4_below (Hid.out (by assumption)) (Nat.le_refl _) _ _ _ _)) | exact RD.out _ (hide (below_al (Hid.out (by assumption)) (Nat.le_refl _))))
    (first
      | ((refine step_row W.drew 25 79 3 24 (.agg #[.int .i64 0, .int .i64 0, .int .i64 0]) (by rfl) _ _ (by rfl) Tryz.underlying25 info80 (by rfl) (by decide) (by decide) W.heap.size none 0 0 [] (by rfl) (World.ownsRow_nil _ _ _ _) eA en ec _ (by rfl) CE.out (nums_len N0.out) (nums_news N0.out) (nums_nil N0.out) (ints_oneCell _ _) K1.out (Nat.le_refl _) ?_; intro A1 c1 x1 O1 G1 _; have BU := hide (D0.out.grown G1 (Nat.le_refl _) (fun j hj => by cases hj))))
      | ((refine step_row (W.drew.alloc (.cells #[.slice none 0 0, .slice none 0 0, .int .i64 0, .int .i64 0] 27)) 25 79 3 24 (.agg #[.int .i64 0, .int .i64 0, .int .i64 0]) (by rfl) _ _ (by rfl) Tryz.underlying25 info80 (by rfl) (by decide) (by decide) W.heap.size none 0 0 [] (by rfl) (World.ownsRow_nil _ _ _ _) eA en ec _ (by rfl) CE.out (nums_len N1.out) (nums_news N1.out) (nums_nil N1.out) (ints_oneCell _ _) K1.out K2.out ?_; intro A1 c1 x1 O1 G1 _; have BU := hide (D1.out.grown G1 K2.out (fun j hj => by cases hj)); have HB0 := hide (zero_row G1); have HZ := hide (zero_box G1); have hz := HZ.out.1; have fz := HZ.out.2.1; have hlz := HZ.out.2.2)))
  · have CP := hide (cp_first1 (x := x) (y := y) TW.out BW.out HS.out BU.out O1.out)
    generalize x1.heap.size = gO at CP ⊢
    generalize x1.alloc (.cells #[.slice none 0 0, .slice A1 en c1, .int .i64 x, .int .i64 y] 27) = U at CP ⊢
    clear TW BW HS BU O1 RD D0 D1 N0 N1 K1 K2 NE hg hl
    have hga : ∀ i, U.cell? ⟨w.heap.size, i, none⟩ = (#[.slice nA nn nc, .slice eA en ec, .int .i64 x, .int .i64 y] : Array Value)[i]? := fun i => cell_of_row U _ i _ 27 (0, 0) CP.out.ga
    have CPk := CP
    go_wp2
    clear hga
    go_loopw [17] (fun i wx => ∃ (k : Nat) (v : Gv) (L : List (Int × Sl)), k ≤ nn ∧ i = .int .i64 k ∧ Hid (Cp w wx gO v ⟨G.N.take k, G.E, x, y⟩ L ⟨⟨nA, nn, nc⟩, ⟨eA, en, ec⟩, x, y⟩)) (fun i _ => nn - (intOf i).toNat)
    case atStart => exact ⟨0, _, _, by omega, rfl, CP⟩
    case round =>
      clear CP CPk
      obtain ⟨k, ⟨⟨oA, on, oc⟩, ⟨pA, pn, pc⟩, x', y'⟩, L, hk, rfl, CP⟩ := hrel
      by_cases hlt : k < nn
      · obtain ⟨b, off, e, hb, hc0, ⟨hA, hh, hcc⟩, hc1, hP⟩ := (SN.out.below CP.out.bel (Nat.le_refl _)).at_ hlt
        dsimp only at e hc1
        subst e
        have HP := hide (hP.more CP.out.bel.size)
        have HHL := hide hP.len
        have HKN : Hid (k < G.N.length) := by have := LN.out; show _ < _; omega
        have hhb : hh ≤ 1000 := by have := hp.out k HKN.out; have := HHL.out; dsimp only at this; omega
        have onb : on ≤ 1000 := by have := CP.out.own.many; have := LN.out; simp at *; omega
        obtain ⟨z, HZ⟩ : ∃ z, Hid ((G.N.getD k (0, [])).1 = z) := ⟨_, rfl⟩
        rw [HZ.out] at hc0
        have i1 : (0 : Int) ≤ (k : Int) := by omega
        have i2 : (k : Int) < (nn : Int) := by omega
        have B5 := hide ((Below.refl wr.heap.size wr).alloc (Nat.le_refl _) (.cells #[.int .i64 z, .slice hA hh hcc] 61))
        have C5 := hide (CP.out.step B5.out)
        have D5 := hide ((Below.refl (wr.alloc (.cells #[.int .i64 z, .slice hA hh hcc] 61)).heap.size (wr.alloc (.cells #[.int .i64 z, .slice hA hh hcc] 61))).drew)
        have P5 := hide ((HP.out.below B5.out (Nat.le_refl _)).below D5.out (by simp))
        have cO : (wr.alloc (.cells #[.int .i64 z, .slice hA hh hcc] 61)).cell? ⟨gO, 0, none⟩ = some (.slice oA on oc) := (cell_of_row _ gO 0 _ 27 (0, 0) C5.out.box).trans rfl
        have K3 : Hid (0 + hh ≤ 1000000) := by show _ ≤ _; omega
        have K4 : Hid (on + 1 ≤ 1000000) := by show _ ≤ _; omega
        have K5 : Hid (w.heap.size ≤ (wr.alloc (.cells #[.int .i64 z, .slice hA hh hcc] 61)).drew.heap.size) := C5.out.bel.size
        clear hP SN
        go_wp2
        refine wp_region_noPanic ?_
        go_region_law (first
          | ((refine step_row (wr.alloc (.cells #[.int .i64 z, .slice hA hh hcc] 61)).drew 34 83 2 16 (.agg #[.int .i64 0, .int .i64 0]) (by rfl) _ _ (by rfl) Tryz.underlying34 info54 (by rfl) (by decide) (by decide) w.heap.size none 0 0 [] (by rfl) (World.ownsRow_nil _ _ _ _) hA hh hcc _ (by rfl) P5.out.2 (nums_len P5.out.1) (nums_news P5.out.1) (nums_nil P5.out.1) (ints_oneCell _ _) K3.out K5.out ?_; intro A3 c3 x3 O3 G3 _; have B3 := hide (D5.out.grown G3 (Nat.le_refl _) (fun j hj => by cases hj)); have C3 := hide (C5.out.step B3.out); have cO3 : x3.cell? ⟨gO, 0, none⟩ = some (.slice oA on oc) := (cell_of_row _ gO 0 _ 27 (0, 0) C3.out.box).trans rfl; have cO3' : ∀ o : Obj, (x3.alloc o).cell? ⟨gO, 0, none⟩ = some (.slice oA on oc) := fun o => (cell_of_row _ gO 0 _ 27 (0, 0) (C3.out.step ((Below.refl _ _).alloc (Nat.le_refl _) o)).box).trans rfl; have nb3 := node_cells B3.out; have nb0 := nb3.1; have nb1 := nb3.2; have O3' := hide (own_pairs O3.out); have BX := hide ((Below.refl x3.heap.size x3).alloc (Nat.le_refl _) (.cells #[.int .i64 z, .slice A3 hh c3] 61)); have CX := hide (C3.out.step BX.out); have OX := hide (own_below O3'.out BX.out); have RX : Hid ((x3.alloc (.cells #[.int .i64 z, .slice A3 hh c3] 61)).ownsRow w.heap.size 61 2 (.slice oA on oc) on (cellsN L)) := CX.out.own.rows; have NX := hide (news_new x3 #[.int .i64 z, .slice A3 hh c3] 61); have ZX := hide CX.out.bel.size; clear O3 G3 nb3))
          | ((refine step_row (x3.alloc (.cells #[.int .i64 z, .slice A3 hh c3] 61)) 24 61 2 32 (.agg #[.int .i64 0, .slice none 0 0]) (by rfl) _ _ (by rfl) Tryz.underlying24 info58 (by rfl) (by decide) (by decide) w.heap.size oA on oc (cellsN L) (by rfl) RX.out (some ⟨x3.heap.size, 0, none⟩) 1 1 [.int .i64 z, .slice A3 hh c3] (by rfl) (some_not _) (by rfl) NX.out (some_zero _) (node_one z A3 hh c3) K4.out ZX.out ?_; intro A4 c4 x4 O4 G4 _; have CM := hide (Cp.more CX.out HKN.out HZ.out OX.out O4.out G4); have fz4 := box_free CX.out G4; have cz4 := fz4.1; have fy4 := fz4.2; clear O4 G4 fz4)))
        all_goals (refine NoPanic.normal ?_)
        all_goals (clear B5 C5 D5 P5 cO K3 K4 K5 B3 C3 cO3 cO3' nb0 nb1 O3' BX CX OX RX NX ZX cz4 fy4 HP HHL HZ CP; go_wp2; go_roundw; (case rel => exact ⟨k + 1, _, _, by omega, by go_num, CM⟩); (case measure => simp [intOf]; omega))
      · have HQ := hide (copy_done (G := G) CP.out (by have := LN.out; omega) EX.out EY.out)
        have hbx : ∀ i, wr.cell? ⟨gO, i, none⟩ = (#[.slice oA on oc, .slice pA pn pc, .int .i64 x', .int .i64 y'] : Array Value)[i]? := fun i => cell_of_row wr _ i _ 27 (0, 0) CP.out.box
        have hrb : ∀ i, wr.cell? ⟨w.heap.size + 1, i, none⟩ = (#[.slice none 0 0, .slice none 0 0, .int .i64 0, .int .i64 0] : Array Value)[i]? := fun i => cell_of_row wr _ i _ 27 (0, 0) CP.out.rb
        have frb : ∀ i, wr.frozen? ⟨w.heap.size + 1, i, none⟩ = false := fun i => frozen_of_row wr _ i _ 27 CP.out.rb
        have hlb : gO < wr.heap.size := (Array.getElem?_eq_some_iff.1 CP.out.box).1
        have hlr : w.heap.size + 1 < wr.heap.size := (Array.getElem?_eq_some_iff.1 CP.out.rb).1
        go_wp2
        exact bodyPost_ret (results_cell_row rfl _ _ (w.heap.size + 1) 27 _ (0, 0) _ rfl HQ.out.1 Tryz.underlying27 rfl size27) rfl ⟨⟨⟨oA, on, oc⟩, ⟨pA, pn, pc⟩, x', y'⟩, L, rfl, HQ.out.2.1, HQ.out.2.2⟩
  · have CP := hide (cp_first2 (x := x) (y := y) TW.out BW.out HS.out BU.out O1.out HB0.out)
    generalize hU : ((((x1.setCell ⟨W.heap.size, 0, none⟩ (.slice none 0 0)).setCell ⟨W.heap.size, 1, none⟩ (.slice A1 en c1)).setCell ⟨W.heap.size, 2, none⟩ (.int .i64 x)).setCell ⟨W.heap.size, 3, none⟩ (.int .i64 y)) = U at CP ⊢
    clear hU
    generalize W.heap.size = gO at CP ⊢
    clear TW BW HS BU O1 RD D0 D1 N0 N1 K1 K2 NE hg hl
    have hga : ∀ i, U.cell? ⟨w.heap.size, i, none⟩ = (#[.slice nA nn nc, .slice eA en ec, .int .i64 x, .int .i64 y] : Array Value)[i]? := fun i => cell_of_row U _ i _ 27 (0, 0) CP.out.ga
    have CPk := CP
    go_wp2
    clear hga
    go_loopw [17] (fun i wx => ∃ (k : Nat) (v : Gv) (L : List (Int × Sl)), k ≤ nn ∧ i = .int .i64 k ∧ Hid (Cp w wx gO v ⟨G.N.take k, G.E, x, y⟩ L ⟨⟨nA, nn, nc⟩, ⟨eA, en, ec⟩, x, y⟩)) (fun i _ => nn - (intOf i).toNat)
    case atStart => exact ⟨0, _, _, by omega, rfl, CP⟩
    case round =>
      clear CP CPk
      obtain ⟨k, ⟨⟨oA, on, oc⟩, ⟨pA, pn, pc⟩, x', y'⟩, L, hk, rfl, CP⟩ := hrel
      by_cases hlt : k < nn
      · obtain ⟨b, off, e, hb, hc0, ⟨hA, hh, hcc⟩, hc1, hP⟩ := (SN.out.below CP.out.bel (Nat.le_refl _)).at_ hlt
        dsimp only at e hc1
        subst e
        have HP := hide (hP.more CP.out.bel.size)
        have HHL := hide hP.len
        have HKN : Hid (k < G.N.length) := by have := LN.out; show _ < _; omega
        have hhb : hh ≤ 1000 := by have := hp.out k HKN.out; have := HHL.out; dsimp only at this; omega
        have onb : on ≤ 1000 := by have := CP.out.own.many; have := LN.out; simp at *; omega
        obtain ⟨z, HZ⟩ : ∃ z, Hid ((G.N.getD k (0, [])).1 = z) := ⟨_, rfl⟩
        rw [HZ.out] at hc0
        have i1 : (0 : Int) ≤ (k : Int) := by omega
        have i2 : (k : Int) < (nn : Int) := by omega
        have B5 := hide ((Below.refl wr.heap.size wr).alloc (Nat.le_refl _) (.cells #[.int .i64 z, .slice hA hh hcc] 61))
        have C5 := hide (CP.out.step B5.out)
        have D5 := hide ((Below.refl (wr.alloc (.cells #[.int .i64 z, .slice hA hh hcc] 61)).heap.size (wr.alloc (.cells #[.int .i64 z, .slice hA hh hcc] 61))).drew)
        have P5 := hide ((HP.out.below B5.out (Nat.le_refl _)).below D5.out (by simp))
        have cO : (wr.alloc (.cells #[.int .i64 z, .slice hA hh hcc] 61)).cell? ⟨gO, 0, none⟩ = some (.slice oA on oc) := (cell_of_row _ gO 0 _ 27 (0, 0) C5.out.box).trans rfl
        have K3 : Hid (0 + hh ≤ 1000000) := by show _ ≤ _; omega
        have K4 : Hid (on + 1 ≤ 1000000) := by show _ ≤ _; omega
        have K5 : Hid (w.heap.size ≤ (wr.alloc (.cells #[.int .i64 z, .slice hA hh hcc] 61)).drew.heap.size) := C5.out.bel.size
        clear hP SN
        go_wp2
        refine wp_region_noPanic ?_
        go_region_law (first
          | ((refine step_row (wr.alloc (.cells #[.int .i64 z, .slice hA hh hcc] 61)).drew 34 83 2 16 (.agg #[.int .i64 0, .int .i64 0]) (by rfl) _ _ (by rfl) Tryz.underlying34 info54 (by rfl) (by decide) (by decide) w.heap.size none 0 0 [] (by rfl) (World.ownsRow_nil _ _ _ _) hA hh hcc _ (by rfl) P5.out.2 (nums_len P5.out.1) (nums_news P5.out.1) (nums_nil P5.out.1) (ints_oneCell _ _) K3.out K5.out ?_; intro A3 c3 x3 O3 G3 _; have B3 := hide (D5.out.grown G3 (Nat.le_refl _) (fun j hj => by cases hj)); have C3 := hide (C5.out.step B3.out); have cO3 : x3.cell? ⟨gO, 0, none⟩ = some (.slice oA on oc) := (cell_of_row _ gO 0 _ 27 (0, 0) C3.out.box).trans rfl; have cO3' : ∀ o : Obj, (x3.alloc o).cell? ⟨gO, 0, none⟩ = some (.slice oA on oc) := fun o => (cell_of_row _ gO 0 _ 27 (0, 0) (C3.out.step ((Below.refl _ _).alloc (Nat.le_refl _) o)).box).trans rfl; have nb3 := node_cells B3.out; have nb0 := nb3.1; have nb1 := nb3.2; have O3' := hide (own_pairs O3.out); have BX := hide ((Below.refl x3.heap.size x3).alloc (Nat.le_refl _) (.cells #[.int .i64 z, .slice A3 hh c3] 61)); have CX := hide (C3.out.step BX.out); have OX := hide (own_below O3'.out BX.out); have RX : Hid ((x3.alloc (.cells #[.int .i64 z, .slice A3 hh c3] 61)).ownsRow w.heap.size 61 2 (.slice oA on oc) on (cellsN L)) := CX.out.own.rows; have NX := hide (news_new x3 #[.int .i64 z, .slice A3 hh c3] 61); have ZX := hide CX.out.bel.size; clear O3 G3 nb3))
          | ((refine step_row (x3.alloc (.cells #[.int .i64 z, .slice A3 hh c3] 61)) 24 61 2 32 (.agg #[.int .i64 0, .slice none 0 0]) (by rfl) _ _ (by rfl) Tryz.underlying24 info58 (by rfl) (by decide) (by decide) w.heap.size oA on oc (cellsN L) (by rfl) RX.out (some ⟨x3.heap.size, 0, none⟩) 1 1 [.int .i64 z, .slice A3 hh c3] (by rfl) (some_not _) (by rfl) NX.out (some_zero _) (node_one z A3 hh c3) K4.out ZX.out ?_; intro A4 c4 x4 O4 G4 _; have CM := hide (Cp.more CX.out HKN.out HZ.out OX.out O4.out G4); have fz4 := box_free CX.out G4; have cz4 := fz4.1; have fy4 := fz4.2; clear O4 G4 fz4)))
        all_goals (refine NoPanic.normal ?_)
        all_goals (clear B5 C5 D5 P5 cO K3 K4 K5 B3 C3 cO3 cO3' nb0 nb1 O3' BX CX OX RX NX ZX cz4 fy4 HP HHL HZ CP; go_wp2; go_roundw; (case rel => exact ⟨k + 1, _, _, by omega, by go_num, CM⟩); (case measure => simp [intOf]; omega))
      · have HQ := hide (copy_done (G := G) CP.out (by have := LN.out; omega) EX.out EY.out)
        have hbx : ∀ i, wr.cell? ⟨gO, i, none⟩ = (#[.slice oA on oc, .slice pA pn pc, .int .i64 x', .int .i64 y'] : Array Value)[i]? := fun i => cell_of_row wr _ i _ 27 (0, 0) CP.out.box
        have hrb : ∀ i, wr.cell? ⟨w.heap.size + 1, i, none⟩ = (#[.slice none 0 0, .slice none 0 0, .int .i64 0, .int .i64 0] : Array Value)[i]? := fun i => cell_of_row wr _ i _ 27 (0, 0) CP.out.rb
        have frb : ∀ i, wr.frozen? ⟨w.heap.size + 1, i, none⟩ = false := fun i => frozen_of_row wr _ i _ 27 CP.out.rb
        have hlb : gO < wr.heap.size := (Array.getElem?_eq_some_iff.1 CP.out.box).1
        have hlr : w.heap.size + 1 < wr.heap.size := (Array.getElem?_eq_some_iff.1 CP.out.rb).1
        go_wp2
        exact bodyPost_ret (results_cell_row rfl _ _ (w.heap.size + 1) 27 _ (0, 0) _ rfl HQ.out.1 Tryz.underlying27 rfl size27) rfl ⟨⟨⟨oA, on, oc⟩, ⟨pA, pn, pc⟩, x', y'⟩, L, rfl, HQ.out.2.1, HQ.out.2.2⟩

end Go.Proofs.YtiiadkjiofkonaaGreat
