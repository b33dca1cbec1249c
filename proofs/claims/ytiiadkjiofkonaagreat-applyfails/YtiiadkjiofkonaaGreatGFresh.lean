/- A graph's own copy: the code's. -/
import Derived.Test.YtiiadkjiofkonaaGreatGFreshA
import Derived.WalkKit
import Derived.Below
import Derived.Deep.QuietTactic
import Derived.BigQuiet
import Derived.Laws.Rows
import Derived.Shelf.Abstract
namespace Go.Proofs.YtiiadkjiofkonaaGreat
open Go.RowKit
set_option linter.unusedVariables false

/-- One node more. -/
theorem Own.push {X x4 : World} {B k c hh c3 c4 : Nat} {z x y x' y' : Int} {A A3 A4 : Option Addr} {e : Sl} {N : List Nd} {E : List Ed} {L : List (Int × Sl)} (o : Own X B ⟨⟨A, k, c⟩, e, x, y⟩ ⟨N.take k, E, x', y'⟩ L) (hk : k < N.length) (hz : (N.getD k (0, [])).1 = z)
    (O3 : X.ownsRow B 83 2 (.slice A3 hh c3) hh (ints (flat2 (N.getD k (0, [])).2))) (O4 : x4.ownsRow B 61 2 (.slice A4 (k + 1) c4) (k + 1) (cellsN L ++ [.int .i64 z, .slice A3 hh c3])) (G4 : X.grownBy x4 (Value.slice A k c).ownBlock) :
    Own x4 B ⟨⟨A4, k + 1, c4⟩, e, x, y⟩ ⟨N.take (k + 1), E, x', y'⟩ (L ++ [(z, ⟨A3, hh, c3⟩)]) := by
  have R := o.rows
  have hlen : L.length = k := by rw [o.len]; simp; omega
  refine ⟨?_, ?_, fun i hi => ?_, fun i hi => ?_, own_grown R G4 o.edg (by decide), o.x, o.y⟩
  · have e : cellsN (L ++ [(z, ⟨A3, hh, c3⟩)]) = cellsN L ++ [.int .i64 z, .slice A3 hh c3] := by rw [cellsN_append]; rfl
    rw [e]
    exact O4
  · simp only [List.length_append, List.length_cons, List.length_nil, List.length_take]; omega
  · simp only [List.length_take] at hi
    rw [take_getD (show i < k + 1 by omega)]
    by_cases e : i = k
    · subst e
      have e1 : (L ++ [(z, (⟨A3, hh, c3⟩ : Sl))]).getD i (0, noSl) = (z, ⟨A3, hh, c3⟩) := by simp [List.getD_eq_getElem?_getD, ← hlen]
      rw [e1]
      exact hz.symm
    · have hi' : i < k := by omega
      have e1 : (L ++ [(z, (⟨A3, hh, c3⟩ : Sl))]).getD i (0, noSl) = L.getD i (0, noSl) := by simp [List.getD_eq_getElem?_getD, List.getElem?_append, hlen, hi']
      rw [e1, ← take_getD hi']
      exact o.ids i (by simp; omega)
  · simp only [List.length_take] at hi
    rw [take_getD (show i < k + 1 by omega)]
    by_cases e : i = k
    · subst e
      have e1 : (L ++ [(z, (⟨A3, hh, c3⟩ : Sl))]).getD i (0, noSl) = (z, ⟨A3, hh, c3⟩) := by simp [List.getD_eq_getElem?_getD, ← hlen]
      rw [e1]
      exact own_grown R G4 O3 (by decide)
    · have hi' : i < k := by omega
      have e1 : (L ++ [(z, (⟨A3, hh, c3⟩ : Sl))]).getD i (0, noSl) = L.getD i (0, noSl) := by simp [List.getD_eq_getElem?_getD, List.getElem?_append, hlen, hi']
      rw [e1, ← take_getD hi']
      exact own_grown R G4 (o.prs i (by simp; omega)) (by decide)
/-- What an append onto the nodes' row leaves. -/
theorem push_next {w u1 w2 : World} {k c hh c3 : Nat} {z : Int} {A A3 : Option Addr} {N : List Nd} {L : List (Int × Sl)} {v' : Value} {o : Obj} (O : Own u1 w.heap.size ⟨⟨A, k, c⟩, noSl, 0, 0⟩ ⟨N.take k, [], 0, 0⟩ L) (hb : Below w.heap.size w u1) (hk : k < N.length) (hz : (N.getD k (0, [])).1 = z)
    (O3 : u1.ownsRow w.heap.size 83 2 (.slice A3 hh c3) hh (ints (flat2 (N.getD k (0, [])).2))) (hown : w2.ownsRow w.heap.size 61 2 v' (k + 1) (cellsN L ++ [.int .i64 z, .slice A3 hh c3])) (hg : (u1.alloc o).grownBy w2 (Value.slice A k c).ownBlock) :
    ∃ A' c' L', v' = .slice A' (k + 1) c' ∧ Hid (Own w2 w.heap.size ⟨⟨A', k + 1, c'⟩, noSl, 0, 0⟩ ⟨N.take (k + 1), [], 0, 0⟩ L') ∧ Hid (Below w.heap.size w w2) := by
  obtain ⟨A', c', rfl, hA⟩ := own_form hown
  have b := (Below.refl u1.heap.size u1).alloc (Nat.le_refl _) o
  refine ⟨A', c', _, rfl, (O.step b).push hk hz (own_below O3 b) hown hg, (hb.alloc hb.size o).grown hg (by have := hb.size; simp; omega) fun j ej => (O.rows.lt j ej).1⟩

set_option maxRecDepth 100000 in
set_option maxHeartbeats 2000000 in
theorem eachNode_any (v : Sl) (N : List Nd) (w : World) (hN : Nodes w w.heap.size v N) (hn : v.n ≤ 1000) (hp : Hid (∀ j, j < N.length → (N.getD j (0, [])).2.length ≤ 1000)) :
    Calls Tryz.prog 103 #[.slice v.A v.n v.c, .func (.func 104) #[] #[]] w fun e w' => ∃ (s : Sl) (L : List (Int × Sl)), e = .returned (.slice s.A s.n s.c) ∧ Hid (Own w' w.heap.size ⟨s, noSl, 0, 0⟩ ⟨N, [], 0, 0⟩ L) ∧ Hid (Below w.heap.size w w') := by
  obtain ⟨A, n, c⟩ := v
  dsimp only at hn
  have HN := hide hN
  have HL : Hid (n = N.length) := hN.1.symm
  clear hN
  obtain ⟨i0, hi0, hz0, hz1, hz2⟩ := info_parts info58
  have H1 := hide hi0
  have H2 := hide hz0
  have H3 := hide hz1
  have H4 := hide hz2
  clear hi0 hz0 hz1 hz2
  have HBY : Hid (i0.bytes * n ≤ 281474976710656) := by rw [H4.out]; show _ ≤ _; omega
  go_enter Tryz.func103, Tryz.ntmps103
  go_wp2_with (at_make; refine wpList_make_own _ rfl _ _ 24 rfl w.heap.size 61 i0 (.agg #[.int .i64 0, .slice none 0 0]) 2 Tryz.underlying24 H1.out H2.out H3.out _ _ _ n rfl rfl rfl HBY.out (by unfold maxLen; omega) (Nat.le_refl _) ?_; intro w1 hrow1 hg1)
  have HB1 := hide ((Below.refl _ _).grown hg1 (Nat.le_refl _) (by simp))
  have HR1 : Hid (Own w1 w.heap.size ⟨⟨some ⟨w.heap.size, 0, none⟩, 0, n⟩, noSl, 0, 0⟩ ⟨N.take 0, [], 0, 0⟩ []) := ⟨hrow1, rfl, (fun i hi => by cases hi), (fun i hi => by cases hi), World.ownsRow_nil _ _ _ _, rfl, rfl⟩
  clear hrow1 hg1
  go_wp2
  go_loopw [5, 13] (fun l i wr => ∃ (k : Nat) (A' : Option Addr) (c' : Nat) (L : List (Int × Sl)), k ≤ n ∧ i = .int .i64 k ∧ l = .slice A' k c' ∧ Hid (Own wr w.heap.size ⟨⟨A', k, c'⟩, noSl, 0, 0⟩ ⟨N.take k, [], 0, 0⟩ L) ∧ Hid (Below w.heap.size w wr))
    (fun _ i _ => n - (intOf i).toNat)
  case atStart => exact ⟨0, _, _, _, by omega, rfl, rfl, HR1, HB1⟩
  case round =>
    obtain ⟨k, A', c', L, hk, rfl, rfl, HO, HB⟩ := hrel
    by_cases hlt : k < n
    · obtain ⟨b0, off, e0, hb0, c0, ⟨hA, hh, hcc⟩, c1, hP⟩ := (HN.out.below HB.out (Nat.le_refl _)).at_ hlt
      dsimp only at e0 c1
      subst e0
      have HK : Hid (k < N.length) := by have := HL.out; show _ < _; omega
      have hhb : hh ≤ 1000 := by have := hp.out k HK.out; have := hP.len; dsimp only at this; omega
      obtain ⟨z, HZ⟩ : ∃ z, Hid ((N.getD k (0, [])).1 = z) := ⟨_, rfl⟩
      rw [HZ.out] at c0
      have B5 := hide ((Below.refl wr.heap.size wr).alloc (Nat.le_refl _) (.cells #[.int .i64 z, .slice hA hh hcc] 61))
      have P5 := hide ((hP.more HB.out.size).below B5.out (Nat.le_refl _) |>.more B5.out.size)
      clear hP
      go_wp2_with fail
      refine (freshNode_any z ⟨hA, hh, hcc⟩ _ _ P5.out hhb).mono ?_
      rintro e u1 ⟨⟨A3, n3, c3⟩, rfl, hr3, hu1⟩
      have BU := hide (B5.out.trans (hu1.out.mono B5.out.size))
      have O1 := hide (HO.out.step BU.out)
      have HB1 := hide (HB.out.trans (BU.out.mono HB.out.size))
      have R3 := hide (own_less hr3.out (show w.heap.size ≤ _ from Nat.le_trans HB.out.size B5.out.size))
      clear hr3 hu1 c0 c1 B5 P5 BU
      go_wp2_with (at_builtin; refine wpList_append_own _ rfl _ _ 24 rfl w.heap.size 61 i0 (.agg #[.int .i64 0, .slice none 0 0]) 2 32 Tryz.underlying24 H1.out H2.out H3.out H4.out rfl (by decide) _ k _ rfl (O1.out.rows.alloc _) ⟨u1.heap.size, 0, none⟩ 1 1 [.int .i64 z, .slice A3 n3 c3] rfl rfl (cells_new _ _ _ _ rfl) (node_one z A3 n3 c3) (by simp only [maxLen]; omega) (by omega) (by have := HB1.out.size; simp; omega) ?_; intro v' w2 hown hg _; obtain ⟨A2, c2, L2, rfl, HO2, HB2⟩ := push_next O1.out HB1.out HK.out HZ.out R3.out hown hg; clear hown hg)
      go_roundw
      case rel => exact ⟨k + 1, A2, c2, L2, by omega, by go_num, rfl, HO2, HB2⟩
      case measure => simp [intOf]; omega
    · obtain rfl : k = n := by omega
      have HO' : Hid (Own wr w.heap.size ⟨⟨A', k, c'⟩, noSl, 0, 0⟩ ⟨N, [], 0, 0⟩ L) := by
        have := HO.out
        rwa [List.take_of_length_le (by have := HL.out; omega)] at this
      clear HO
      go_wp2
      go_ret
      exact ⟨⟨A', k, c'⟩, L, rfl, HO', HB⟩

/-- A block of another type written: the graph that is the call's own stays. -/
theorem Own.cell {u : World} {B g t : Nat} {v : Gv} {G : GL} {L : List (Int × Sl)} {cs : Array Value} (o : Own u B v G L) (hg : u.heap[g]? = some (.cells cs t (0, 0))) (h1 : t ≠ 61) (h2 : t ≠ 83) (h3 : t ≠ 79) (i : Nat) (x : Value) : Own (u.setCell ⟨g, i, none⟩ x) B v G L :=
  ⟨own_cell o.rows hg h1 i x, o.len, o.ids, fun j hj => own_cell (o.prs j hj) hg h2 i x, own_cell o.edg hg h3 i x, o.x, o.y⟩
theorem put4 {u : World} {g t : Nat} {a b c d x y z v : Value} (h : u.heap[g]? = some (.cells #[a, b, c, d] t (0, 0))) : ((((u.setCell ⟨g, 0, none⟩ x).setCell ⟨g, 1, none⟩ y).setCell ⟨g, 2, none⟩ z).setCell ⟨g, 3, none⟩ v).heap[g]? = some (.cells #[x, y, z, v] t (0, 0)) := by
  have h1 := heap_setCell_same u g 0 _ t x h
  have h2 := heap_setCell_same _ g 1 _ t y h1
  have h3 := heap_setCell_same _ g 2 _ t z h2
  exact heap_setCell_same _ g 3 _ t v h3
theorem Own.cell4 {u : World} {B g t : Nat} {v : Gv} {G : GL} {L : List (Int × Sl)} {cs : Array Value} (o : Own u B v G L) (hg : u.heap[g]? = some (.cells cs t (0, 0))) (h1 : t ≠ 61) (h2 : t ≠ 83) (h3 : t ≠ 79) (x y z q : Value) : Own ((((u.setCell ⟨g, 0, none⟩ x).setCell ⟨g, 1, none⟩ y).setCell ⟨g, 2, none⟩ z).setCell ⟨g, 3, none⟩ q) B v G L :=
  ⟨own_four o.rows hg h1 x y z q, o.len, o.ids, fun j hj => own_four (o.prs j hj) hg h2 x y z q, own_four o.edg hg h3 x y z q, o.x, o.y⟩

set_option maxRecDepth 100000 in
set_option maxHeartbeats 4000000 in
theorem fresh_any (v : Gv) (G : GL) (w : World) (S : Sees w w.heap.size v G) (hn : v.N.n ≤ 1000) (he : v.E.n ≤ 1000) (hp : Hid (∀ j, j < G.N.length → (G.N.getD j (0, [])).2.length ≤ 1000)) :
    Calls Tryz.prog 80 #[v.val] w fun e w' => ∃ v' L, e = .returned (Gv.val v') ∧ Hid (Own w' w.heap.size v' G L) ∧ Hid (Below w.heap.size w w') := by
  obtain ⟨⟨nA, nn, nc⟩, ⟨eA, en, ec⟩, x, y⟩ := v
  show Calls Tryz.prog 80 #[.agg #[.slice nA nn nc, .slice eA en ec, .int .i64 x, .int .i64 y]] w _
  have HS := hide S
  dsimp only at hn he
  clear S
  obtain ⟨W, hW⟩ : ∃ W, Hid (((w.alloc (.cells #[.slice nA nn nc, .slice eA en ec, .int .i64 x, .int .i64 y] 27)).alloc (.cells #[.slice none 0 0, .slice none 0 0, .int .i64 0, .int .i64 0] 27)).alloc (.cells #[.slice nA nn nc, .slice eA en ec, .int .i64 x, .int .i64 y] 27) = W) := ⟨_, rfl⟩
  have h0 : Hid (W.heap[w.heap.size]? = some (.cells #[.slice nA nn nc, .slice eA en ec, .int .i64 x, .int .i64 y] 27 (0, 0))) := by show _ = _; rw [← hW.out, Below.heap_alloc _ _ _ (by simp; omega)]; exact heap_alloc2_old w _ _
  have h1 : Hid (W.heap[w.heap.size + 1]? = some (.cells #[.slice none 0 0, .slice none 0 0, .int .i64 0, .int .i64 0] 27 (0, 0))) := by show _ = _; rw [← hW.out, Below.heap_alloc _ _ _ (by simp)]; exact heap_alloc2_new w _ _
  have h2 : Hid (W.heap[w.heap.size + 2]? = some (.cells #[.slice nA nn nc, .slice eA en ec, .int .i64 x, .int .i64 y] 27 (0, 0))) := by
    show _ = _
    rw [← hW.out]
    have := heap_alloc_new ((w.alloc (.cells #[.slice nA nn nc, .slice eA en ec, .int .i64 x, .int .i64 y] 27)).alloc (.cells #[.slice none 0 0, .slice none 0 0, .int .i64 0, .int .i64 0] 27)) (.cells #[.slice nA nn nc, .slice eA en ec, .int .i64 x, .int .i64 y] 27)
    simpa using this
  have BW : Hid (Below w.heap.size w W) := by show Below _ _ _; rw [← hW.out]; exact (boxed2 w _ _).alloc (by simp; omega) _
  have HZ : Hid (W.heap.size = w.heap.size + 3) := by show _ = _; rw [← hW.out]; simp
  go_enter Tryz.func80, Tryz.ntmps80
  go_wp2_with fail
  have hW' := hW.out
  rw [hW']
  clear hW hW'
  have SW := hide ((HS.out.below BW.out (Nat.le_refl _)).more BW.out.size)
  refine (eachNode_any ⟨nA, nn, nc⟩ G.N W SW.out.nodes hn hp).mono ?_
  rintro e u1 ⟨⟨A1, n1, c1⟩, L, rfl, O1, B1⟩
  have k0 := hide ((B1.out.block _ (Array.getElem?_eq_some_iff.1 h0.out).1).trans h0.out)
  have k1 := hide ((B1.out.block _ (Array.getElem?_eq_some_iff.1 h1.out).1).trans h1.out)
  have k2 := hide ((B1.out.block _ (Array.getElem?_eq_some_iff.1 h2.out).1).trans h2.out)
  have c0 : u1.cell? ⟨w.heap.size, 1, none⟩ = some (.slice eA en ec) := (cell_of_row _ _ 1 _ 27 (0, 0) k0.out).trans rfl
  have y0 := (cell_of_row _ _ 0 _ 27 (0, 0) k2.out).trans rfl
  have f0 := frozen_of_row _ _ 0 _ 27 k2.out
  have O2 := hide (O1.out.cell k2.out (by decide) (by decide) (by decide) 0 (.slice A1 n1 c1))
  have m2 := hide (heap_setCell_same u1 (w.heap.size + 2) 0 _ 27 (.slice A1 n1 c1) k2.out)
  have m0 := hide ((heap_setCell_other u1 ⟨w.heap.size + 2, 0, none⟩ (w.heap.size) (.slice A1 n1 c1) (by simp)).trans k0.out)
  have m1 := hide ((heap_setCell_other u1 ⟨w.heap.size + 2, 0, none⟩ (w.heap.size + 1) (.slice A1 n1 c1) (by simp)).trans k1.out)
  have BV := hide ((BW.out.trans (B1.out.mono BW.out.size)).setCell (p := ⟨w.heap.size + 2, 0, none⟩) (by simp) (.slice A1 n1 c1))
  have c9 : (u1.setCell ⟨w.heap.size + 2, 0, none⟩ (.slice A1 n1 c1)).cell? ⟨w.heap.size, 1, none⟩ = some (.slice eA en ec) := (cell_of_row _ _ 1 _ 27 (0, 0) m0.out).trans rfl
  go_wp2_with fail
  generalize u1.setCell ⟨w.heap.size + 2, 0, none⟩ (.slice A1 n1 c1) = V at O2 m2 m0 m1 BV c9 ⊢
  have SV := hide ((HS.out.below BV.out (Nat.le_refl _)).more BV.out.size)
  have BA := hide BW.out.size
  clear O1 B1 k0 k1 k2 c0 y0 f0 c9 h0 h1 h2 BW HZ SW
  refine (cloneE_any eA en ec G.E V SV.out.edges SV.out.cap he).mono ?_
  rintro e u2 ⟨A2, n2, c2, rfl, hA2, hr2, hu2⟩
  have B2 := hide hu2
  have R2 := hide (own_less hr2 BV.out.size)
  have O3 := hide (O2.out.step hu2)
  clear hr2 hu2 O2
  have k1 := hide ((B2.out.block _ (Array.getElem?_eq_some_iff.1 m1.out).1).trans m1.out)
  have k2 := hide ((B2.out.block _ (Array.getElem?_eq_some_iff.1 m2.out).1).trans m2.out)
  have y1 := (cell_of_row _ _ 1 _ 27 (0, 0) k2.out).trans rfl
  have f1 := frozen_of_row _ _ 1 _ 27 k2.out
  have OO : Hid (Own u2 w.heap.size ⟨⟨A1, n1, c1⟩, ⟨A2, n2, c2⟩, x, y⟩ G L) := ⟨(O3.out.less BA.out).rows, O3.out.len, O3.out.ids, (O3.out.less BA.out).prs, R2.out, SV.out.x, SV.out.y⟩
  have q2 := hide (heap_setCell_same u2 (w.heap.size + 2) 1 _ 27 (.slice A2 n2 c2) k2.out)
  have q1 := hide ((heap_setCell_other u2 ⟨w.heap.size + 2, 1, none⟩ (w.heap.size + 1) (.slice A2 n2 c2) (by simp)).trans k1.out)
  have O5 := hide (OO.out.cell k2.out (by decide) (by decide) (by decide) 1 (.slice A2 n2 c2))
  have B5 := hide ((BV.out.trans (B2.out.mono BV.out.size)).setCell (p := ⟨w.heap.size + 2, 1, none⟩) (by simp) (.slice A2 n2 c2))
  obtain ⟨V2, hV2⟩ : ∃ V2, Hid (u2.setCell ⟨w.heap.size + 2, 1, none⟩ (.slice A2 n2 c2) = V2) := ⟨_, rfl⟩
  have hV2' := hV2.out
  rw [hV2'] at q2 q1 O5 B5
  have ld : ∀ i, (u2.setCell ⟨w.heap.size + 2, 1, none⟩ (.slice A2 n2 c2)).cell? ⟨w.heap.size + 2, i, none⟩ = (#[.slice A1 n1 c1, .slice A2 n2 c2, .int .i64 x, .int .i64 y] : Array Value)[i]? := fun i => by rw [hV2']; exact cell_of_row V2 _ i _ 27 (0, 0) q2.out
  have st : ∀ i, (u2.setCell ⟨w.heap.size + 2, 1, none⟩ (.slice A2 n2 c2)).cell? ⟨w.heap.size + 1, i, none⟩ = (#[.slice none 0 0, .slice none 0 0, .int .i64 0, .int .i64 0] : Array Value)[i]? := fun i => by rw [hV2']; exact cell_of_row V2 _ i _ 27 (0, 0) q1.out
  have fz : ∀ i, (u2.setCell ⟨w.heap.size + 2, 1, none⟩ (.slice A2 n2 c2)).frozen? ⟨w.heap.size + 1, i, none⟩ = false := fun i => by rw [hV2']; exact frozen_of_row V2 _ i _ 27 q1.out
  have lt2 : w.heap.size + 2 < (u2.setCell ⟨w.heap.size + 2, 1, none⟩ (.slice A2 n2 c2)).heap.size := by rw [hV2']; exact (Array.getElem?_eq_some_iff.1 q2.out).1
  have lt1 : w.heap.size + 1 < (u2.setCell ⟨w.heap.size + 2, 1, none⟩ (.slice A2 n2 c2)).heap.size := by rw [hV2']; exact (Array.getElem?_eq_some_iff.1 q1.out).1
  clear hV2' O3 R2 B2 k1
  go_wp2_with fail
  have hV2' := hV2.out
  rw [hV2'] at ld st fz lt2 lt1 ⊢
  clear hV2 hV2'
  go_wp2
  have HX := hide (put4 (x := .slice A1 n1 c1) (y := .slice A2 n2 c2) (z := .int .i64 x) (v := .int .i64 y) q1.out)
  exact bodyPost_ret (results_cell_row rfl _ _ (w.heap.size + 1) 27 _ (0, 0) _ rfl HX.out Tryz.underlying27 rfl size27) rfl ⟨_, _, rfl, O5.out.cell4 q1.out (by decide) (by decide) (by decide) _ _ _ _, set4_below B5.out (by simp) _ _ _ _⟩

end Go.Proofs.YtiiadkjiofkonaaGreat
