/- Whether any graph may be, and any two are the same, is told as the document says. (The statement tendrillaw10.GraphLooks.) -/
import Derived.Test.YtiiadkjiofkonaaRows
import Derived.Test.YtiiadkjiofkonaaGSame
import Derived.Test.YtiiadkjiofkonaaGCheck
import Derived.Test.YtiiadkjiofkonaaGMay
import Derived.Test.YtiiadkjiofkonaaGLive
import Derived.Test.YtiiadkjiofkonaaFrame
import Derived.WalkKit
import Derived.Below
import Derived.Deep.QuietTactic
import Derived.BigQuiet
import Derived.Deep.DeepCutAuto
import Derived.Deep.RegionHeld3
import Derived.Shelf.Abstract
namespace Go.Proofs.Ytiiadkjiofkonaa.graphLooks
open Go.Joins Go.ChangeShapes Go.WideShapes Go.ChangeAt Go.RowKit Go.Deep
set_option linter.unusedVariables false
open Go.Proofs.Ytiiadkjiofkonaa

set_option maxRecDepth 100000 in
set_option maxHeartbeats 8000000 in
theorem walk (n0 e0 p0 i0 j0 : Int) (v1 : Gv) (G1 : GL) (v2 : Gv) (G2 : GL) (w : World) (w1 : Sees w w.heap.size v1 G1) (s1 : v1.N.n ≤ 9223372036854775807) (t1 : v1.E.n ≤ 9223372036854775807) (u1 : ∀ j, j < G1.N.length → (G1.N.getD j (0, [])).2.length ≤ 9223372036854775807) (w2 : Sees w w.heap.size v2 G2) (s2 : v2.N.n ≤ 9223372036854775807) (t2 : v2.E.n ≤ 9223372036854775807) (u2 : ∀ j, j < G2.N.length → (G2.N.getD j (0, [])).2.length ≤ 9223372036854775807) :
    Calls Try.prog 3 #[.agg #[.int .i64 n0, .int .i64 e0, .int .i64 p0, .int .i64 i0, .int .i64 j0], v1.val, v2.val] w (Drew (.bool true) w) := by
  obtain ⟨⟨nA, nn, nc⟩, ⟨eA, en, ec⟩, x, y⟩ := v1
  obtain ⟨⟨mA, mn, mc⟩, ⟨fA, fn, fc⟩, x2, y2⟩ := v2
  have SW := hide w1
  have HN := hide s1
  have HE := hide t1
  have HP := hide u1
  have SW2 := hide w2
  have HN2 := hide s2
  have HE2 := hide t2
  have HP2 := hide u2
  clear w1 s1 t1 u1 w2 s2 t2 u2
  show Calls Try.prog 3 #[.agg #[.int .i64 n0, .int .i64 e0, .int .i64 p0, .int .i64 i0, .int .i64 j0], .agg #[.slice nA nn nc, .slice eA en ec, .int .i64 x, .int .i64 y], .agg #[.slice mA mn mc, .slice fA fn fc, .int .i64 x2, .int .i64 y2]] w _
  obtain ⟨W, hW⟩ : ∃ W, Hid (((w.alloc (.cells #[.int .i64 n0, .int .i64 e0, .int .i64 p0, .int .i64 i0, .int .i64 j0] 23)).alloc (.cells #[.slice nA nn nc, .slice eA en ec, .int .i64 x, .int .i64 y] 27)).alloc (.cells #[.slice mA mn mc, .slice fA fn fc, .int .i64 x2, .int .i64 y2] 27) = W) := ⟨_, rfl⟩
  have BB : Hid (Below w.heap.size w W) := by show Below _ _ _; rw [← hW.out]; exact boxed3 w _ _ _
  have Hc : Hid (W.heap[w.heap.size]? = some (.cells #[.int .i64 n0, .int .i64 e0, .int .i64 p0, .int .i64 i0, .int .i64 j0] 23 (0, 0))) := by show _ = _; rw [← hW.out]; exact bx_alloc (heap_alloc2_old w _ _) _
  have Hg : Hid (W.heap[w.heap.size + 1]? = some (.cells #[.slice nA nn nc, .slice eA en ec, .int .i64 x, .int .i64 y] 27 (0, 0))) := by show _ = _; rw [← hW.out]; exact bx_alloc (heap_alloc2_new w _ _) _
  have Hh : Hid (W.heap[w.heap.size + 2]? = some (.cells #[.slice mA mn mc, .slice fA fn fc, .int .i64 x2, .int .i64 y2] 27 (0, 0))) := by show _ = _; rw [← hW.out]; exact heap_alloc3_new w _ _ _
  obtain ⟨a, ha⟩ := bool_of (FewG G1)
  obtain ⟨b, hb⟩ := bool_of (FewG G2)
  have HA := hide ha
  have HB := hide hb
  clear ha hb
  go_enter Try.func3, Try.ntmps3
  go_upto_region 1 with fail
  have hW' := hW.out
  rw [hW']
  clear hW hW'
  go_wp2_with fail
  refine (live_any W).mono ?_
  rintro e U1 ⟨rfl, hu⟩
  have BB := hide (BB.out.trans (hu.mono BB.out.size))
  have Hc := hide (bx_step Hc.out hu)
  have Hg := hide (bx_step Hg.out hu)
  have Hh := hide (bx_step Hh.out hu)
  clear hu
  obtain ⟨k0, -, l0⟩ := bx_all Hc.out
  obtain ⟨k1, -, l1⟩ := bx_all Hg.out
  obtain ⟨k2, -, l2⟩ := bx_all Hh.out
  go_wp2_with fail
  refine (few_wide ⟨⟨nA, nn, nc⟩, ⟨eA, en, ec⟩, x, y⟩ G1 a U1 ((SW.out.below BB.out (Nat.le_refl _)).more BB.out.size) HN.out HE.out HP.out HA).mono ?_
  rintro e U2 ⟨rfl, hu⟩
  clear k0 l0 k1 l1 k2 l2
  have BB := hide (BB.out.trans (hu.mono BB.out.size))
  have Hc := hide (bx_step Hc.out hu)
  have Hg := hide (bx_step Hg.out hu)
  have Hh := hide (bx_step Hh.out hu)
  clear hu
  cases a
  · go_wp2
    go_ret
    exact ⟨rfl, BB.out⟩
  ·
    obtain ⟨k0, -, l0⟩ := bx_all Hc.out
    obtain ⟨k1, -, l1⟩ := bx_all Hg.out
    obtain ⟨k2, -, l2⟩ := bx_all Hh.out
    go_wp2_with fail
    refine (few_wide ⟨⟨mA, mn, mc⟩, ⟨fA, fn, fc⟩, x2, y2⟩ G2 b U2 ((SW2.out.below BB.out (Nat.le_refl _)).more BB.out.size) HN2.out HE2.out HP2.out HB).mono ?_
    rintro e X ⟨rfl, hu⟩
    clear k0 l0 k1 l1 k2 l2
    have BB := hide (BB.out.trans (hu.mono BB.out.size))
    have Hc := hide (bx_step Hc.out hu)
    have Hg := hide (bx_step Hg.out hu)
    have Hh := hide (bx_step Hh.out hu)
    clear hu
    cases b
    · go_wp2
      go_ret
      exact ⟨rfl, BB.out⟩
    · have HF1 : Hid (FewG G1) := HA.out.1 (by first | rfl | trivial)
      have HF2 : Hid (FewG G2) := HB.out.1 (by first | rfl | trivial)
      have S1 : Hid (Sees X X.heap.size ⟨⟨nA, nn, nc⟩, ⟨eA, en, ec⟩, x, y⟩ G1) := (SW.out.below BB.out (Nat.le_refl _)).more BB.out.size
      have S2 : Hid (Sees X X.heap.size ⟨⟨mA, mn, mc⟩, ⟨fA, fn, fc⟩, x2, y2⟩ G2) := (SW2.out.below BB.out (Nat.le_refl _)).more BB.out.size
      have b1 : nn ≤ 100 := by have := HF1.out.2.1; have := S1.out.nodes.1; dsimp only at this; omega
      have b2 : en ≤ 100 := by have := HF1.out.2.2; have := edges_len S1.out.edges; dsimp only at this; omega
      have b3 : mn ≤ 100 := by have := HF2.out.2.1; have := S2.out.nodes.1; dsimp only at this; omega
      have b4 : fn ≤ 100 := by have := HF2.out.2.2; have := edges_len S2.out.edges; dsimp only at this; omega
      obtain ⟨q, hq⟩ := bool_of (Okg n0 e0 p0 i0 j0 G1)
      obtain ⟨s, hs⟩ := bool_of (G1 = G2)
      have HQ := hide hq
      have HS := hide hs
      clear hq hs SW HN HE HP SW2 HN2 HE2 HP2 HA HB
      have C1 : Hid (∀ u, (fun u => (∀ i, u.cell? ⟨w.heap.size, i, none⟩ = (#[.int .i64 n0, .int .i64 e0, .int .i64 p0, .int .i64 i0, .int .i64 j0] : Array Value)[i]?) ∧ (∀ i, u.cell? ⟨w.heap.size + 1, i, none⟩ = (#[.slice nA nn nc, .slice eA en ec, .int .i64 x, .int .i64 y] : Array Value)[i]?) ∧ (∀ i, u.cell? ⟨w.heap.size + 2, i, none⟩ = (#[.slice mA mn mc, .slice fA fn fc, .int .i64 x2, .int .i64 y2] : Array Value)[i]?) ∧ Hid (Below X.heap.size X u)) u → Calls Try.prog 12 #[.agg #[.int .i64 n0, .int .i64 e0, .int .i64 p0, .int .i64 i0, .int .i64 j0], .agg #[.slice nA nn nc, .slice eA en ec, .int .i64 x, .int .i64 y]] u (Drew (.int .i64 (errOf q)) u)) := fun u h => check_any n0 e0 p0 i0 j0 ⟨⟨nA, nn, nc⟩, ⟨eA, en, ec⟩, x, y⟩ G1 q u (S1.out.step (h.2.2.2).out) HF1.out HQ
      have C2 : Hid (∀ u, (fun u => (∀ i, u.cell? ⟨w.heap.size, i, none⟩ = (#[.int .i64 n0, .int .i64 e0, .int .i64 p0, .int .i64 i0, .int .i64 j0] : Array Value)[i]?) ∧ (∀ i, u.cell? ⟨w.heap.size + 1, i, none⟩ = (#[.slice nA nn nc, .slice eA en ec, .int .i64 x, .int .i64 y] : Array Value)[i]?) ∧ (∀ i, u.cell? ⟨w.heap.size + 2, i, none⟩ = (#[.slice mA mn mc, .slice fA fn fc, .int .i64 x2, .int .i64 y2] : Array Value)[i]?) ∧ Hid (Below X.heap.size X u)) u → Calls Try.prog 13 #[.agg #[.int .i64 n0, .int .i64 e0, .int .i64 p0, .int .i64 i0, .int .i64 j0], .agg #[.slice nA nn nc, .slice eA en ec, .int .i64 x, .int .i64 y]] u (Drew (.int .i64 (errOf q)) u)) := fun u h => rcheck_any n0 e0 p0 i0 j0 ⟨⟨nA, nn, nc⟩, ⟨eA, en, ec⟩, x, y⟩ G1 q u (S1.out.step (h.2.2.2).out) HF1.out HQ
      have C3 : Hid (∀ u, (fun u => (∀ i, u.cell? ⟨w.heap.size, i, none⟩ = (#[.int .i64 n0, .int .i64 e0, .int .i64 p0, .int .i64 i0, .int .i64 j0] : Array Value)[i]?) ∧ (∀ i, u.cell? ⟨w.heap.size + 1, i, none⟩ = (#[.slice nA nn nc, .slice eA en ec, .int .i64 x, .int .i64 y] : Array Value)[i]?) ∧ (∀ i, u.cell? ⟨w.heap.size + 2, i, none⟩ = (#[.slice mA mn mc, .slice fA fn fc, .int .i64 x2, .int .i64 y2] : Array Value)[i]?) ∧ Hid (Below X.heap.size X u)) u → Calls Try.prog 14 #[.agg #[.slice nA nn nc, .slice eA en ec, .int .i64 x, .int .i64 y], .agg #[.slice mA mn mc, .slice fA fn fc, .int .i64 x2, .int .i64 y2]] u (Drew (.bool s) u)) := fun u h => same_any ⟨⟨nA, nn, nc⟩, ⟨eA, en, ec⟩, x, y⟩ ⟨⟨mA, mn, mc⟩, ⟨fA, fn, fc⟩, x2, y2⟩ G1 G2 s u (S1.out.step (h.2.2.2).out) (S2.out.step (h.2.2.2).out) (by dsimp only; omega) (by dsimp only; omega) (by dsimp only; omega) (by dsimp only; omega) (fun j hj => by have := HF1.out.1 j hj; omega) (fun j hj => by have := HF2.out.1 j hj; omega) HS
      have C4 : Hid (∀ u, (fun u => (∀ i, u.cell? ⟨w.heap.size, i, none⟩ = (#[.int .i64 n0, .int .i64 e0, .int .i64 p0, .int .i64 i0, .int .i64 j0] : Array Value)[i]?) ∧ (∀ i, u.cell? ⟨w.heap.size + 1, i, none⟩ = (#[.slice nA nn nc, .slice eA en ec, .int .i64 x, .int .i64 y] : Array Value)[i]?) ∧ (∀ i, u.cell? ⟨w.heap.size + 2, i, none⟩ = (#[.slice mA mn mc, .slice fA fn fc, .int .i64 x2, .int .i64 y2] : Array Value)[i]?) ∧ Hid (Below X.heap.size X u)) u → ∀ a b r, (a = .agg #[.slice nA nn nc, .slice eA en ec, .int .i64 x, .int .i64 y] ∧ b = .agg #[.slice mA mn mc, .slice fA fn fc, .int .i64 x2, .int .i64 y2] ∧ r = s) ∨ (a = newV.val ∧ b = newV.val ∧ r = true) → Calls Try.prog 15 #[a, b] u (Drew (.bool r) u)) := fun u h a b r hr => by
        rcases hr with ⟨rfl, rfl, rfl⟩ | ⟨rfl, rfl, rfl⟩
        · exact same_graph ⟨⟨nA, nn, nc⟩, ⟨eA, en, ec⟩, x, y⟩ ⟨⟨mA, mn, mc⟩, ⟨fA, fn, fc⟩, x2, y2⟩ G1 G2 _ u (S1.out.step (h.2.2.2).out) (S2.out.step (h.2.2.2).out) (by dsimp only; omega) (by dsimp only; omega) (by dsimp only; omega) (by dsimp only; omega) (fun j hj => by have := HF1.out.1 j hj; omega) (fun j hj => by have := HF2.out.1 j hj; omega) HS
        · exact same_graph newV newV newG newG true u (Own.newG u u.heap.size).sees (Own.newG u u.heap.size).sees (by decide) (by decide) (by decide) (by decide) (fun j hj => absurd hj (by simp [newG])) (fun j hj => absurd hj (by simp [newG])) ⟨fun _ => rfl, fun _ => rfl⟩
      have C5 : Hid (∀ u, (fun u => (∀ i, u.cell? ⟨w.heap.size, i, none⟩ = (#[.int .i64 n0, .int .i64 e0, .int .i64 p0, .int .i64 i0, .int .i64 j0] : Array Value)[i]?) ∧ (∀ i, u.cell? ⟨w.heap.size + 1, i, none⟩ = (#[.slice nA nn nc, .slice eA en ec, .int .i64 x, .int .i64 y] : Array Value)[i]?) ∧ (∀ i, u.cell? ⟨w.heap.size + 2, i, none⟩ = (#[.slice mA mn mc, .slice fA fn fc, .int .i64 x2, .int .i64 y2] : Array Value)[i]?) ∧ Hid (Below X.heap.size X u)) u → Calls Try.prog 16 #[] u (Drew newV.val u)) := fun u h => new_any u
      have C6 : Hid (∀ u, (fun u => (∀ i, u.cell? ⟨w.heap.size, i, none⟩ = (#[.int .i64 n0, .int .i64 e0, .int .i64 p0, .int .i64 i0, .int .i64 j0] : Array Value)[i]?) ∧ (∀ i, u.cell? ⟨w.heap.size + 1, i, none⟩ = (#[.slice nA nn nc, .slice eA en ec, .int .i64 x, .int .i64 y] : Array Value)[i]?) ∧ (∀ i, u.cell? ⟨w.heap.size + 2, i, none⟩ = (#[.slice mA mn mc, .slice fA fn fc, .int .i64 x2, .int .i64 y2] : Array Value)[i]?) ∧ Hid (Below X.heap.size X u)) u → Calls Try.prog 17 #[] u (Drew newV.val u)) := fun u h => rnew_any u
      have RD : Hid (∀ u, Hid (Below X.heap.size X u) → (fun u => (∀ i, u.cell? ⟨w.heap.size, i, none⟩ = (#[.int .i64 n0, .int .i64 e0, .int .i64 p0, .int .i64 i0, .int .i64 j0] : Array Value)[i]?) ∧ (∀ i, u.cell? ⟨w.heap.size + 1, i, none⟩ = (#[.slice nA nn nc, .slice eA en ec, .int .i64 x, .int .i64 y] : Array Value)[i]?) ∧ (∀ i, u.cell? ⟨w.heap.size + 2, i, none⟩ = (#[.slice mA mn mc, .slice fA fn fc, .int .i64 x2, .int .i64 y2] : Array Value)[i]?) ∧ Hid (Below X.heap.size X u)) u) := fun u hu => ⟨(bx_all (bx_step Hc.out hu.out)).1, (bx_all (bx_step Hg.out hu.out)).1, (bx_all (bx_step Hh.out hu.out)).1, hu⟩
      have LST : Hid (∀ u u1, (fun u => (∀ i, u.cell? ⟨w.heap.size, i, none⟩ = (#[.int .i64 n0, .int .i64 e0, .int .i64 p0, .int .i64 i0, .int .i64 j0] : Array Value)[i]?) ∧ (∀ i, u.cell? ⟨w.heap.size + 1, i, none⟩ = (#[.slice nA nn nc, .slice eA en ec, .int .i64 x, .int .i64 y] : Array Value)[i]?) ∧ (∀ i, u.cell? ⟨w.heap.size + 2, i, none⟩ = (#[.slice mA mn mc, .slice fA fn fc, .int .i64 x2, .int .i64 y2] : Array Value)[i]?) ∧ Hid (Below X.heap.size X u)) u → Below u.heap.size u u1 → Hid (Below X.heap.size X u1)) := fun u u1 h h1 => (h.2.2.2).out.trans (h1.mono (h.2.2.2).out.size)
      have D0 := hide ((Below.refl X.heap.size X).drew)
      have z1 : (errOf q == errOf q) = true := by simp
      have z2 : (s == s) = true := by simp
      obtain ⟨k0, -, l0⟩ := bx_all Hc.out
      obtain ⟨k1, -, l1⟩ := bx_all Hg.out
      obtain ⟨k2, -, l2⟩ := bx_all Hh.out
      clear HQ HS S1 S2 HF1 HF2
      go_wp2
      go_region_held3 (fun u => (∀ i, u.cell? ⟨w.heap.size, i, none⟩ = (#[.int .i64 n0, .int .i64 e0, .int .i64 p0, .int .i64 i0, .int .i64 j0] : Array Value)[i]?) ∧ (∀ i, u.cell? ⟨w.heap.size + 1, i, none⟩ = (#[.slice nA nn nc, .slice eA en ec, .int .i64 x, .int .i64 y] : Array Value)[i]?) ∧ (∀ i, u.cell? ⟨w.heap.size + 2, i, none⟩ = (#[.slice mA mn mc, .slice fA fn fc, .int .i64 x2, .int .i64 y2] : Array Value)[i]?) ∧ Hid (Below X.heap.size X u)) (first | exact RD.out _ D0 | exact RD.out _ (by assumption))
        (first | (go_at_call 12; refine (C1.out _ (by assumption)).mono ?_; rintro r v1 ⟨rfl, hu1⟩; have BU := LST.out _ _ (by assumption) hu1) | (go_at_call 13; refine (C2.out _ (by assumption)).mono ?_; rintro r v1 ⟨rfl, hu1⟩; have BU := LST.out _ _ (by assumption) hu1) | (go_at_call 14; refine (C3.out _ (by assumption)).mono ?_; rintro r v1 ⟨rfl, hu1⟩; have BU := LST.out _ _ (by assumption) hu1) | (go_at_call 15; refine (C4.out _ (by assumption) _ _ _ (by first | exact Or.inl ⟨rfl, rfl, rfl⟩ | exact Or.inr ⟨rfl, rfl, rfl⟩)).mono ?_; rintro r v1 ⟨rfl, hu1⟩; have BU := LST.out _ _ (by assumption) hu1) | (go_at_call 16; refine (C5.out _ (by assumption)).mono ?_; rintro r v1 ⟨rfl, hu1⟩; have BU := LST.out _ _ (by assumption) hu1) | (go_at_call 17; refine (C6.out _ (by assumption)).mono ?_; rintro r v1 ⟨rfl, hu1⟩; have BU := LST.out _ _ (by assumption) hu1))
      go_wp2
      go_ret
      exact ⟨rfl, BB.out.trans (BU.out.mono BB.out.size)⟩

set_option maxRecDepth 100000 in
theorem lifted (os : Os) (started : os.Started) (H : Type) (enc : TypeId × Value → H) :
    ReturnsInHanded {} Try.checked os 3 .any (Rows.graphLooksSpec.pre6 enc Try.prog Try.f3 Rows.graphLooksRow.domain false) (Rows.graphLooksSpec.post enc Try.prog Try.f3 false true false false) := by
  refine returnsInHanded_of_change (C := Try.checked) own started (by kernel_rfl) Try.func3
    (ChangeSpec.witness6 (enc := enc) (C := Try.checked) false ⟨#[], #[.agg #[.int .i64 0, .int .i64 0, .int .i64 0, .int .i64 0, .int .i64 0], .agg #[.slice none 0 0, .slice none 0 0, .int .i64 0, .int .i64 0], .agg #[.slice none 0 0, .slice none 0 0, .int .i64 0, .int .i64 0]], []⟩ 8 (by kernel_rfl) (by kernel_rfl) (by kernel_rfl) (by kernel_rfl)) ?_
  intro W base args ds gs before hval0 hW hcnd _
  have hval : ∀ (j : Nat) t v, Try.f3.params[j]? = some t → args[j]? = some v → Value.okWide Try.prog W .any base t v := hval0
  have hW' := hW
  obtain ⟨p, q, hA0, hV, rfl, hfz, hnd⟩ := hW
  have hA : DataW.TrodAll enc Try.prog W 0 (fun _ => true) true Try.f3.params.toList args.toList ds p := hA0
  rw [Try.params3] at hA hval
  obtain ⟨x0, vs0, d0, ds0, p0_, q0, hargs, rfl, rfl, h0, r0⟩ := trodAll_cons hA
  obtain ⟨x1, vs1, d1, ds1, p1_, q1, rfl, rfl, rfl, h1, r1⟩ := trodAll_cons r0
  obtain ⟨x2, vs2, d2, ds2, p2_, q2, rfl, rfl, rfl, h2, r2⟩ := trodAll_cons r1
  obtain ⟨rfl, rfl, rfl⟩ := trodAll_nil r2
  obtain rfl : args = #[x0, x1, x2] := by cases args; simp_all
  obtain ⟨rfl, rfl⟩ := trodVars_none hV
  have lt0 : ∀ x ∈ p0_, x.block < W.heap.size := by obtain ⟨m, hm⟩ := h0; exact DataW.trod_lt m _ _ _ hm
  have lt1 : ∀ x ∈ p1_, x.block < W.heap.size := by obtain ⟨m, hm⟩ := h1; exact DataW.trod_lt m _ _ _ hm
  have lt2 : ∀ x ∈ p2_, x.block < W.heap.size := by obtain ⟨m, hm⟩ := h2; exact DataW.trod_lt m _ _ _ hm
  obtain ⟨n0, e0, p0, i0, j0, rfl⟩ := open_cfg (hval 0 23 x0 rfl rfl) h0
  obtain ⟨v1, G1, rfl, w1, s1, t1, u1, -, -⟩ := open_graph (hval 1 27 x1 rfl rfl) h1
  obtain ⟨v2, G2, rfl, w2, s2, t2, u2, -, -⟩ := open_graph (hval 2 27 x2 rfl rfl) h2
  clear hA0 hval0
  refine (walk n0 e0 p0 i0 j0 v1 G1 v2 G2 W w1 s1 t1 u1 w2 s2 t2 u2).mono fun e W' ⟨he, bel⟩ => ?_
  subst he
  exact ⟨_, rfl, _, _, _, [], _, [], hW', trodAll_mk1 (shut_bool Try.underlying4 _), (trodAll_cons_mk (Below.trod laidOut (by kernel_rfl) (of_decide_eq_true (by kernel_rfl)) h0 bel lt0) (trodAll_cons_mk (Below.trod laidOut (by kernel_rfl) (of_decide_eq_true (by kernel_rfl)) h1 bel lt1) (trodAll_cons_mk (Below.trod laidOut (by kernel_rfl) (of_decide_eq_true (by kernel_rfl)) h2 bel lt2) trodAll_mk0))), rfl, bel.frame _, fun h => by cases h⟩

theorem over : Rows.graphLooksRow.holds Try.pinned (OpenSpec.ofChange Rows.graphLooksSpec) :=
  OpenClaim.holds_of_wide 3 Try.f3 rfl rfl rfl rfl rfl rfl rfl ⟨rfl, rfl, rfl, rfl, rfl⟩ rfl rfl rfl rfl rfl (by kernel_rfl) Try.func3 (by kernel_rfl)
    (of_decide_eq_true (by kernel_rfl)) (by unfold Func.isWrapper; first | (rw [if_pos (by decide +kernel)]; kernel_rfl) | (rw [if_neg (by decide +kernel)]; exact ⟨rfl, rfl⟩))
    (fun os started H enc _ => lifted os started H enc)

end Go.Proofs.Ytiiadkjiofkonaa.graphLooks

namespace Go.Proofs.Ytiiadkjiofkonaa
/-- The statement. -/
theorem graphLooks_holds : Rows.GraphLooksSaid := graphLooks.over
#print axioms graphLooks_holds
end Go.Proofs.Ytiiadkjiofkonaa
