/- What the document's Copy tells: a pool of its own. -/
import Derived.Test.YtfdbbfjnianahaaOwned
namespace Go.Proofs.Ytfdbbfjnianahaa
open Go.RowKit
set_option linter.unusedVariables false

set_option maxHeartbeats 4000000 in
theorem rcopyp_any (p : Pl) (P : PL) (B : Nat) (w : World) (hr : Reads w B p P) (hB : B ≤ w.heap.size) (hm : Small p) :
    Calls Try.prog 18 #[p.val] w (TellP w P) := by
  obtain ⟨A0, A1, A2, A3, n0, n1, n2, n3, c0, c1, c2, c3⟩ := p
  obtain ⟨G, S, W, F⟩ := P
  obtain ⟨hg, hs, ht, hf, zg, zs, zt, zf⟩ := hr
  obtain ⟨m0, m1, m2, m3⟩ := hm
  dsimp only at hg hs ht hf zg zs zt zf m0 m1 m2 m3
  have HCG : Hid (∀ u, Hid (Kept w u (C4 A0 A1 A2 A3 n0 n1 n2 n3 c0 c1 c2 c3)) → Calls Try.prog 29 #[.slice A0 n0 c0] u (Tell u n0 G)) := fun u hu => rcopy_any _ _ _ B _ _ (hg.below hu.out.1 hB) zg m0
  have HCS : Hid (∀ u, Hid (Kept w u (C4 A0 A1 A2 A3 n0 n1 n2 n3 c0 c1 c2 c3)) → Calls Try.prog 29 #[.slice A1 n1 c1] u (Tell u n1 S)) := fun u hu => rcopy_any _ _ _ B _ _ (hs.below hu.out.1 hB) zs m1
  have HCT : Hid (∀ u, Hid (Kept w u (C4 A0 A1 A2 A3 n0 n1 n2 n3 c0 c1 c2 c3)) → Calls Try.prog 29 #[.slice A2 n2 c2] u (Tell u n2 W)) := fun u hu => rcopy_any _ _ _ B _ _ (ht.below hu.out.1 hB) zt m2
  have HCF : Hid (∀ u, Hid (Kept w u (C4 A0 A1 A2 A3 n0 n1 n2 n3 c0 c1 c2 c3)) → Calls Try.prog 29 #[.slice A3 n3 c3] u (Tell u n3 F)) := fun u hu => rcopy_any _ _ _ B _ _ (hf.below hu.out.1 hB) zf m3
  clear hg hs ht hf zg zs zt zf
  have hN : Hid (∀ u, Hid (Kept w u (C4 A0 A1 A2 A3 n0 n1 n2 n3 c0 c1 c2 c3)) → (u.cell? ⟨w.heap.size, 0, none⟩ = some (.slice A0 n0 c0) ∧ u.cell? ⟨w.heap.size, 1, none⟩ = some (.slice A1 n1 c1) ∧ u.cell? ⟨w.heap.size, 2, none⟩ = some (.slice A2 n2 c2) ∧ u.cell? ⟨w.heap.size, 3, none⟩ = some (.slice A3 n3 c3) ∧ Hid (Kept w u (C4 A0 A1 A2 A3 n0 n1 n2 n3 c0 c1 c2 c3)))) :=
    fun u hu => ⟨hu.out.2.cells 0, hu.out.2.cells 1, hu.out.2.cells 2, hu.out.2.cells 3, hu⟩
  have D0 := hide (Kept.first w (C4 A0 A1 A2 A3 n0 n1 n2 n3 c0 c1 c2 c3) (.cells zeros4 24))
  go_enter Try.func18, Try.ntmps18
  go_wp2
  go_region_held3 (fun u => u.cell? ⟨w.heap.size, 0, none⟩ = some (.slice A0 n0 c0) ∧ u.cell? ⟨w.heap.size, 1, none⟩ = some (.slice A1 n1 c1) ∧ u.cell? ⟨w.heap.size, 2, none⟩ = some (.slice A2 n2 c2) ∧ u.cell? ⟨w.heap.size, 3, none⟩ = some (.slice A3 n3 c3) ∧ Hid (Kept w u (C4 A0 A1 A2 A3 n0 n1 n2 n3 c0 c1 c2 c3)))
    (first | exact hN.out _ D0 | exact hN.out _ (by assumption) | exact hN.out _ (hide (kept_set (Hid.out (by assumption)) _ _ _ _)))
    (first | (go_at_call 29; refine (HCG.out _ ?_).mono ?_; (exact (by assumption)); rintro e uG ⟨AG, cG, rfl, zG, oG, bG⟩; have KG := hide (Kept.step (Hid.out (by assumption)) bG)) | (go_at_call 29; refine (HCS.out _ ?_).mono ?_; (exact (by assumption)); rintro e uS ⟨AS, cS, rfl, zS, oS, bS⟩; have KS := hide (Kept.step (Hid.out (by assumption)) bS)) | (go_at_call 29; refine (HCT.out _ ?_).mono ?_; (exact (by assumption)); rintro e uT ⟨AT, cT, rfl, zT, oT, bT⟩; have KT := hide (Kept.step (Hid.out (by assumption)) bT)) | (go_at_call 29; refine (HCF.out _ ?_).mono ?_; (exact (by assumption)); rintro e uF ⟨AF, cF, rfl, zF, oF, bF⟩; have KF := hide (Kept.step (Hid.out (by assumption)) bF); have HZ4 := hide (zero_of bG bS bT bF); obtain ⟨y0, f0, y1, f1, y2, f2, y3, f3⟩ := zero_cells HZ4.out))
  clear y0 f0 y1 f1 y2 f2 y3 f3
  go_wp2
  have HE := fresh_end (P := ⟨G, S, W, F⟩) (u0 := ((w.alloc (.cells (C4 A0 A1 A2 A3 n0 n1 n2 n3 c0 c1 c2 c3) 24)).alloc (.cells zeros4 24)).drew) (by show ((w.alloc _).alloc _).heap.size = _; simp) (heap_alloc2_new w _ _) oG bG zG oS bS zS oT bT zT oF bF zF (.slice AG n0 cG) (.slice AS n1 cS) (.slice AT n2 cT) (.slice AF n3 cF)
  refine bodyPost_ret (results_cell_row rfl _ _ (w.heap.size + 1) 24 _ (0, 0) _ rfl (set4_heap HE.2 _ _ _ _) Try.underlying24 rfl Try.size24) rfl ⟨⟨AG, AS, AT, AF, n0, n1, n2, n3, cG, cS, cT, cF⟩, rfl, HE.1, set4_below KF.out.1 (by omega) _ _ _ _⟩

end Go.Proofs.Ytfdbbfjnianahaa
