/- What Take tells, of any pool that is not great: the code's and the document's. -/
import Derived.Test.YtfdbbfjnianahaaMoves
import Derived.Test.YtfdbbfjnianahaaWalksE
import Derived.Test.YtfdbbfjnianahaaWalksF
import Derived.Test.YtfdbbfjnianahaaWalksG
namespace Go.Proofs.Ytfdbbfjnianahaa
open Go.RowKit
set_option linter.unusedVariables false

/-- What is kept: all that was there, the pool's box and the result's, still empty. -/
def Two (w u : World) (cs : Array Value) : Prop := Below w.heap.size w u ∧ PBox u w.heap.size cs ∧ PBox u (w.heap.size + 1) zeros4
theorem Two.first (w : World) (cs : Array Value) : Two w ((w.alloc (.cells cs 24)).alloc (.cells zeros4 24)) cs :=
  ⟨((Below.refl _ _).alloc (Nat.le_refl _) _).alloc (by simp) _, (PBox.new w cs).alloc _, heap_alloc2_new w _ _⟩
theorem Two.step {w u u' : World} {cs : Array Value} (h : Two w u cs) (hb : Below u.heap.size u u') : Two w u' cs := ⟨next_call h.1 (Nat.le_refl _) hb, h.2.1.step hb, h.2.2.step hb⟩
theorem Two.alloc {w u : World} {cs : Array Value} (h : Two w u cs) (o : Obj) : Two w (u.alloc o) cs := ⟨h.1.alloc h.1.size _, h.2.1.alloc _, h.2.2.alloc _⟩
theorem Two.far {w u : World} {cs : Array Value} (h : Two w u cs) {g : Nat} (hg : w.heap.size + 2 ≤ g) (i : Nat) (x : Value) : Two w (u.setCell ⟨g, i, none⟩ x) cs := ⟨h.1.setCell (by simp; omega) _, h.2.1.other (by omega) _, h.2.2.other (by omega) _⟩
theorem Two.size {w u : World} {cs : Array Value} (h : Two w u cs) : w.heap.size + 2 ≤ u.heap.size := by have := h.2.2.lt; omega

theorem may_of {P : PL} {b : Bool} (hb : Hid (b = true ↔ MayBe P)) (h : b = true) : MayBe P := hb.out.1 h


set_option maxHeartbeats 4000000 in
theorem take_any (p : Pl) (P : PL) (B : Nat) (b : Bool) (w : World) (hr : Reads w B p P) (hB : B ≤ w.heap.size) (hm : Small p) (hb : Hid (b = true ↔ MayBe P)) :
    Calls Try.prog 19 #[p.val] w (Tell3 w (takeQ b P) (takeR b P) (takeE b P)) := by
  obtain ⟨A0, A1, A2, A3, n0, n1, n2, n3, c0, c1, c2, c3⟩ := p
  obtain ⟨G, S, W, F⟩ := P
  have HM := hide hm
  obtain ⟨m0, m1, m2, m3⟩ := hm
  dsimp only at m0 m1 m2 m3
  have T0 := hide (Two.first w (C4 A0 A1 A2 A3 n0 n1 n2 n3 c0 c1 c2 c3))
  have R0 := hide (hr.below T0.out.1 hB)
  have HR := hide hr
  clear hr
  go_enter Try.func19, Try.ntmps19
  go_wp2_with fail
  refine (mayBe_any ⟨A0, A1, A2, A3, n0, n1, n2, n3, c0, c1, c2, c3⟩ ⟨G, S, W, F⟩ B b _ R0.out (Nat.le_trans hB T0.out.1.size) HM.out hb).mono ?_
  rintro e u1 ⟨rfl, hu1⟩
  have T1 := hide (T0.out.step hu1)
  clear hu1 T0 R0
  have hc := T1.out.2.1.cells
  have hl := T1.out.2.1.lt
  cases b with
  | false =>
    clear hc hl
    obtain ⟨y0, f0, y1, f1, y2, f2, y3, f3⟩ := zero_cells T1.out.2.2
    go_wp2
    refine bodyPost_ret (results_row_two rfl _ _ (w.heap.size + 1) 24 _ (0, 0) _ rfl (set4_heap T1.out.2.2 _ _ _ _) Try.underlying24 rfl Try.size24) rfl ⟨noPl, rfl, told_none _ _, set4_below T1.out.1 (by omega) _ _ _ _⟩
  | true =>
    cases F with
    | nil =>
      have hn3 : n3 = 0 := by have h : [].length = n3 * 1 := HR.out.f.1; rw [List.length_nil] at h; omega
      subst hn3
      obtain ⟨y0, f0, y1, f1, y2, f2, y3, f3⟩ := zero_cells T1.out.2.2
      go_wp2
      refine bodyPost_ret (results_row_two rfl _ _ (w.heap.size + 1) 24 _ (0, 0) _ rfl (set4_heap T1.out.2.2 _ _ _ _) Try.underlying24 rfl Try.size24) rfl ⟨noPl, rfl, told_none _ _, set4_below T1.out.1 (by omega) _ _ _ _⟩
    | cons x xs =>
      have hlen : n3 = xs.length + 1 := by have := HR.out.f.1; simp at this; omega
      have hpos : 0 < n3 := by omega
      have hne : ((n3 : Int) == 0) = false := by simp; omega
      have MB := may_of hb rfl
      obtain ⟨k1, k2, k3, k4, k5, k6, k7, k8⟩ := MB
      obtain ⟨x1, x2, x3⟩ := k6 x (by simp)
      dsimp only at k1 k2 k3 k4 k5 x2 x3
      have lg : G.length = n0 := by have := HR.out.g.1; simpa using this
      have ls : S.length = n1 := by have := HR.out.s.1; simpa using this
      obtain ⟨X, rfl⟩ : ∃ X : Nat, x = (X : Int) := ⟨x.toNat, by omega⟩
      have hX : X < n0 := by omega
      have hX1 : X < n1 := by omega
      obtain ⟨g1, g2, _⟩ := k5 X (by omega)
      have R1 := HR.out.below T1.out.1 hB
      obtain ⟨bF, oF, eF, _, cF⟩ := R1.f.at_ hpos
      dsimp only at eF
      subst eF
      obtain ⟨bG, oG, eG, hbB, cG⟩ := R1.g.at_ hX
      dsimp only at eG
      subst eG
      have cF' : u1.cell? ⟨bF, oF, none⟩ = some (.int .i64 (X : Int)) := by simpa using cF
      clear cF
      have HGV : Hid (G.getD X 0 = G.getD X 0) := rfl
      have HRX : Hid (takeR true ⟨G, S, W, (X : Int) :: xs⟩ = 1 + 1024 * G.getD X 0 + (X : Int)) := by simp [takeR, Hid]
      have HQX : Hid (takeQ true ⟨G, S, W, (X : Int) :: xs⟩ = ⟨G, S.set X 1, W, xs⟩) := by simp [takeQ, Hid]
      dsimp only at cG g1 g2
      generalize G.getD X 0 = gv at cG g1 g2 HRX
      have R1' := hide (HR.out.below T1.out.1 hB)
      have HS1 := hide T1.out.1.size
      have HL := hide hlen
      clear k1 k2 k3 k4 k5 k6 k7 k8 x1 x2 x3 lg ls R1 HGV hlen
      go_wp2_with fail
      refine (pack_ok _ _ _ (by omega) (by omega) (by omega) (by omega)).mono ?_
      rintro e w' ⟨rfl, rfl⟩
      go_wp2_with fail
      refine (fresh_any ⟨some ⟨bG, oG, none⟩, A1, A2, some ⟨bF, oF, none⟩, n0, n1, n2, n3, c0, c1, c2, c3⟩ ⟨G, S, W, (X : Int) :: xs⟩ B _ R1'.out (Nat.le_trans hB HS1.out) HM.out).mono ?_
      rintro e u2 ⟨q, rfl, hq, hu2⟩
      have T2 := hide (T1.out.step hu2)
      clear hc hl cF' cG
      obtain ⟨a0, a1, a2, a3, p0, p1, p2, p3, d0, d1, d2, d3⟩ := q
      have l0 : G.length = p0 := by simpa using hq.g.1
      have l1 : S.length = p1 := by simpa using hq.s.1
      have l3 : xs.length + 1 = p3 := by simpa using hq.f.1
      have j1 : S.length = n1 := by have := R1'.out.s.1; simpa using this
      obtain ⟨gS, hS⟩ := own_some hq.s (by dsimp only; omega)
      obtain ⟨gF, hF⟩ := own_some hq.f (by dsimp only; omega)
      dsimp only at hS hF
      subst hS
      subst hF
      have hXp : X < p1 := by omega
      have v1 := own_at hq.s hXp
      have v2 := hq.s.frozenAt X
      have v3 := (own_ge hq.s).2
      have v4 := (own_ge hq.s).1
      have v5 := (own_cap hq.f).1
      have v6 := (own_cap hq.f).2
      simp only [maxLen] at v6
      have s1 := T1.out.size
      have hp3 : 1 ≤ p3 := by omega
      dsimp only at v1 v2 v3 v4 v5 v6
      generalize S.getD X 0 = sv at v1
      have HO := hide hq
      have hne1 : gS ≠ u2.heap.size := by omega
      have hne2 : gS ≠ w.heap.size + 1 := by omega
      have hne3 : w.heap.size + 1 ≠ gS := by omega
      have hl2 := T2.out.2.2.lt
      obtain ⟨y0, f0, y1, f1, y2, f2, y3, f3⟩ := zero_cells T2.out.2.2
      have s2 := T2.out.size
      clear hq hu2 l0 l1 l3 j1
      by_cases hd3 : d3 = 1
      · subst hd3
        obtain rfl : p3 = 1 := by omega
        have HT := hide ((((HO.out.setS X 1).set4 (k := w.heap.size + 1) (by omega) (.slice a0 p0 d0) (.slice (some ⟨gS, 0, none⟩) p1 d1) (.slice a2 p2 d2) (.slice (some ⟨gF, 0, none⟩) 0 0)).alloc (.cells (C4 a0 (some ⟨gS, 0, none⟩) a2 (some ⟨gF, 0, none⟩) p0 p1 p2 0 d0 d1 d2 0) 24)).tail1 0)
        go_wp2
        refine bodyPost_ret (results_row_two rfl _ _ (w.heap.size + 1) 24 _ (0, 0) _ rfl (PBox.alloc (set4_heap (T2.out.far (by omega) _ _).2.2 _ _ _ _) _) Try.underlying24 rfl Try.size24) rfl ⟨⟨a0, some ⟨gS, 0, none⟩, a2, some ⟨gF, 0, none⟩, p0, p1, p2, 0, d0, d1, d2, 0⟩, by rw [HRX.out]; rfl, by rw [HQX.out]; exact HT.out.less (by omega), (set4_below (T2.out.far (by omega) _ _).1 (by omega) _ _ _ _).alloc (by have := T2.out.1.size; simp; omega) _⟩
      · have hd4 : 2 ≤ d3 := by omega
        clear hd3
        have HT := hide ((((HO.out.setS X 1).set4 (k := w.heap.size + 1) (by omega) (.slice a0 p0 d0) (.slice (some ⟨gS, 0, none⟩) p1 d1) (.slice a2 p2 d2) (.slice (some ⟨gF, 1, none⟩) (p3 - 1) (d3 - 1))).alloc (.cells (C4 a0 (some ⟨gS, 0, none⟩) a2 (some ⟨gF, 1, none⟩) p0 p1 p2 (p3 - 1) d0 d1 d2 (d3 - 1)) 24)).tail (d3 - 1))
        go_wp2
        refine bodyPost_ret (results_row_two rfl _ _ (w.heap.size + 1) 24 _ (0, 0) _ rfl (PBox.alloc (set4_heap (T2.out.far (by omega) _ _).2.2 _ _ _ _) _) Try.underlying24 rfl Try.size24) rfl ⟨⟨a0, some ⟨gS, 0, none⟩, a2, some ⟨gF, 1, none⟩, p0, p1, p2, p3 - 1, d0, d1, d2, d3 - 1⟩, by rw [HRX.out]; rfl, by rw [HQX.out]; exact HT.out.less (by omega), (set4_below (T2.out.far (by omega) _ _).1 (by omega) _ _ _ _).alloc (by have := T2.out.1.size; simp; omega) _⟩

set_option maxHeartbeats 4000000 in
theorem rtake_any (p : Pl) (P : PL) (B : Nat) (b : Bool) (w : World) (hr : Reads w B p P) (hB : B ≤ w.heap.size) (hm : Small p) (hb : Hid (b = true ↔ MayBe P)) :
    Calls Try.prog 20 #[p.val] w (Tell3 w (takeQ b P) (takeR b P) (takeE b P)) := by
  obtain ⟨A0, A1, A2, A3, n0, n1, n2, n3, c0, c1, c2, c3⟩ := p
  obtain ⟨G, S, W, F⟩ := P
  have HM := hide hm
  obtain ⟨m0, m1, m2, m3⟩ := hm
  dsimp only at m0 m1 m2 m3
  have T0 := hide (Two.first w (C4 A0 A1 A2 A3 n0 n1 n2 n3 c0 c1 c2 c3))
  have R0 := hide (hr.below T0.out.1 hB)
  have HR := hide hr
  clear hr
  go_enter Try.func20, Try.ntmps20
  go_wp2_with fail
  refine (rcheck_any ⟨A0, A1, A2, A3, n0, n1, n2, n3, c0, c1, c2, c3⟩ ⟨G, S, W, F⟩ B b _ R0.out (Nat.le_trans hB T0.out.1.size) HM.out hb).mono ?_
  rintro e u1 ⟨rfl, hu1⟩
  have T1 := hide (T0.out.step hu1)
  clear hu1 T0 R0
  have hc := T1.out.2.1.cells
  have hl := T1.out.2.1.lt
  cases b with
  | false =>
    clear hc hl
    obtain ⟨y0, f0, y1, f1, y2, f2, y3, f3⟩ := zero_cells T1.out.2.2
    go_wp2
    refine bodyPost_ret (results_row_two rfl _ _ (w.heap.size + 1) 24 _ (0, 0) _ rfl (set4_heap T1.out.2.2 _ _ _ _) Try.underlying24 rfl Try.size24) rfl ⟨noPl, rfl, told_none _ _, set4_below T1.out.1 (by omega) _ _ _ _⟩
  | true =>
    cases F with
    | nil =>
      have hn3 : n3 = 0 := by have h : [].length = n3 * 1 := HR.out.f.1; rw [List.length_nil] at h; omega
      subst hn3
      obtain ⟨y0, f0, y1, f1, y2, f2, y3, f3⟩ := zero_cells T1.out.2.2
      go_wp2
      refine bodyPost_ret (results_row_two rfl _ _ (w.heap.size + 1) 24 _ (0, 0) _ rfl (set4_heap T1.out.2.2 _ _ _ _) Try.underlying24 rfl Try.size24) rfl ⟨noPl, rfl, told_none _ _, set4_below T1.out.1 (by omega) _ _ _ _⟩
    | cons x xs =>
      have hlen : n3 = xs.length + 1 := by have := HR.out.f.1; simp at this; omega
      have hpos : 0 < n3 := by omega
      have hne : ((n3 : Int) == 0) = false := by simp; omega
      have MB := may_of hb rfl
      obtain ⟨k1, k2, k3, k4, k5, k6, k7, k8⟩ := MB
      obtain ⟨x1, x2, x3⟩ := k6 x (by simp)
      dsimp only at k1 k2 k3 k4 k5 x2 x3
      have lg : G.length = n0 := by have := HR.out.g.1; simpa using this
      have ls : S.length = n1 := by have := HR.out.s.1; simpa using this
      obtain ⟨X, rfl⟩ : ∃ X : Nat, x = (X : Int) := ⟨x.toNat, by omega⟩
      have hX : X < n0 := by omega
      have hX1 : X < n1 := by omega
      obtain ⟨g1, g2, _⟩ := k5 X (by omega)
      have R1 := HR.out.below T1.out.1 hB
      obtain ⟨bF, oF, eF, _, cF⟩ := R1.f.at_ hpos
      dsimp only at eF
      subst eF
      obtain ⟨bG, oG, eG, hbB, cG⟩ := R1.g.at_ hX
      dsimp only at eG
      subst eG
      have cF' : u1.cell? ⟨bF, oF, none⟩ = some (.int .i64 (X : Int)) := by simpa using cF
      clear cF
      have HGV : Hid (G.getD X 0 = G.getD X 0) := rfl
      have HRX : Hid (takeR true ⟨G, S, W, (X : Int) :: xs⟩ = 1 + 1024 * G.getD X 0 + (X : Int)) := by simp [takeR, Hid]
      have HQX : Hid (takeQ true ⟨G, S, W, (X : Int) :: xs⟩ = ⟨G, S.set X 1, W, xs⟩) := by simp [takeQ, Hid]
      dsimp only at cG g1 g2
      generalize G.getD X 0 = gv at cG g1 g2 HRX
      have R1' := hide (HR.out.below T1.out.1 hB)
      have HS1 := hide T1.out.1.size
      have HL := hide hlen
      clear k1 k2 k3 k4 k5 k6 k7 k8 x1 x2 x3 lg ls R1 HGV hlen
      go_wp2_with fail
      refine (rcopyp_any ⟨some ⟨bG, oG, none⟩, A1, A2, some ⟨bF, oF, none⟩, n0, n1, n2, n3, c0, c1, c2, c3⟩ ⟨G, S, W, (X : Int) :: xs⟩ B _ R1'.out (Nat.le_trans hB HS1.out) HM.out).mono ?_
      rintro e u2 ⟨q, rfl, hq, hu2⟩
      have T2 := hide (T1.out.step hu2)
      have cG2 := (hu2.cell (p := ⟨bG, oG + X, none⟩) (by have := HS1.out; simp; omega)).trans cG
      clear hc hl cF' cG
      obtain ⟨a0, a1, a2, a3, p0, p1, p2, p3, d0, d1, d2, d3⟩ := q
      have l0 : G.length = p0 := by simpa using hq.g.1
      have l1 : S.length = p1 := by simpa using hq.s.1
      have l3 : xs.length + 1 = p3 := by simpa using hq.f.1
      have j1 : S.length = n1 := by have := R1'.out.s.1; simpa using this
      obtain ⟨gS, hS⟩ := own_some hq.s (by dsimp only; omega)
      obtain ⟨gF, hF⟩ := own_some hq.f (by dsimp only; omega)
      dsimp only at hS hF
      subst hS
      subst hF
      have hXp : X < p1 := by omega
      have v1 := own_at hq.s hXp
      have v2 := hq.s.frozenAt X
      have v3 := (own_ge hq.s).2
      have v4 := (own_ge hq.s).1
      have v5 := (own_cap hq.f).1
      have v6 := (own_cap hq.f).2
      simp only [maxLen] at v6
      have vF := own_at hq.f (k := 0) (by dsimp only; omega)
      have vG := (own_ge hq.f).1
      have vH := (own_ge hq.f).2
      dsimp only at vF vG vH
      rw [show ((X : Int) :: xs).getD 0 0 = (X : Int) from rfl] at vF
      have hc := T2.out.2.1.cells
      have hl := T2.out.2.1.lt
      have s1 := T1.out.size
      have hbG : bG < w.heap.size := by omega
      have nG1 : bG ≠ gS := by omega
      have nG2 : bG ≠ u2.heap.size := by omega
      have nG3 : gF ≠ u2.heap.size := by omega
      have nG4 : gF ≠ w.heap.size + 1 := by omega
      have cG3 : (u2.setCell ⟨gS, X, none⟩ (.int .i64 1)).cell? ⟨bG, oG + X, none⟩ = some (.int .i64 gv) := (World.cell?_of_block (Below.heap_setCell u2 ⟨gS, X, none⟩ _ bG (by simpa using nG1))).trans cG2
      have hbG2 : bG < u2.heap.size := by omega
      have hp3 : 1 ≤ p3 := by omega
      dsimp only at v1 v2 v3 v4 v5 v6
      generalize S.getD X 0 = sv at v1
      have HO := hide hq
      have hne1 : gS ≠ u2.heap.size := by omega
      have hne2 : gS ≠ w.heap.size + 1 := by omega
      have hne3 : w.heap.size + 1 ≠ gS := by omega
      have hl2 := T2.out.2.2.lt
      obtain ⟨y0, f0, y1, f1, y2, f2, y3, f3⟩ := zero_cells T2.out.2.2
      have s2 := T2.out.size
      clear hq hu2 l0 l1 l3 j1
      by_cases hd3 : d3 = 1
      · subst hd3
        obtain rfl : p3 = 1 := by omega
        have HT := hide ((((HO.out.setS X 1).set4 (k := w.heap.size + 1) (by omega) (.slice a0 p0 d0) (.slice (some ⟨gS, 0, none⟩) p1 d1) (.slice a2 p2 d2) (.slice (some ⟨gF, 0, none⟩) 0 0)).alloc (.cells (C4 a0 (some ⟨gS, 0, none⟩) a2 (some ⟨gF, 0, none⟩) p0 p1 p2 0 d0 d1 d2 0) 24)).tail1 0)
        go_wp2_with fail
        refine (rpack_ok (X : Int) gv _ (by omega) (by omega) (by omega) (by omega)).mono ?_
        rintro e w' ⟨rfl, rfl⟩
        go_wp2
        refine bodyPost_ret (results_row_two rfl _ _ (w.heap.size + 1) 24 _ (0, 0) _ rfl (PBox.alloc (set4_heap (T2.out.far (by omega) _ _).2.2 _ _ _ _) _) Try.underlying24 rfl Try.size24) rfl ⟨⟨a0, some ⟨gS, 0, none⟩, a2, some ⟨gF, 0, none⟩, p0, p1, p2, 0, d0, d1, d2, 0⟩, by rw [HRX.out]; rfl, by rw [HQX.out]; exact HT.out.less (by omega), (set4_below (T2.out.far (by omega) _ _).1 (by omega) _ _ _ _).alloc (by have := T2.out.1.size; simp; omega) _⟩
      · have hd4 : 2 ≤ d3 := by omega
        clear hd3
        have HT := hide ((((HO.out.setS X 1).set4 (k := w.heap.size + 1) (by omega) (.slice a0 p0 d0) (.slice (some ⟨gS, 0, none⟩) p1 d1) (.slice a2 p2 d2) (.slice (some ⟨gF, 1, none⟩) (p3 - 1) (d3 - 1))).alloc (.cells (C4 a0 (some ⟨gS, 0, none⟩) a2 (some ⟨gF, 1, none⟩) p0 p1 p2 (p3 - 1) d0 d1 d2 (d3 - 1)) 24)).tail (d3 - 1))
        go_wp2_with fail
        refine (rpack_ok (X : Int) gv _ (by omega) (by omega) (by omega) (by omega)).mono ?_
        rintro e w' ⟨rfl, rfl⟩
        go_wp2
        refine bodyPost_ret (results_row_two rfl _ _ (w.heap.size + 1) 24 _ (0, 0) _ rfl (PBox.alloc (set4_heap (T2.out.far (by omega) _ _).2.2 _ _ _ _) _) Try.underlying24 rfl Try.size24) rfl ⟨⟨a0, some ⟨gS, 0, none⟩, a2, some ⟨gF, 1, none⟩, p0, p1, p2, p3 - 1, d0, d1, d2, d3 - 1⟩, by rw [HRX.out]; rfl, by rw [HQX.out]; exact HT.out.less (by omega), (set4_below (T2.out.far (by omega) _ _).1 (by omega) _ _ _ _).alloc (by have := T2.out.1.size; simp; omega) _⟩

end Go.Proofs.Ytfdbbfjnianahaa
