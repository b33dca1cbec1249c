/- Whether a graph may be: the walk of the document's answer. -/
import Derived.Test.YtiiadkjiofkonaaGreatGOk
import Derived.WalkKit
import Derived.Below
import Derived.Deep.QuietTactic
import Derived.BigQuiet
import Derived.Deep.DeepCutAuto
import Derived.Shelf.Abstract
namespace Go.Proofs.YtiiadkjiofkonaaGreat
open Go.RowKit
set_option linter.unusedVariables false

/-- The two boxes of a configuration and a graph. -/
structure Bx2 (w u : World) (ca cg : Array Value) : Prop where
  bel : Below w.heap.size w u
  cfg : u.heap[w.heap.size]? = some (.cells ca 23 (0, 0))
  gr : u.heap[w.heap.size + 1]? = some (.cells cg 27 (0, 0))
theorem Bx2.step {w u u1 : World} {ca cg : Array Value} (b : Bx2 w u ca cg) (h : Below u.heap.size u u1) : Bx2 w u1 ca cg := ⟨b.bel.trans (h.mono b.bel.size), bx_step b.cfg h, bx_step b.gr h⟩
theorem Bx2.al {w u : World} {ca cg : Array Value} (b : Bx2 w u ca cg) (o : Obj) : Bx2 w (u.alloc o) ca cg := b.step ((Below.refl _ _).alloc (Nat.le_refl _) o)
theorem Bx2.drewN {w u : World} {ca cg : Array Value} (b : Bx2 w u ca cg) (d : Nat) : Bx2 w (u.drewN d) ca cg := b.step (Below.drewN (Below.refl _ _) d)
theorem Bx2.cells {w u : World} {ca cg : Array Value} (b : Bx2 w u ca cg) : (∀ i, u.cell? ⟨w.heap.size, i, none⟩ = ca[i]?) ∧ (∀ i, u.cell? ⟨w.heap.size + 1, i, none⟩ = cg[i]?) ∧ w.heap.size < u.heap.size ∧ w.heap.size + 1 < u.heap.size := ⟨(bx_all b.cfg).1, (bx_all b.gr).1, (bx_all b.cfg).2.2, (bx_all b.gr).2.2⟩
theorem okg_q {c0 c1 c2 c3 c4 : Int} {G : GL} {q b0 b b2 : Bool} {k m pk : Nat} (hq : q = true ↔ Okg c0 c1 c2 c3 c4 G) (h0 : b0 = true ↔ HeadG c0 c1 c2 c3 c4 G) (h1 : b = true ↔ b0 = true ∧ NodesUp G G.N.length) (h2 : b2 = true ↔ b = true ∧ EdgesUp G m) (hm : m = G.E.length) (hp : propsN G.N k = propsN G.N G.N.length) (hk : propsN G.N k = pk) : q = true ↔ b2 = true ∧ (pk : Int) ≤ c2 := by
  rw [hq, okg_iff, h2, h1, h0, ← hm, ← hp, hk]
  constructor
  · rintro ⟨h1, h2, h3, h4⟩
    exact ⟨⟨⟨h1, h2⟩, h3⟩, h4⟩
  · rintro ⟨⟨⟨h1, h2⟩, h3⟩, h4⟩
    exact ⟨h1, h2, h3, h4⟩
theorem okq_no {q : Bool} {z : Int} {p : Prop} (hz : errOf q = z) (h : q = true ↔ false = true ∧ p) : z = 1 := by
  cases q with
  | false => exact hz.symm
  | true => exact absurd (h.1 rfl).1 (by decide)
theorem okq_yes {q : Bool} {z : Int} {p : Prop} (hz : errOf q = z) (h : q = true ↔ true = true ∧ p) (hp : p) : z = 0 := by
  have := h.2 ⟨rfl, hp⟩
  subst this
  exact hz.symm
theorem okq_gt {q : Bool} {z : Int} {p : Prop} (hz : errOf q = z) (h : q = true ↔ true = true ∧ p) (hp : ¬ p) : z = 1 := by
  cases q with
  | false => exact hz.symm
  | true => exact absurd (h.1 rfl).2 hp
theorem iff_false {p : Prop} (h : ¬ p) : (false = true ↔ p) := ⟨(fun e => by cases e), fun e => absurd e h⟩
theorem iff_true {p : Prop} (h : p) : (true = true ↔ p) := ⟨fun _ => h, fun _ => rfl⟩
theorem bool_of (p : Prop) : ∃ q : Bool, (q = true ↔ p) := by
  by_cases h : p
  · exact ⟨true, iff_true h⟩
  · exact ⟨false, iff_false h⟩

set_option maxRecDepth 100000 in
set_option maxHeartbeats 8000000 in
theorem rcheck_any (c0 c1 c2 c3 c4 : Int) (v : Gv) (G : GL) (q : Bool) (w : World) (S : Sees w w.heap.size v G) (HF : FewG G) (hq : Hid (q = true ↔ Okg c0 c1 c2 c3 c4 G)) :
    Calls Tryz.prog 29 #[.agg #[.int .i64 c0, .int .i64 c1, .int .i64 c2, .int .i64 c3, .int .i64 c4], v.val] w (Drew (.int .i64 (errOf q)) w) := by
  obtain ⟨⟨nA, nn, nc⟩, ⟨eA, en, ec⟩, x, y⟩ := v
  show Calls Tryz.prog 29 #[.agg #[.int .i64 c0, .int .i64 c1, .int .i64 c2, .int .i64 c3, .int .i64 c4], .agg #[.slice nA nn nc, .slice eA en ec, .int .i64 x, .int .i64 y]] w _
  have HS := hide S
  have ln := S.nodes.1
  have le := edges_len S.edges
  have EX : Hid (x = G.x) := S.x
  have EY : Hid (y = G.y) := S.y
  dsimp only at ln le
  have hnn : nn ≤ 100 := by have := HF.2.1; omega
  have hen : en ≤ 100 := by have := HF.2.2; omega
  have LN := hide ln
  have LE := hide le
  have HPB := hide (propsN_le HF.1)
  have HFP := hide HF.1
  clear S HF ln le
  obtain ⟨W, hW⟩ : ∃ W, Hid ((w.alloc (.cells #[.int .i64 c0, .int .i64 c1, .int .i64 c2, .int .i64 c3, .int .i64 c4] 23)).alloc (.cells #[.slice nA nn nc, .slice eA en ec, .int .i64 x, .int .i64 y] 27) = W) := ⟨_, rfl⟩
  have BB : Hid (Bx2 w W #[.int .i64 c0, .int .i64 c1, .int .i64 c2, .int .i64 c3, .int .i64 c4] #[.slice nA nn nc, .slice eA en ec, .int .i64 x, .int .i64 y]) := by show Bx2 _ _ _ _; rw [← hW.out]; exact ⟨boxed2 w _ _, heap_alloc2_old w _ _, heap_alloc2_new w _ _⟩
  obtain ⟨qc, hqc⟩ := bool_of (Place.Ok c0 c1 c2 c3 c4)
  have HQC := hide hqc
  clear hqc
  go_enter Tryz.func29, Tryz.ntmps29
  go_upto_region 1 with fail
  have hW' := hW.out
  rw [hW']
  clear hW hW'
  go_cut [5] (fun o wx => ∃ b, o = .bool b ∧ Hid (b = true ↔ HeadG c0 c1 c2 c3 c4 G) ∧ Hid (Bx2 w wx #[.int .i64 c0, .int .i64 c1, .int .i64 c2, .int .i64 c3, .int .i64 c4] #[.slice nA nn nc, .slice eA en ec, .int .i64 x, .int .i64 y]))
  case first =>
    obtain ⟨hc, hg, lc, lg⟩ := BB.out.cells
    go_wp2_with fail
    cases qc
    ·
      have HN : Hid (¬ Place.Ok c0 c1 c2 c3 c4) := fun h => by have := HQC.out.2 h; cases this
      refine (Place.rcheck_no c0 c1 c2 c3 c4 W HN).mono ?_
      rintro e u1 ⟨rfl, hu⟩
      have BB1 := hide (BB.out.step hu)
      clear hu
      go_wp2_with fail
      go_meet
      exact ⟨false, rfl, iff_false (fun h => HN.out h.cfg), BB1⟩
    ·
      have HY : Hid (Place.Ok c0 c1 c2 c3 c4) := HQC.out.1 rfl
      have hc3 : 1 ≤ c3 ∧ c3 ≤ 64 := HY.out.2.2.2.1
      have hc4 : 1 ≤ c4 ∧ c4 ≤ 64 := HY.out.2.2.2.2
      refine (Place.rcheck_ok c0 c1 c2 c3 c4 W HY).mono ?_
      rintro e u1 ⟨rfl, hu⟩
      have BB1 := hide (BB.out.step hu)
      clear hu hc hg lc lg BB
      obtain ⟨hc, hg, lc, lg⟩ := BB1.out.cells
      by_cases t1 : (1 : Int) ≤ x
      ·
        have d1 : decide ((1 : Int) ≤ x) = true := by simpa using t1
        by_cases t2 : x ≤ c3 + 1
        ·
          have d2 : decide (x ≤ c3 + 1) = true := by simpa using t2
          by_cases t3 : (1 : Int) ≤ y
          ·
            have d3 : decide ((1 : Int) ≤ y) = true := by simpa using t3
            by_cases t4 : y ≤ c4 + 1
            ·
              have d4 : decide (y ≤ c4 + 1) = true := by simpa using t4
              by_cases t5 : (nn : Int) ≤ c0
              ·
                have d5 : decide ((nn : Int) ≤ c0) = true := by simpa using t5
                by_cases t6 : (en : Int) ≤ c1
                ·
                  have d6 : decide ((en : Int) ≤ c1) = true := by simpa using t6
                  go_wp2_with fail
                  go_meet
                  exact ⟨true, rfl, iff_true ⟨HY.out, ⟨by rw [← EX.out]; exact t1, by rw [← EX.out]; exact t2⟩, ⟨by rw [← EY.out]; exact t3, by rw [← EY.out]; exact t4⟩, by rw [LN.out]; exact t5, by rw [← LE.out]; exact t6⟩, BB1⟩
                ·
                  have d6 : decide ((en : Int) ≤ c1) = false := by simpa using t6
                  go_wp2_with fail
                  go_meet
                  exact ⟨false, rfl, iff_false (fun h => by have := h.e; have := LE.out; omega), BB1⟩
              ·
                have d5 : decide ((nn : Int) ≤ c0) = false := by simpa using t5
                go_wp2_with fail
                go_meet
                exact ⟨false, rfl, iff_false (fun h => by have := h.n; have := LN.out; omega), BB1⟩
            ·
              have d4 : decide (y ≤ c4 + 1) = false := by simpa using t4
              go_wp2_with fail
              go_meet
              exact ⟨false, rfl, iff_false (fun h => by have := h.y.2; have := EY.out; omega), BB1⟩
          ·
            have d3 : decide ((1 : Int) ≤ y) = false := by simpa using t3
            go_wp2_with fail
            go_meet
            exact ⟨false, rfl, iff_false (fun h => by have := h.y.1; have := EY.out; omega), BB1⟩
        ·
          have d2 : decide (x ≤ c3 + 1) = false := by simpa using t2
          go_wp2_with fail
          go_meet
          exact ⟨false, rfl, iff_false (fun h => by have := h.x.2; have := EX.out; omega), BB1⟩
      ·
        have d1 : decide ((1 : Int) ≤ x) = false := by simpa using t1
        go_wp2_with fail
        go_meet
        exact ⟨false, rfl, iff_false (fun h => by have := h.x.1; have := EX.out; omega), BB1⟩
  case rest =>
    obtain ⟨b0, rfl, HB0, BC⟩ := hcut
    clear BB
    obtain ⟨hc, hg, lc, lg⟩ := BC.out.cells
    go_wp2
    clear hc hg lc lg
    go_loopw [5, 6, 7, 61] (fun o p l i wr => ∃ (k : Nat) (b : Bool), k ≤ nn ∧ i = .int .i64 k ∧ o = .bool b ∧ p = .int .i64 (propsN G.N k : Nat) ∧ l = .int .i64 (lastN G.N k) ∧ Hid (b = true ↔ b0 = true ∧ NodesUp G k) ∧ Hid (Bx2 w wr #[.int .i64 c0, .int .i64 c1, .int .i64 c2, .int .i64 c3, .int .i64 c4] #[.slice nA nn nc, .slice eA en ec, .int .i64 x, .int .i64 y])) (fun _ _ _ i _ => nn - (intOf i).toNat)
    case atStart => exact ⟨0, b0, by omega, rfl, rfl, rfl, rfl, ⟨fun h => ⟨h, fun i hi => by omega⟩, fun h => h.1⟩, BC⟩
    case round =>
      obtain ⟨k, b, hk, rfl, rfl, rfl, rfl, HB, BR⟩ := hrel
      clear BC
      by_cases hlt : k < nn
      ·
        obtain ⟨b1, off, e, hb1, d0, ⟨hA, hh, hcc⟩, d1, hP⟩ := HS.out.nodes.at_ hlt
        dsimp only at e d1
        subst e
        have HK : Hid (k < G.N.length) := by have := LN.out; show _ < _; omega
        have hhb : hh ≤ 100 := by have := HFP.out k HK.out; have := hP.len; dsimp only at this; omega
        have hpb : propsN G.N k ≤ 10000 := by have := HPB.out k (Nat.le_of_lt HK.out); have := LN.out; omega
        obtain ⟨z, HZ⟩ : ∃ z, Hid ((G.N.getD k (0, [])).1 = z) := ⟨_, rfl⟩
        rw [HZ.out] at d0
        have k0 := (BR.out.bel.cell (p := ⟨b1, _, none⟩) hb1).trans d0
        have k1 := (BR.out.bel.cell (p := ⟨b1, _, none⟩) hb1).trans d1
        have HP := hide ((hP.below BR.out.bel (Nat.le_refl _)).more BR.out.bel.size)
        clear d0 d1 hP
        obtain ⟨hc, hg, lc, lg⟩ := BR.out.cells
        obtain ⟨pk, HPK⟩ : ∃ p, Hid (propsN G.N k = p) := ⟨_, rfl⟩
        obtain ⟨lk, HLK⟩ : ∃ l, Hid (lastN G.N k = l) := ⟨_, rfl⟩
        rw [HPK.out, HLK.out]
        have hpk : pk ≤ 10000 := by rw [← HPK.out]; exact hpb
        clear hpb
        go_upto_region 7 with fail
        go_cut [5] (fun o wx => ∃ b', o = .bool b' ∧ Hid (b' = true ↔ b = true ∧ lk < z ∧ z < x) ∧ wx = wr.alloc (.cells #[.int .i64 z, .slice hA hh hcc] 61))
        case first =>
          cases b
          · go_wp2_with fail
            go_meet
            exact ⟨false, rfl, (by show _ ↔ _; simp), rfl⟩
          · by_cases t1 : lk < z
            · have e1 : decide (lk < z) = true := by simpa using t1
              by_cases t2 : z < x
              · have e2 : decide (z < x) = true := by simpa using t2
                go_wp2_with fail
                go_meet
                exact ⟨true, rfl, (by show _ ↔ _; simp; omega), rfl⟩
              · have e2 : decide (z < x) = false := by simpa using t2
                go_wp2_with fail
                go_meet
                exact ⟨false, rfl, (by show _ ↔ _; simp; omega), rfl⟩
            · have e1 : decide (lk < z) = false := by simpa using t1
              go_wp2_with fail
              go_meet
              exact ⟨false, rfl, (by show _ ↔ _; simp; omega), rfl⟩
        case rest =>
          obtain ⟨b', rfl, HB', rfl⟩ := hcut
          clear hc hg lc lg k0 k1
          obtain ⟨U, hU⟩ : ∃ U, Hid (wr.alloc (.cells #[.int .i64 z, .slice hA hh hcc] 61) = U) := ⟨_, rfl⟩
          obtain ⟨gn, hgn⟩ : ∃ g, Hid (wr.heap.size = g) := ⟨_, rfl⟩
          have BU : Hid (Bx2 w U #[.int .i64 c0, .int .i64 c1, .int .i64 c2, .int .i64 c3, .int .i64 c4] #[.slice (some ⟨b1, off, none⟩) nn nc, .slice eA en ec, .int .i64 x, .int .i64 y]) := by show Bx2 _ _ _ _; rw [← hU.out]; exact BR.out.al _
          have HN : Hid (U.heap[gn]? = some (.cells #[.int .i64 z, .slice hA hh hcc] 61 (0, 0))) := by show _ = _; rw [← hU.out, ← hgn.out]; exact heap_alloc_new _ _
          have PU : Hid (Props U U.heap.size ⟨hA, hh, hcc⟩ (G.N.getD k (0, [])).2) := by show Props _ _ _ _; rw [← hU.out]; exact (HP.out.below ((Below.refl _ _).alloc (Nat.le_refl _) _) (Nat.le_refl _)).more (by simp)
          have hU' := hU.out
          have hg' := hgn.out
          rw [hU', hg']
          clear hU hgn hU' hg' BR HP
          have HPlen : Hid (hh = (G.N.getD k (0, [])).2.length) := PU.out.len
          obtain ⟨hn, -, ln⟩ := bx_all HN.out
          go_wp2
          go_loopw [5, 10] (fun o j wx => ∃ (m d : Nat) (b2 : Bool), 1 ≤ m ∧ m ≤ hh + 1 ∧ j = .int .i64 m ∧ o = .bool b2 ∧ Hid (b2 = true ↔ b' = true ∧ ∀ i, i + 1 < m → i + 1 < hh → ((G.N.getD k (0, [])).2.getD i (0, 0)).1 < ((G.N.getD k (0, [])).2.getD (i + 1) (0, 0)).1) ∧ wx = U.drewN d) (fun _ j _ => hh + 1 - (intOf j).toNat)
          case atStart => exact ⟨1, 0, b', by omega, by omega, rfl, rfl, ⟨fun h => ⟨h, fun i hi => by omega⟩, fun h => h.1⟩, rfl⟩
          case round =>
            obtain ⟨m, d, b2, hm1, hm, rfl, rfl, HB2, rfl⟩ := hrel
            by_cases hlm : m < hh
            ·
              obtain ⟨j, rfl⟩ : ∃ j, m = j + 1 := ⟨m - 1, by omega⟩
              obtain ⟨q0, o0, f0, -, p00, p01⟩ := PU.out.at_ (k := j) (show j < hh by omega)
              obtain ⟨q1, o1, f1, -, p10, p11⟩ := PU.out.at_ (k := j + 1) hlm
              dsimp only at f0 f1
              subst f0
              simp only [Option.some.injEq, Addr.mk.injEq, and_true] at f1
              obtain ⟨rfl, rfl⟩ := f1
              have i1 : (0 : Int) ≤ (j : Int) := by omega
              have i2 : (j : Int) < (hh : Int) := by omega
              have i3 : (0 : Int) ≤ (j : Int) + 1 := by omega
              have i4 : (j : Int) + 1 < (hh : Int) := by omega
              have i5 : IntKind.i64.wrap ((j : Int) + 1 - 1) = (j : Int) := by simp [IntKind.wrap, IntKind.bits, IntKind.signed]; omega
              have i6 : IntKind.i64.wrap (j : Int) = (j : Int) := by simp [IntKind.wrap, IntKind.bits, IntKind.signed]; omega
              cases b2
              · have HB3 : Hid (false = true ↔ b' = true ∧ ∀ i, i + 1 < j + 1 + 1 → i + 1 < hh → ((G.N.getD k (0, [])).2.getD i (0, 0)).1 < ((G.N.getD k (0, [])).2.getD (i + 1) (0, 0)).1) := iff_false fun h => by have := HB2.out.2 ⟨h.1, fun i hi h2 => h.2 i (by omega) h2⟩; cases this
                clear HB2 p01 p11
                go_wp2
                go_quiet (fail)
                go_wp2
                go_roundw
                case rel => exact ⟨j + 2, _, false, by omega, by omega, by go_num, rfl, (by show _ ↔ _; have h := HB3.out; simpa using h), rfl⟩
                case measure => simp [intOf]; omega
              · by_cases e : ((G.N.getD k (0, [])).2.getD j (0, 0)).1 < ((G.N.getD k (0, [])).2.getD (j + 1) (0, 0)).1
                · have HB3 : Hid (true = true ↔ b' = true ∧ ∀ i, i + 1 < j + 1 + 1 → i + 1 < hh → ((G.N.getD k (0, [])).2.getD i (0, 0)).1 < ((G.N.getD k (0, [])).2.getD (i + 1) (0, 0)).1) := iff_true ⟨(HB2.out.1 rfl).1, fun i hi h2 => by
                    by_cases ei : i = j
                    · subst ei; exact e
                    · exact (HB2.out.1 rfl).2 i (by omega) h2⟩
                  clear HB2 p01 p11
                  generalize ((G.N.getD k (0, [])).2.getD j (0, 0)).1 = u0 at p00 e
                  generalize ((G.N.getD k (0, [])).2.getD (j + 1) (0, 0)).1 = u1 at p10 e
                  have e1 : decide (u0 < u1) = true := by simpa using e
                  clear e
                  go_wp2
                  go_quiet (fail)
                  go_wp2
                  go_roundw
                  case rel => exact ⟨j + 2, _, true, by omega, by omega, by go_num, rfl, (by show _ ↔ _; have h := HB3.out; simpa using h), rfl⟩
                  case measure => simp [intOf]; omega
                · have HB3 : Hid (false = true ↔ b' = true ∧ ∀ i, i + 1 < j + 1 + 1 → i + 1 < hh → ((G.N.getD k (0, [])).2.getD i (0, 0)).1 < ((G.N.getD k (0, [])).2.getD (i + 1) (0, 0)).1) := iff_false fun h => e (h.2 j (by omega) (by omega))
                  clear HB2 p01 p11
                  generalize ((G.N.getD k (0, [])).2.getD j (0, 0)).1 = u0 at p00 e
                  generalize ((G.N.getD k (0, [])).2.getD (j + 1) (0, 0)).1 = u1 at p10 e
                  have e1 : decide (u0 < u1) = false := by simpa using e
                  clear e
                  go_wp2
                  go_quiet (fail)
                  go_wp2
                  go_roundw
                  case rel => exact ⟨j + 2, _, false, by omega, by omega, by go_num, rfl, (by show _ ↔ _; have h := HB3.out; simpa using h), rfl⟩
                  case measure => simp [intOf]; omega
            ·
              have HBN : Hid (b2 = true ↔ b0 = true ∧ NodesUp G (k + 1)) := by
                show _ ↔ _
                have e1 := HPlen.out
                rw [HB2.out, HB'.out, HB.out, nodesUp_succ, HZ.out, HLK.out, ← EX.out]
                constructor
                · rintro ⟨⟨⟨h1, h2⟩, h3, h4⟩, h5⟩
                  exact ⟨h1, h2, h3, h4, fun i hi => h5 i (by omega) (by omega)⟩
                · rintro ⟨h1, h2, h3, h4, h5⟩
                  exact ⟨⟨⟨h1, h2⟩, h3, h4⟩, fun i hi h6 => h5 i (by omega)⟩
              have HPN : Hid (pk + hh = propsN G.N (k + 1)) := by show _ = _; rw [propsN_succ HK.out, HPK.out, ← HPlen.out]
              have HLN : Hid (z = lastN G.N (k + 1)) := HZ.out.symm
              have BD := hide (BU.out.drewN d)
              clear HB HB2 HB' HN PU BU
              go_wp2
              go_roundw
              case rel => exact ⟨k + 1, b2, by omega, by go_num, rfl, by rw [← HPN.out]; go_num, congrArg (Value.int .i64) HLN.out, HBN, BD⟩
              case measure => simp [intOf]; omega
      ·
        obtain rfl : k = nn := by omega
        have HPN : Hid (propsN G.N k = propsN G.N G.N.length) := by show _ = _; rw [LN.out]
        have HB1 : Hid (b = true ↔ b0 = true ∧ NodesUp G G.N.length) := by show _ ↔ _; rw [HB.out, LN.out]
        obtain ⟨pk, HPK⟩ : ∃ p, Hid (propsN G.N k = p) := ⟨_, rfl⟩
        have hpk : pk ≤ 10000 := by have := HPB.out k (by have := LN.out; omega); have := HPK.out; omega
        rw [HPK.out]
        have hl' : decide ((k : Int) < (k : Int)) = false := by simp
        obtain ⟨hc, hg, lc, lg⟩ := BR.out.cells
        go_wp2
        clear hc hg lc lg
        go_loopw [5, 7, 114] (fun o l i wx => ∃ (m : Nat) (b2 : Bool), m ≤ en ∧ i = .int .i64 m ∧ o = .bool b2 ∧ l = .int .i64 (lastE G.E m) ∧ Hid (b2 = true ↔ b = true ∧ EdgesUp G m) ∧ Hid (Bx2 w wx #[.int .i64 c0, .int .i64 c1, .int .i64 c2, .int .i64 c3, .int .i64 c4] #[.slice nA k nc, .slice eA en ec, .int .i64 x, .int .i64 y])) (fun _ _ i _ => en - (intOf i).toNat)
        case atStart => exact ⟨0, b, by omega, rfl, rfl, rfl, ⟨fun h => ⟨h, fun i hi => by omega⟩, fun h => h.1⟩, BR⟩
        case round =>
          obtain ⟨m, b2, hm, rfl, rfl, rfl, HB2, BR2⟩ := hrel
          clear BR HB
          by_cases hlm : m < en
          ·
            obtain ⟨b1, off, e, hb1, d0, d1, d2⟩ := edge_at HS.out.edges hlm
            dsimp only at e
            subst e
            have HK : Hid (m < G.E.length) := by have := LE.out; show _ < _; omega
            obtain ⟨a, Ha⟩ : ∃ z, Hid ((G.E.getD m (0, 0, 0)).1 = z) := ⟨_, rfl⟩
            rw [Ha.out] at d0
            have k0 := (BR2.out.bel.cell (p := ⟨b1, _, none⟩) hb1).trans d0
            obtain ⟨f, Hf⟩ : ∃ z, Hid ((G.E.getD m (0, 0, 0)).2.1 = z) := ⟨_, rfl⟩
            rw [Hf.out] at d1
            have k1 := (BR2.out.bel.cell (p := ⟨b1, _, none⟩) hb1).trans d1
            obtain ⟨t, Ht⟩ : ∃ z, Hid ((G.E.getD m (0, 0, 0)).2.2 = z) := ⟨_, rfl⟩
            rw [Ht.out] at d2
            have k2 := (BR2.out.bel.cell (p := ⟨b1, _, none⟩) hb1).trans d2
            clear d0 d1 d2
            obtain ⟨hc, hg, lc, lg⟩ := BR2.out.cells
            obtain ⟨lk, HLK⟩ : ∃ l, Hid (lastE G.E m = l) := ⟨_, rfl⟩
            rw [HLK.out]
            go_upto_region 19 with fail
            obtain ⟨U, hU⟩ : ∃ U, Hid (wr.alloc (.cells #[.int .i64 a, .int .i64 f, .int .i64 t] 79) = U) := ⟨_, rfl⟩
            obtain ⟨gn, hgn⟩ : ∃ g, Hid (wr.heap.size = g) := ⟨_, rfl⟩
            have BU : Hid (Bx2 w U #[.int .i64 c0, .int .i64 c1, .int .i64 c2, .int .i64 c3, .int .i64 c4] #[.slice nA k nc, .slice (some ⟨b1, off, none⟩) en ec, .int .i64 x, .int .i64 y]) := by show Bx2 _ _ _ _; rw [← hU.out]; exact BR2.out.al _
            have HN : Hid (U.heap[gn]? = some (.cells #[.int .i64 a, .int .i64 f, .int .i64 t] 79 (0, 0))) := by show _ = _; rw [← hU.out, ← hgn.out]; exact heap_alloc_new _ _
            have hU' := hU.out
            have hg' := hgn.out
            rw [hU', hg']
            clear hU hgn hU' hg' BR2 hc hg lc lg k0 k1 k2
            go_cut [5] (fun o wx => ∃ b', o = .bool b' ∧ Hid (b' = true ↔ b2 = true ∧ lk < a ∧ a < y ∧ isN G f = true ∧ isN G t = true) ∧ Hid (Bx2 w wx #[.int .i64 c0, .int .i64 c1, .int .i64 c2, .int .i64 c3, .int .i64 c4] #[.slice nA k nc, .slice (some ⟨b1, off, none⟩) en ec, .int .i64 x, .int .i64 y]) ∧ Hid (wx.heap[gn]? = some (.cells #[.int .i64 a, .int .i64 f, .int .i64 t] 79 (0, 0))))
            case first =>
              obtain ⟨hc, hg, lc, lg⟩ := BU.out.cells
              obtain ⟨hn, -, ln⟩ := bx_all HN.out
              cases b2
              · go_wp2_with fail
                go_meet
                exact ⟨false, rfl, (by show _ ↔ _; simp), BU, HN⟩
              ·
                by_cases t1 : lk < a
                ·
                  have e1 : decide (lk < a) = true := by simpa using t1
                  by_cases t2 : a < y
                  ·
                    have e2 : decide (a < y) = true := by simpa using t2
                    obtain ⟨rf, Hrf⟩ : ∃ r, Hid (atI G.N f = r) := ⟨_, rfl⟩
                    obtain ⟨rt, Hrt⟩ : ∃ r, Hid (atI G.N t = r) := ⟨_, rfl⟩
                    have IF : Hid (isN G f = decide (0 ≤ rf)) := by show _ = _; rw [← Hrf.out]; rfl
                    have IT : Hid (isN G t = decide (0 ≤ rt)) := by show _ = _; rw [← Hrt.out]; rfl
                    go_wp2_with fail
                    refine (at_any ⟨⟨nA, k, nc⟩, ⟨some ⟨b1, off, none⟩, en, ec⟩, x, y⟩ G f rf U ((HS.out.below BU.out.bel (Nat.le_refl _)).more BU.out.bel.size) (by dsimp only; omega) Hrf).mono ?_
                    rintro e u1 ⟨rfl, hu⟩
                    have BU1 := hide (BU.out.step hu)
                    have HN1 := hide (bx_step HN.out hu)
                    clear hu hc hg lc lg hn ln BU HN
                    obtain ⟨hc, hg, lc, lg⟩ := BU1.out.cells
                    obtain ⟨hn, -, ln⟩ := bx_all HN1.out
                    by_cases t3 : 0 ≤ rf
                    ·
                      have e3 : decide (0 ≤ rf) = true := by simpa using t3
                      go_wp2_with fail
                      refine (at_any ⟨⟨nA, k, nc⟩, ⟨some ⟨b1, off, none⟩, en, ec⟩, x, y⟩ G t rt u1 ((HS.out.below BU1.out.bel (Nat.le_refl _)).more BU1.out.bel.size) (by dsimp only; omega) Hrt).mono ?_
                      rintro e u2 ⟨rfl, hu⟩
                      have BU2 := hide (BU1.out.step hu)
                      have HN2 := hide (bx_step HN1.out hu)
                      clear hu hc hg lc lg hn ln BU1 HN1
                      by_cases t4 : 0 ≤ rt
                      · have e4 : decide (0 ≤ rt) = true := by simpa using t4
                        go_wp2_with fail
                        go_meet
                        exact ⟨true, rfl, (by show _ ↔ _; rw [IF.out, IT.out]; simp; omega), BU2, HN2⟩
                      · have e4 : decide (0 ≤ rt) = false := by simpa using t4
                        go_wp2_with fail
                        go_meet
                        exact ⟨false, rfl, (by show _ ↔ _; rw [IF.out, IT.out]; simp; omega), BU2, HN2⟩
                    · have e3 : decide (0 ≤ rf) = false := by simpa using t3
                      go_wp2_with fail
                      go_meet
                      exact ⟨false, rfl, (by show _ ↔ _; rw [IF.out]; simp; omega), BU1, HN1⟩
                  · have e2 : decide (a < y) = false := by simpa using t2
                    go_wp2_with fail
                    go_meet
                    exact ⟨false, rfl, (by show _ ↔ _; simp; omega), BU, HN⟩
                · have e1 : decide (lk < a) = false := by simpa using t1
                  go_wp2_with fail
                  go_meet
                  exact ⟨false, rfl, (by show _ ↔ _; simp; omega), BU, HN⟩
            case rest =>
              obtain ⟨b', rfl, HB', BU', HN'⟩ := hcut
              clear BU HN
              have HBN : Hid (b' = true ↔ b = true ∧ EdgesUp G (m + 1)) := by
                show _ ↔ _
                rw [HB'.out, HB2.out, edgesUp_succ, Ha.out, Hf.out, Ht.out, HLK.out, ← EY.out]
                constructor
                · rintro ⟨⟨h1, h2⟩, h3⟩
                  exact ⟨h1, h2, h3⟩
                · rintro ⟨h1, h2, h3⟩
                  exact ⟨⟨h1, h2⟩, h3⟩
              have HLN : Hid (a = lastE G.E (m + 1)) := Ha.out.symm
              obtain ⟨hn, -, ln⟩ := bx_all HN'.out
              clear HB' HB2 HN'
              go_wp2
              go_roundw
              case rel => exact ⟨m + 1, b', by omega, by go_num, rfl, congrArg (Value.int .i64) HLN.out, HBN, BU'⟩
              case measure => simp [intOf]; omega
          ·
            obtain rfl : m = en := by omega
            have hm' : decide ((m : Int) < (m : Int)) = false := by simp
            have HQ := hide (okg_q hq.out HB0.out HB1.out HB2.out LE.out HPN.out HPK.out)
            obtain ⟨hc, hg, lc, lg⟩ := BR2.out.cells
            have BF := hide BR2.out.bel
            obtain ⟨qe, hqe⟩ : ∃ z, Hid (errOf q = z) := ⟨_, rfl⟩
            cases b2
            · have hqf : Hid (qe = 1) := okq_no hqe.out HQ.out
              clear HQ BR2 HB2 HB1 HB0 hq
              go_wp2
              go_ret
              rw [hqe.out, hqf.out]
              exact ⟨rfl, BF.out⟩
            · by_cases t : (pk : Int) ≤ c2
              · have e1 : decide (c2 < (pk : Int)) = false := by simp; omega
                have hqt : Hid (qe = 0) := okq_yes hqe.out HQ.out t
                clear t HQ BR2 HB2 HB1 HB0 hq
                go_wp2
                go_ret
                rw [hqe.out, hqt.out]
                exact ⟨rfl, BF.out⟩
              · have e1 : decide (c2 < (pk : Int)) = true := by simp; omega
                have hqf : Hid (qe = 1) := okq_gt hqe.out HQ.out t
                clear t HQ BR2 HB2 HB1 HB0 hq
                go_wp2
                go_ret
                rw [hqe.out, hqf.out]
                exact ⟨rfl, BF.out⟩

end Go.Proofs.YtiiadkjiofkonaaGreat
