/- Whether a graph may be: the code. -/
import Derived.Test.YtiiadkjiofkonaaGRise
import Derived.Test.YtiiadkjiofkonaaGFind
import Derived.Test.YtiiadkjiofkonaaGRCheck
import Derived.WalkKit
import Derived.Below
import Derived.Deep.QuietTactic
import Derived.BigQuiet
import Derived.Deep.RegionHeld3
import Derived.Deep.DeepCutAuto
import Derived.Shelf.Abstract
namespace Go.Proofs.Ytiiadkjiofkonaa
open Go.RowKit
set_option linter.unusedVariables false

theorem no_q {q : Bool} {p : Prop} (h : q = true ↔ p) (hp : ¬ p) : q = false := by
  cases q with
  | false => rfl
  | true => exact absurd (h.1 rfl) hp

theorem rise_lt {α : Type} {f : α → Int} {d : α} {l : List α} (h : Rise f d l) : ∀ j i, i ≤ j → j < l.length → f (l.getD i d) ≤ f (l.getD j d)
  | 0, i, hi, _ => by obtain rfl : i = 0 := by omega
                      exact Int.le_refl _
  | j + 1, i, hi, hj => by
    have h1 := h j hj
    rcases Nat.lt_or_ge j i with x | x
    · obtain rfl : i = j + 1 := by omega
      exact Int.le_refl _
    · have h2 := rise_lt h j i x (by omega)
      omega
theorem rise_ends {α : Type} {f : α → Int} {d : α} {l : List α} {m : Nat} (h : Rise f d l) (hl : l.length = m + 1) : ∀ i, i < l.length → f (l.getD 0 d) ≤ f (l.getD i d) ∧ f (l.getD i d) ≤ f (l.getD m d) := fun i hi => ⟨rise_lt h i 0 (by omega) hi, rise_lt h m i (by omega) (by omega)⟩

set_option maxRecDepth 100000 in
set_option maxHeartbeats 4000000 in
theorem givenN_any (v : Sl) (L : List Nd) (x : Int) (q : Bool) (w : World) (hN : Nodes w w.heap.size v L) (hn : v.n ≤ 1000) (hq : Hid (q = true ↔ Rise (fun z : Nd => z.1) (0, []) L ∧ ∀ i, i < L.length → 1 ≤ (L.getD i (0, [])).1 ∧ (L.getD i (0, [])).1 < x)) :
    Calls Try.prog 120 #[.slice v.A v.n v.c, .func (.func 64) #[] #[], .int .i64 x] w (Drew (.bool q) w) := by
  obtain ⟨A, n, c⟩ := v
  have HN := hide hN
  have HL : Hid (n = L.length) := hN.1.symm
  dsimp only at hn
  clear hN
  obtain ⟨q1, hq1⟩ := bool_of (Rise (fun z : Nd => z.1) (0, []) L)
  have HQ1 := hide hq1
  clear hq1
  have CR := hide (risesN_any ⟨A, n, c⟩ L q1 w HN.out hn HQ1)
  by_cases h0 : n = 0
  · subst h0
    have HT : Hid (q = true) := hq.out.2 ⟨fun i hi => absurd hi (by have := HL.out; omega), fun i hi => absurd hi (by have := HL.out; omega)⟩
    go_enter Try.func120, Try.ntmps120
    go_wp2
    go_ret
    rw [HT.out]
    exact ⟨rfl, Below.refl _ _⟩
  · obtain ⟨m, rfl⟩ : ∃ m, n = m + 1 := ⟨n - 1, by omega⟩
    have t0 : ((m : Int) + 1 == 0) = false := by simp; omega
    have t0' : (((m + 1 : Nat) : Int) == 0) = false := by simp; omega
    go_enter Try.func120, Try.ntmps120
    go_wp2_with fail
    refine CR.out.mono ?_
    clear CR
    rintro e u1 ⟨rfl, hu1⟩
    have HB1 := hide hu1
    clear hu1
    cases q1
    · have HF : Hid (q = false) := no_q hq.out fun h => by have := HQ1.out.2 h.1; cases this
      go_wp2
      go_ret
      rw [HF.out]
      exact ⟨rfl, HB1.out⟩
    · have HRI := hide (HQ1.out.1 rfl)
      have HL1 : Hid (L.length = m + 1) := by have := HL.out; show _ = _; omega
      have HLT : Hid (∀ i, i < L.length → (L.getD 0 (0, [])).1 ≤ (L.getD i (0, [])).1 ∧ (L.getD i (0, [])).1 ≤ (L.getD m (0, [])).1) := rise_ends HRI.out HL1.out
      obtain ⟨b00, off0, e00, hb00, c00, ⟨hA0, hh0, hcc0⟩, c10, -⟩ := (HN.out.below HB1.out (Nat.le_refl _)).at_ (k := 0) (show 0 < m + 1 by omega)
      dsimp only at e00 c10
      subst e00
      simp only [Nat.zero_mul, Nat.add_zero] at c00 c10
      obtain ⟨z0, HZ0⟩ : ∃ z, Hid ((L.getD 0 (0, [])).1 = z) := ⟨_, rfl⟩
      rw [HZ0.out] at c00
      have i0 : (0 : Int) < (m : Int) + 1 := by omega
      go_wp2_with fail
      refine (nodeNumber_any _ _ _ _ _).mono ?_
      rintro e u2 ⟨rfl, hu2⟩
      have HB2 := hide (HB1.out.trans (hu2.mono HB1.out.size))
      clear hu2 c00 c10
      by_cases e1 : 1 ≤ z0
      · have t1 : decide (1 ≤ z0) = true := by simpa using e1
        obtain ⟨b01, off1, e01, hb01, c01, ⟨hA1, hh1, hcc1⟩, c11, -⟩ := (HN.out.below HB2.out (Nat.le_refl _)).at_ (k := m) (show m < m + 1 by omega)
        dsimp only at e01 c11
        simp only [Option.some.injEq, Addr.mk.injEq, and_true] at e01
        obtain ⟨rfl, rfl⟩ := e01
        obtain ⟨z1, HZ1⟩ : ∃ z, Hid ((L.getD m (0, [])).1 = z) := ⟨_, rfl⟩
        rw [HZ1.out] at c01
        have i1 : (0 : Int) ≤ (m : Int) := by omega
        have i2 : (m : Int) < (m : Int) + 1 := by omega
        have i5 : IntKind.i64.wrap ((m : Int) + 1 - 1) = (m : Int) := by simp [IntKind.wrap, IntKind.bits, IntKind.signed]; omega
        have i6 : IntKind.i64.wrap (m : Int) = (m : Int) := by simp [IntKind.wrap, IntKind.bits, IntKind.signed]; omega
        go_wp2_with fail
        refine (nodeNumber_any _ _ _ _ _).mono ?_
        rintro e u3 ⟨rfl, hu3⟩
        have HB3 := hide (HB2.out.trans (hu3.mono HB2.out.size))
        clear hu3 c01 c11
        by_cases e2 : z1 < x
        · have t2 : decide (z1 < x) = true := by simpa using e2
          have HT : Hid (q = true) := hq.out.2 ⟨HRI.out, fun i hi => by have := HLT.out i hi; have := HZ0.out; have := HZ1.out; omega⟩
          go_wp2
          go_ret
          rw [HT.out]
          exact ⟨rfl, HB3.out⟩
        · have t2 : decide (z1 < x) = false := by simpa using e2
          have HF : Hid (q = false) := no_q hq.out fun h => by have := h.2 m (by have := HL1.out; omega); have := HZ1.out; omega
          go_wp2
          go_ret
          rw [HF.out]
          exact ⟨rfl, HB3.out⟩
      · have t1 : decide (1 ≤ z0) = false := by simpa using e1
        have HF : Hid (q = false) := no_q hq.out fun h => by have := h.2 0 (by have := HL1.out; omega); have := HZ0.out; omega
        go_wp2
        go_ret
        rw [HF.out]
        exact ⟨rfl, HB2.out⟩

set_option maxRecDepth 100000 in
set_option maxHeartbeats 4000000 in
theorem givenE_any (A : Option Addr) (n c : Nat) (L : List Ed) (x : Int) (q : Bool) (w : World) (hN : Nums w w.heap.size 3 A n (flat3 L)) (hn : n ≤ 1000) (hq : Hid (q = true ↔ Rise (fun z : Ed => z.1) (0, 0, 0) L ∧ ∀ i, i < L.length → 1 ≤ (L.getD i (0, 0, 0)).1 ∧ (L.getD i (0, 0, 0)).1 < x)) :
    Calls Try.prog 121 #[.slice A n c, .func (.func 57) #[] #[], .int .i64 x] w (Drew (.bool q) w) := by
  have HN := hide hN
  have HL := hide (edges_len hN)
  clear hN
  obtain ⟨q1, hq1⟩ := bool_of (Rise (fun z : Ed => z.1) (0, 0, 0) L)
  have HQ1 := hide hq1
  clear hq1
  have CR := hide (risesE_any A n c L q1 w HN.out hn HQ1)
  by_cases h0 : n = 0
  · subst h0
    have HT : Hid (q = true) := hq.out.2 ⟨fun i hi => absurd hi (by have := HL.out; omega), fun i hi => absurd hi (by have := HL.out; omega)⟩
    go_enter Try.func121, Try.ntmps121
    go_wp2
    go_ret
    rw [HT.out]
    exact ⟨rfl, Below.refl _ _⟩
  · obtain ⟨m, rfl⟩ : ∃ m, n = m + 1 := ⟨n - 1, by omega⟩
    have t0 : ((m : Int) + 1 == 0) = false := by simp; omega
    have t0' : (((m + 1 : Nat) : Int) == 0) = false := by simp; omega
    go_enter Try.func121, Try.ntmps121
    go_wp2_with fail
    refine CR.out.mono ?_
    clear CR
    rintro e u1 ⟨rfl, hu1⟩
    have HB1 := hide hu1
    clear hu1
    cases q1
    · have HF : Hid (q = false) := no_q hq.out fun h => by have := HQ1.out.2 h.1; cases this
      go_wp2
      go_ret
      rw [HF.out]
      exact ⟨rfl, HB1.out⟩
    · have HRI := hide (HQ1.out.1 rfl)
      have HL1 : Hid (L.length = m + 1) := by have := HL.out; show _ = _; omega
      have HLT : Hid (∀ i, i < L.length → (L.getD 0 (0, 0, 0)).1 ≤ (L.getD i (0, 0, 0)).1 ∧ (L.getD i (0, 0, 0)).1 ≤ (L.getD m (0, 0, 0)).1) := rise_ends HRI.out HL1.out
      obtain ⟨b00, off0, e00, hb00, c00, c10, c20⟩ := edge_at (k := 0) (HN.out.below HB1.out (Nat.le_refl _)) (show 0 < m + 1 by omega)
      subst e00
      simp only [Nat.zero_mul, Nat.add_zero] at c00 c10 c20
      obtain ⟨z0, HZ0⟩ : ∃ z, Hid ((L.getD 0 (0, 0, 0)).1 = z) := ⟨_, rfl⟩
      rw [HZ0.out] at c00
      have i0 : (0 : Int) < (m : Int) + 1 := by omega
      go_wp2_with fail
      refine (edgeNumber_any _ _ _ _).mono ?_
      rintro e u2 ⟨rfl, hu2⟩
      have HB2 := hide (HB1.out.trans (hu2.mono HB1.out.size))
      clear hu2 c00 c10 c20
      by_cases e1 : 1 ≤ z0
      · have t1 : decide (1 ≤ z0) = true := by simpa using e1
        obtain ⟨b01, off1, e01, hb01, c01, c11, c21⟩ := edge_at (k := m) (HN.out.below HB2.out (Nat.le_refl _)) (show m < m + 1 by omega)
        simp only [Option.some.injEq, Addr.mk.injEq, and_true] at e01
        obtain ⟨rfl, rfl⟩ := e01
        obtain ⟨z1, HZ1⟩ : ∃ z, Hid ((L.getD m (0, 0, 0)).1 = z) := ⟨_, rfl⟩
        rw [HZ1.out] at c01
        have i1 : (0 : Int) ≤ (m : Int) := by omega
        have i2 : (m : Int) < (m : Int) + 1 := by omega
        have i5 : IntKind.i64.wrap ((m : Int) + 1 - 1) = (m : Int) := by simp [IntKind.wrap, IntKind.bits, IntKind.signed]; omega
        have i6 : IntKind.i64.wrap (m : Int) = (m : Int) := by simp [IntKind.wrap, IntKind.bits, IntKind.signed]; omega
        go_wp2_with fail
        refine (edgeNumber_any _ _ _ _).mono ?_
        rintro e u3 ⟨rfl, hu3⟩
        have HB3 := hide (HB2.out.trans (hu3.mono HB2.out.size))
        clear hu3 c01 c11 c21
        by_cases e2 : z1 < x
        · have t2 : decide (z1 < x) = true := by simpa using e2
          have HT : Hid (q = true) := hq.out.2 ⟨HRI.out, fun i hi => by have := HLT.out i hi; have := HZ0.out; have := HZ1.out; omega⟩
          go_wp2
          go_ret
          rw [HT.out]
          exact ⟨rfl, HB3.out⟩
        · have t2 : decide (z1 < x) = false := by simpa using e2
          have HF : Hid (q = false) := no_q hq.out fun h => by have := h.2 m (by have := HL1.out; omega); have := HZ1.out; omega
          go_wp2
          go_ret
          rw [HF.out]
          exact ⟨rfl, HB3.out⟩
      · have t1 : decide (1 ≤ z0) = false := by simpa using e1
        have HF : Hid (q = false) := no_q hq.out fun h => by have := h.2 0 (by have := HL1.out; omega); have := HZ0.out; omega
        go_wp2
        go_ret
        rw [HF.out]
        exact ⟨rfl, HB2.out⟩

theorem isNext_any (a b : Int) (q : Bool) (w : World) (hb : 1 ≤ b ∧ b ≤ 1000) (hq : Hid (q = true ↔ 1 ≤ a ∧ a ≤ b + 1)) :
    Calls Try.prog 118 #[.int .i64 a, .int .i64 b] w fun e w' => e = .returned (.bool q) ∧ w' = w := by
  obtain ⟨hb1, hb2⟩ := hb
  by_cases e1 : 1 ≤ a
  · have t1 : decide (1 ≤ a) = true := by simpa using e1
    by_cases e2 : a ≤ b + 1
    · have t2 : decide (a ≤ b + 1) = true := by simpa using e2
      have HT : Hid (q = true) := hq.out.2 ⟨e1, e2⟩
      go_enter Try.func118, Try.ntmps118
      go_wp2
      go_ret
      rw [HT.out]
      exact ⟨rfl, rfl⟩
    · have t2 : decide (a ≤ b + 1) = false := by simpa using e2
      have HF : Hid (q = false) := no_q hq.out fun h => e2 h.2
      go_enter Try.func118, Try.ntmps118
      go_wp2
      go_ret
      rw [HF.out]
      exact ⟨rfl, rfl⟩
  · have t1 : decide (1 ≤ a) = false := by simpa using e1
    have HF : Hid (q = false) := no_q hq.out fun h => e1 h.1
    go_enter Try.func118, Try.ntmps118
    go_wp2
    go_ret
    rw [HF.out]
    exact ⟨rfl, rfl⟩

/-- What is asked of how much there is, and of how far the numbers go. -/
structure Fits (c0 c1 c2 c3 c4 : Int) (G : GL) : Prop where
  n : (G.N.length : Int) ≤ c0
  e : (G.E.length : Int) ≤ c1
  p : (propsN G.N G.N.length : Int) ≤ c2
  x : 1 ≤ G.x ∧ G.x ≤ c3 + 1
  y : 1 ≤ G.y ∧ G.y ≤ c4 + 1
set_option maxRecDepth 100000 in
set_option maxHeartbeats 4000000 in
theorem fits_any (c0 c1 c2 c3 c4 : Int) (v : Gv) (G : GL) (q : Bool) (w : World) (S : Sees w w.heap.size v G) (HF : FewG G) (HC : Hid (Place.Ok c0 c1 c2 c3 c4)) (hq : Hid (q = true ↔ Fits c0 c1 c2 c3 c4 G)) :
    Calls Try.prog 85 #[.agg #[.int .i64 c0, .int .i64 c1, .int .i64 c2, .int .i64 c3, .int .i64 c4], v.val] w (Drew (.bool q) w) := by
  obtain ⟨⟨nA, nn, nc⟩, ⟨eA, en, ec⟩, x, y⟩ := v
  show Calls Try.prog 85 #[.agg #[.int .i64 c0, .int .i64 c1, .int .i64 c2, .int .i64 c3, .int .i64 c4], .agg #[.slice nA nn nc, .slice eA en ec, .int .i64 x, .int .i64 y]] w _
  have HS := hide S
  have ln := S.nodes.1
  have le := edges_len S.edges
  have EX : Hid (x = G.x) := S.x
  have EY : Hid (y = G.y) := S.y
  dsimp only at ln le
  have hnn : nn ≤ 100 := by have := HF.2.1; omega
  have hen : en ≤ 100 := by have := HF.2.2; omega
  have LN := hide ln
  have LE := hide le
  have HPB := hide (propsN_le HF.1)
  have HFP := hide HF.1
  clear S HF ln le
  obtain ⟨W, hW⟩ : ∃ W, Hid ((w.alloc (.cells #[.int .i64 c0, .int .i64 c1, .int .i64 c2, .int .i64 c3, .int .i64 c4] 23)).alloc (.cells #[.slice nA nn nc, .slice eA en ec, .int .i64 x, .int .i64 y] 27) = W) := ⟨_, rfl⟩
  have BB : Hid (Bx2 w W #[.int .i64 c0, .int .i64 c1, .int .i64 c2, .int .i64 c3, .int .i64 c4] #[.slice nA nn nc, .slice eA en ec, .int .i64 x, .int .i64 y]) := by show Bx2 _ _ _ _; rw [← hW.out]; exact ⟨boxed2 w _ _, heap_alloc2_old w _ _, heap_alloc2_new w _ _⟩
  have hc3 : 1 ≤ c3 ∧ c3 ≤ 1000 := by have := HC.out.2.2.2.1; omega
  have hc4 : 1 ≤ c4 ∧ c4 ≤ 1000 := by have := HC.out.2.2.2.2; omega
  clear HC
  go_enter Try.func85, Try.ntmps85
  go_upto_region 1 with fail
  have hW' := hW.out
  rw [hW']
  clear hW hW'
  obtain ⟨hc, hg, lc, lg⟩ := BB.out.cells
  by_cases t1 : (nn : Int) ≤ c0
  · have d1 : decide (c0 < (nn : Int)) = false := by simp; omega
    by_cases t2 : (en : Int) ≤ c1
    · have d2 : decide (c1 < (en : Int)) = false := by simp; omega
      go_wp2
      clear hc hg lc lg d1 d2
      go_loopw [5, 25] (fun p i wx => ∃ k : Nat, k ≤ nn ∧ i = .int .i64 k ∧ p = .int .i64 (propsN G.N k : Nat) ∧ Hid (Bx2 w wx #[.int .i64 c0, .int .i64 c1, .int .i64 c2, .int .i64 c3, .int .i64 c4] #[.slice nA nn nc, .slice eA en ec, .int .i64 x, .int .i64 y])) (fun _ i _ => nn - (intOf i).toNat)
      case atStart => exact ⟨0, by omega, rfl, rfl, BB⟩
      case round =>
        obtain ⟨k, hk, rfl, rfl, BR⟩ := hrel
        clear BB
        by_cases hlt : k < nn
        · obtain ⟨b1, off, e, hb1, d0, ⟨hA, hh, hcc⟩, d1, hP⟩ := HS.out.nodes.at_ hlt
          dsimp only at e d1
          subst e
          have HK : Hid (k < G.N.length) := by have := LN.out; show _ < _; omega
          have hhb : hh ≤ 100 := by have := HFP.out k HK.out; have := hP.len; dsimp only at this; omega
          have hpb : propsN G.N k ≤ 10000 := by have := HPB.out k (Nat.le_of_lt HK.out); have := LN.out; omega
          have HPS : Hid (propsN G.N (k + 1) = propsN G.N k + hh) := by
            show _ = _
            have e := hP.len
            dsimp only at e
            rw [propsN_succ HK.out, e]
          obtain ⟨z, HZ⟩ : ∃ z, Hid ((G.N.getD k (0, [])).1 = z) := ⟨_, rfl⟩
          rw [HZ.out] at d0
          have k0 := (BR.out.bel.cell (p := ⟨b1, _, none⟩) hb1).trans d0
          have k1 := (BR.out.bel.cell (p := ⟨b1, _, none⟩) hb1).trans d1
          clear d0 d1 hP
          obtain ⟨pk, HPK⟩ : ∃ p, Hid (propsN G.N k = p) := ⟨_, rfl⟩
          have HPK' := HPK.out
          rw [HPK'] at hpb HPS ⊢
          clear HPK'
          have BRA := fun o => hide (BR.out.al o)
          obtain ⟨hc, hg, lc, lg⟩ := BR.out.cells
          go_wp2
          go_roundw
          case rel => exact ⟨k + 1, by omega, by go_num, by rw [HPS.out]; go_num, BRA _⟩
          case measure => simp [intOf]; omega
        · obtain rfl : k = nn := by omega
          have HPA : Hid (propsN G.N k = propsN G.N G.N.length) := by show _ = _; rw [LN.out]
          have hpb : propsN G.N k ≤ 10000 := by have := HPB.out k (by have := LN.out; omega); omega
          obtain ⟨pk, HPK⟩ : ∃ p, Hid (propsN G.N k = p) := ⟨_, rfl⟩
          have HPK' := HPK.out
          rw [HPK'] at hpb HPA ⊢
          clear HPK'
          obtain ⟨hc, hg, lc, lg⟩ := BR.out.cells
          by_cases t3 : (pk : Int) ≤ c2
          · have d3 : decide ((pk : Int) ≤ c2) = true := by simpa using t3
            obtain ⟨qx, hqx⟩ := bool_of (1 ≤ x ∧ x ≤ c3 + 1)
            obtain ⟨qy, hqy⟩ := bool_of (1 ≤ y ∧ y ≤ c4 + 1)
            have HX := hide hqx
            have HY := hide hqy
            clear hqx hqy
            go_wp2_with fail
            refine (isNext_any x c3 qx _ hc3 HX).mono ?_
            rintro e u1 ⟨rfl, rfl⟩
            cases qx
            · have HF : Hid (q = false) := no_q hq.out fun h => by have := HX.out.2 (by rw [EX.out]; exact h.x); cases this
              go_wp2
              go_ret
              rw [HF.out]
              exact ⟨rfl, BR.out.bel⟩
            · go_wp2_with fail
              refine (isNext_any y c4 qy _ hc4 HY).mono ?_
              rintro e u1 ⟨rfl, rfl⟩
              have HE : Hid (q = qy) := by
                show _ = _
                rw [Bool.eq_iff_iff, hq.out, HY.out]
                have h1 := HX.out.1 (by first | rfl | trivial)
                have h2 := LN.out
                have h3 := LE.out
                have h4 := HPA.out
                have h5 := EX.out
                have h6 := EY.out
                refine ⟨fun h => by rw [h6]; exact h.y, fun h => ⟨by rw [h2]; exact t1, by rw [← h3]; exact t2, by rw [← h4]; exact t3, by rw [← h5]; exact h1, by rw [← h6]; exact h⟩⟩
              clear HX HY
              go_wp2
              go_ret
              rw [HE.out]
              exact ⟨rfl, BR.out.bel⟩
          · have d3 : decide ((pk : Int) ≤ c2) = false := by simpa using t3
            have HF : Hid (q = false) := no_q hq.out fun h => t3 (by have := h.p; rw [← HPA.out] at this; exact this)
            go_wp2
            go_ret
            rw [HF.out]
            exact ⟨rfl, BR.out.bel⟩
    · have d2 : decide (c1 < (en : Int)) = true := by simp; omega
      have HF : Hid (q = false) := no_q hq.out fun h => t2 (by have := h.e; have := LE.out; omega)
      go_wp2
      go_ret
      rw [HF.out]
      exact ⟨rfl, BB.out.bel⟩
  · have d1 : decide (c0 < (nn : Int)) = true := by simp; omega
    have HF : Hid (q = false) := no_q hq.out fun h => t1 (by have := h.n; have := LN.out; omega)
    go_wp2
    go_ret
    rw [HF.out]
    exact ⟨rfl, BB.out.bel⟩

def NodesOk (G : GL) : Prop := (∀ i, i < G.N.length → Rise (fun z : Pr => z.1) (0, 0) (G.N.getD i (0, [])).2) ∧ Rise (fun z : Nd => z.1) (0, []) G.N ∧ ∀ i, i < G.N.length → 1 ≤ (G.N.getD i (0, [])).1 ∧ (G.N.getD i (0, [])).1 < G.x
set_option maxRecDepth 100000 in
set_option maxHeartbeats 4000000 in
theorem nodesMayBe_any (v : Gv) (G : GL) (q : Bool) (w : World) (S : Sees w w.heap.size v G) (HF : FewG G) (hq : Hid (q = true ↔ NodesOk G)) :
    Calls Try.prog 86 #[v.val] w (Drew (.bool q) w) := by
  obtain ⟨⟨nA, nn, nc⟩, ⟨eA, en, ec⟩, x, y⟩ := v
  show Calls Try.prog 86 #[.agg #[.slice nA nn nc, .slice eA en ec, .int .i64 x, .int .i64 y]] w _
  have HS := hide S
  have ln := S.nodes.1
  have le := edges_len S.edges
  have EX : Hid (x = G.x) := S.x
  have EY : Hid (y = G.y) := S.y
  dsimp only at ln le
  have hnn : nn ≤ 100 := by have := HF.2.1; omega
  have hen : en ≤ 100 := by have := HF.2.2; omega
  have LN := hide ln
  have LE := hide le
  have HPB := hide (propsN_le HF.1)
  have HFP := hide HF.1
  clear S HF ln le
  obtain ⟨W, hW⟩ : ∃ W, Hid (w.alloc (.cells #[.slice nA nn nc, .slice eA en ec, .int .i64 x, .int .i64 y] 27) = W) := ⟨_, rfl⟩
  have BW : Hid (Below w.heap.size w W) := by show Below _ _ _; rw [← hW.out]; exact (Below.refl _ _).alloc (Nat.le_refl _) _
  have HW : Hid (W.heap[w.heap.size]? = some (.cells #[.slice nA nn nc, .slice eA en ec, .int .i64 x, .int .i64 y] 27 (0, 0))) := by show _ = _; rw [← hW.out]; exact heap_alloc_new w _
  go_enter Try.func86, Try.ntmps86
  go_upto_region 1 with fail
  have hW' := hW.out
  rw [hW']
  clear hW hW'
  obtain ⟨c, -, l⟩ := bx_all HW.out
  go_wp2
  clear c l
  go_loopw [8] (fun i wx => ∃ k : Nat, k ≤ nn ∧ i = .int .i64 k ∧ Hid (∀ j, j < k → Rise (fun z : Pr => z.1) (0, 0) (G.N.getD j (0, [])).2) ∧ Hid (Below w.heap.size w wx) ∧ Hid (wx.heap[w.heap.size]? = some (.cells #[.slice nA nn nc, .slice eA en ec, .int .i64 x, .int .i64 y] 27 (0, 0)))) (fun i _ => nn - (intOf i).toNat)
  case atStart => exact ⟨0, by omega, rfl, (fun j hj => by omega), BW, HW⟩
  case round =>
    obtain ⟨k, hk, rfl, HR, BR, HR2⟩ := hrel
    clear BW HW
    by_cases hlt : k < nn
    · obtain ⟨b1, off, e, hb1, d0, ⟨hA, hh, hcc⟩, d1, hP⟩ := HS.out.nodes.at_ hlt
      dsimp only at e d1
      subst e
      have HK : Hid (k < G.N.length) := by have := LN.out; show _ < _; omega
      have hhb : hh ≤ 1000 := by have := HFP.out k HK.out; have := hP.len; dsimp only at this; omega
      obtain ⟨z, HZ⟩ : ∃ z, Hid ((G.N.getD k (0, [])).1 = z) := ⟨_, rfl⟩
      rw [HZ.out] at d0
      have k0 := (BR.out.cell (p := ⟨b1, _, none⟩) hb1).trans d0
      have k1 := (BR.out.cell (p := ⟨b1, _, none⟩) hb1).trans d1
      have HP := hide ((hP.below BR.out (Nat.le_refl _)).more BR.out.size)
      clear d0 d1 hP
      obtain ⟨qr, hqr⟩ := bool_of (Rise (fun z : Pr => z.1) (0, 0) (G.N.getD k (0, [])).2)
      have HQR := hide hqr
      clear hqr
      have CR : Hid (∀ o, Calls Try.prog 119 #[.slice hA hh hcc, .func (.func 75) #[] #[]] (wr.alloc o) (Drew (.bool qr) (wr.alloc o))) := fun o => risesP_any hA hh hcc (G.N.getD k (0, [])).2 qr (wr.alloc o) ((HP.out.below ((Below.refl _ _).alloc (Nat.le_refl _) o) (Nat.le_refl _)).more (by simp)).1 hhb HQR
      obtain ⟨c, -, l⟩ := bx_all HR2.out
      go_wp2_with fail
      refine (CR.out _).mono ?_
      clear CR HP
      rintro e u1 ⟨rfl, hu⟩
      have B1 := hide ((BR.out.alloc BR.out.size _).trans (hu.mono (by have := BR.out.size; simp; omega)))
      have H1 := hide (bx_step (bx_alloc HR2.out _) hu)
      clear hu c l
      cases qr
      · have HF : Hid (q = false) := no_q hq.out fun h => by have := HQR.out.2 (h.1 k HK.out); cases this
        go_wp2
        go_ret
        rw [HF.out]
        exact ⟨rfl, B1.out⟩
      · have HR' : Hid (∀ j, j < k + 1 → Rise (fun z : Pr => z.1) (0, 0) (G.N.getD j (0, [])).2) := fun j hj => by
          by_cases ej : j = k
          · subst ej; exact HQR.out.1 rfl
          · exact HR.out j (by omega)
        go_wp2
        go_roundw
        case rel => exact ⟨k + 1, by omega, by go_num, HR', B1, H1⟩
        case measure => simp [intOf]; omega
    · have HRA : Hid (∀ j, j < G.N.length → Rise (fun z : Pr => z.1) (0, 0) (G.N.getD j (0, [])).2) := fun j hj => HR.out j (by have := LN.out; omega)
      have HQ : Hid (q = true ↔ Rise (fun z : Nd => z.1) (0, []) G.N ∧ ∀ i, i < G.N.length → 1 ≤ (G.N.getD i (0, [])).1 ∧ (G.N.getD i (0, [])).1 < x) := by
        show _ ↔ _
        rw [hq.out, EX.out]
        exact ⟨fun h => h.2, fun h => ⟨HRA.out, h⟩⟩
      have CG := hide (givenN_any ⟨nA, nn, nc⟩ G.N x q wr ((HS.out.nodes.below BR.out (Nat.le_refl _)).more BR.out.size) (by dsimp only; omega) HQ)
      obtain ⟨c, -, l⟩ := bx_all HR2.out
      go_wp2_with fail
      refine CG.out.mono ?_
      rintro e u1 ⟨rfl, hu⟩
      have B1 := hide (BR.out.trans (hu.mono BR.out.size))
      clear hu
      go_wp2
      go_ret
      exact ⟨rfl, B1.out⟩

def EdgesOk (G : GL) : Prop := (∀ i, i < G.E.length → isN G (G.E.getD i (0, 0, 0)).2.1 = true ∧ isN G (G.E.getD i (0, 0, 0)).2.2 = true) ∧ Rise (fun z : Ed => z.1) (0, 0, 0) G.E ∧ ∀ i, i < G.E.length → 1 ≤ (G.E.getD i (0, 0, 0)).1 ∧ (G.E.getD i (0, 0, 0)).1 < G.y
set_option maxRecDepth 100000 in
set_option maxHeartbeats 4000000 in
theorem edgesMayBe_any (v : Gv) (G : GL) (q : Bool) (w : World) (S : Sees w w.heap.size v G) (HF : FewG G) (hq : Hid (q = true ↔ EdgesOk G)) :
    Calls Try.prog 87 #[v.val] w (Drew (.bool q) w) := by
  obtain ⟨⟨nA, nn, nc⟩, ⟨eA, en, ec⟩, x, y⟩ := v
  show Calls Try.prog 87 #[.agg #[.slice nA nn nc, .slice eA en ec, .int .i64 x, .int .i64 y]] w _
  have HS := hide S
  have ln := S.nodes.1
  have le := edges_len S.edges
  have EX : Hid (x = G.x) := S.x
  have EY : Hid (y = G.y) := S.y
  dsimp only at ln le
  have hnn : nn ≤ 100 := by have := HF.2.1; omega
  have hen : en ≤ 100 := by have := HF.2.2; omega
  have LN := hide ln
  have LE := hide le
  have HPB := hide (propsN_le HF.1)
  have HFP := hide HF.1
  clear S HF ln le
  obtain ⟨W, hW⟩ : ∃ W, Hid (w.alloc (.cells #[.slice nA nn nc, .slice eA en ec, .int .i64 x, .int .i64 y] 27) = W) := ⟨_, rfl⟩
  have BW : Hid (Below w.heap.size w W) := by show Below _ _ _; rw [← hW.out]; exact (Below.refl _ _).alloc (Nat.le_refl _) _
  have HW : Hid (W.heap[w.heap.size]? = some (.cells #[.slice nA nn nc, .slice eA en ec, .int .i64 x, .int .i64 y] 27 (0, 0))) := by show _ = _; rw [← hW.out]; exact heap_alloc_new w _
  go_enter Try.func87, Try.ntmps87
  go_upto_region 1 with fail
  have hW' := hW.out
  rw [hW']
  clear hW hW'
  obtain ⟨c, -, l⟩ := bx_all HW.out
  go_wp2
  clear c l
  go_loopw [8] (fun i wx => ∃ k : Nat, k ≤ en ∧ i = .int .i64 k ∧ Hid (∀ j, j < k → isN G (G.E.getD j (0, 0, 0)).2.1 = true ∧ isN G (G.E.getD j (0, 0, 0)).2.2 = true) ∧ Hid (Below w.heap.size w wx) ∧ Hid (wx.heap[w.heap.size]? = some (.cells #[.slice nA nn nc, .slice eA en ec, .int .i64 x, .int .i64 y] 27 (0, 0)))) (fun i _ => en - (intOf i).toNat)
  case atStart => exact ⟨0, by omega, rfl, (fun j hj => by omega), BW, HW⟩
  case round =>
    obtain ⟨k, hk, rfl, HR, BR, HR2⟩ := hrel
    clear BW HW
    by_cases hlt : k < en
    · obtain ⟨b1, off, e, hb1, d0, d1, d2⟩ := edge_at HS.out.edges hlt
      dsimp only at e
      subst e
      have HK : Hid (k < G.E.length) := by have := LE.out; show _ < _; omega
      obtain ⟨z1, HZ1⟩ : ∃ z, Hid ((G.E.getD k (0, 0, 0)).2.1 = z) := ⟨_, rfl⟩
      obtain ⟨z2, HZ2⟩ : ∃ z, Hid ((G.E.getD k (0, 0, 0)).2.2 = z) := ⟨_, rfl⟩
      rw [HZ1.out] at d1
      rw [HZ2.out] at d2
      generalize (G.E.getD k (0, 0, 0)).1 = z0 at d0
      have k0 := (BR.out.cell (p := ⟨b1, _, none⟩) hb1).trans d0
      have k1 := (BR.out.cell (p := ⟨b1, _, none⟩) hb1).trans d1
      have k2 := (BR.out.cell (p := ⟨b1, _, none⟩) hb1).trans d2
      clear d0 d1 d2
      obtain ⟨q1, h1⟩ : ∃ b, Hid (isN G z1 = b) := ⟨_, rfl⟩
      obtain ⟨q2, h2⟩ : ∃ b, Hid (isN G z2 = b) := ⟨_, rfl⟩
      have SEE : Hid (∀ u, Below wr.heap.size wr u → Sees u u.heap.size ⟨⟨nA, nn, nc⟩, ⟨some ⟨b1, off, none⟩, en, ec⟩, x, y⟩ G) := fun u hu => (HS.out.below (BR.out.trans (hu.mono BR.out.size)) (Nat.le_refl _)).more (Nat.le_trans BR.out.size hu.size)
      obtain ⟨c, -, l⟩ := bx_all HR2.out
      go_upto_region 4 with fail
      obtain ⟨U, hU⟩ : ∃ U, Hid (wr.alloc (.cells #[.int .i64 z0, .int .i64 z1, .int .i64 z2] 80) = U) := ⟨_, rfl⟩
      obtain ⟨gn, hgn⟩ : ∃ g, Hid (wr.heap.size = g) := ⟨_, rfl⟩
      have BU : Hid (Below wr.heap.size wr U) := by show Below _ _ _; rw [← hU.out]; exact (Below.refl _ _).alloc (Nat.le_refl _) _
      have HU : Hid (U.heap[gn]? = some (.cells #[.int .i64 z0, .int .i64 z1, .int .i64 z2] 80 (0, 0))) := by show _ = _; rw [← hU.out, ← hgn.out]; exact heap_alloc_new _ _
      have hU' := hU.out
      have hg' := hgn.out
      rw [hU', hg']
      clear hU hgn hU' hg' c l k0 k1 k2
      obtain ⟨c, -, l⟩ := bx_all (bx_step HR2.out BU.out)
      obtain ⟨m, -, n⟩ := bx_all HU.out
      go_wp2_with fail
      refine (isNode_any ⟨⟨nA, nn, nc⟩, ⟨some ⟨b1, off, none⟩, en, ec⟩, x, y⟩ G z1 q1 U (SEE.out U BU.out) (by dsimp only; omega) h1).mono ?_
      rintro e u1 ⟨rfl, hu⟩
      have B1 := hide (BU.out.trans (hu.mono BU.out.size))
      have HU1 := hide (bx_step HU.out hu)
      clear hu c l m n BU HU
      cases q1
      · have HF : Hid (q = false) := no_q hq.out fun h => by have := (h.1 k HK.out).1; rw [HZ1.out, h1.out] at this; cases this
        go_wp2
        go_ret
        rw [HF.out]
        exact ⟨rfl, BR.out.trans (B1.out.mono BR.out.size)⟩
      · obtain ⟨c, -, l⟩ := bx_all (bx_step HR2.out B1.out)
        obtain ⟨m, -, n⟩ := bx_all HU1.out
        go_wp2_with fail
        refine (isNode_any ⟨⟨nA, nn, nc⟩, ⟨some ⟨b1, off, none⟩, en, ec⟩, x, y⟩ G z2 q2 u1 (SEE.out u1 B1.out) (by dsimp only; omega) h2).mono ?_
        rintro e u2 ⟨rfl, hu⟩
        have B2 := hide (B1.out.trans (hu.mono B1.out.size))
        clear hu c l m n B1 HU1
        cases q2
        · have HF : Hid (q = false) := no_q hq.out fun h => by have := (h.1 k HK.out).2; rw [HZ2.out, h2.out] at this; cases this
          go_wp2
          go_ret
          rw [HF.out]
          exact ⟨rfl, BR.out.trans (B2.out.mono BR.out.size)⟩
        · have HR' : Hid (∀ j, j < k + 1 → isN G (G.E.getD j (0, 0, 0)).2.1 = true ∧ isN G (G.E.getD j (0, 0, 0)).2.2 = true) := fun j hj => by
            by_cases ej : j = k
            · subst ej; exact ⟨by rw [HZ1.out]; exact h1.out, by rw [HZ2.out]; exact h2.out⟩
            · exact HR.out j (by omega)
          have B3 := hide (BR.out.trans (B2.out.mono BR.out.size))
          have H3 := hide (bx_step HR2.out B2.out)
          go_wp2
          go_roundw
          case rel => exact ⟨k + 1, by omega, by go_num, HR', B3, H3⟩
          case measure => simp [intOf]; omega
    · have HRA : Hid (∀ j, j < G.E.length → isN G (G.E.getD j (0, 0, 0)).2.1 = true ∧ isN G (G.E.getD j (0, 0, 0)).2.2 = true) := fun j hj => HR.out j (by have := LE.out; omega)
      have HQ : Hid (q = true ↔ Rise (fun z : Ed => z.1) (0, 0, 0) G.E ∧ ∀ i, i < G.E.length → 1 ≤ (G.E.getD i (0, 0, 0)).1 ∧ (G.E.getD i (0, 0, 0)).1 < y) := by
        show _ ↔ _
        rw [hq.out, EY.out]
        exact ⟨fun h => h.2, fun h => ⟨HRA.out, h⟩⟩
      have CG := hide (givenE_any eA en ec G.E y q wr ((HS.out.edges.below BR.out (Nat.le_refl _)).more BR.out.size) (by omega) HQ)
      obtain ⟨c, -, l⟩ := bx_all HR2.out
      go_wp2_with fail
      refine CG.out.mono ?_
      rintro e u1 ⟨rfl, hu⟩
      have B1 := hide (BR.out.trans (hu.mono BR.out.size))
      clear hu
      go_wp2
      go_ret
      exact ⟨rfl, B1.out⟩

theorem okg_parts {c0 c1 c2 c3 c4 : Int} {G : GL} : Okg c0 c1 c2 c3 c4 G ↔ Place.Ok c0 c1 c2 c3 c4 ∧ Fits c0 c1 c2 c3 c4 G ∧ NodesOk G ∧ EdgesOk G :=
  ⟨fun o => ⟨o.cfg, ⟨o.n, o.e, o.p, o.x, o.y⟩, ⟨o.pr, o.nr, o.n0⟩, ⟨o.ee, o.er, o.e0⟩⟩, fun ⟨h1, h2, h3, h4⟩ => ⟨h1, h2.x, h2.y, h2.n, h2.e, h2.p, h3.1, h3.2.1, h3.2.2, h4.2.1, h4.2.2, h4.1⟩⟩
set_option maxRecDepth 100000 in
set_option maxHeartbeats 4000000 in
theorem mayBe_any (c0 c1 c2 c3 c4 : Int) (v : Gv) (G : GL) (q : Bool) (w : World) (S : Sees w w.heap.size v G) (HF : FewG G) (hq : Hid (q = true ↔ Okg c0 c1 c2 c3 c4 G)) :
    Calls Try.prog 49 #[.agg #[.int .i64 c0, .int .i64 c1, .int .i64 c2, .int .i64 c3, .int .i64 c4], v.val] w (Drew (.bool q) w) := by
  have HFG := hide HF
  clear HF
  obtain ⟨⟨nA, nn, nc⟩, ⟨eA, en, ec⟩, x, y⟩ := v
  show Calls Try.prog 49 #[.agg #[.int .i64 c0, .int .i64 c1, .int .i64 c2, .int .i64 c3, .int .i64 c4], .agg #[.slice nA nn nc, .slice eA en ec, .int .i64 x, .int .i64 y]] w _
  obtain ⟨W, hW⟩ : ∃ W, Hid ((w.alloc (.cells #[.int .i64 c0, .int .i64 c1, .int .i64 c2, .int .i64 c3, .int .i64 c4] 23)).alloc (.cells #[.slice nA nn nc, .slice eA en ec, .int .i64 x, .int .i64 y] 27) = W) := ⟨_, rfl⟩
  have BB : Hid (Bx2 w W #[.int .i64 c0, .int .i64 c1, .int .i64 c2, .int .i64 c3, .int .i64 c4] #[.slice nA nn nc, .slice eA en ec, .int .i64 x, .int .i64 y]) := by show Bx2 _ _ _ _; rw [← hW.out]; exact ⟨boxed2 w _ _, heap_alloc2_old w _ _, heap_alloc2_new w _ _⟩
  have SW : Hid (Sees W W.heap.size ⟨⟨nA, nn, nc⟩, ⟨eA, en, ec⟩, x, y⟩ G) := (S.below BB.out.bel (Nat.le_refl _)).more BB.out.bel.size
  have HQ := hide (hq.out.trans okg_parts)
  clear S hq
  obtain ⟨q1, h1⟩ := bool_of (Place.Ok c0 c1 c2 c3 c4)
  obtain ⟨q2, h2⟩ := bool_of (Fits c0 c1 c2 c3 c4 G)
  obtain ⟨q3, h3⟩ := bool_of (NodesOk G)
  obtain ⟨q4, h4⟩ := bool_of (EdgesOk G)
  have H1 := hide h1
  have H2 := hide h2
  have H3 := hide h3
  have H4 := hide h4
  clear h1 h2 h3 h4
  go_enter Try.func49, Try.ntmps49
  go_upto_region 1 with fail
  have hW' := hW.out
  rw [hW']
  clear hW hW'
  cases q1
  · have HN : Hid (¬ Place.Ok c0 c1 c2 c3 c4) := fun h => by have := H1.out.2 h; cases this
    have HF : Hid (q = false) := no_q HQ.out fun h => HN.out h.1
    obtain ⟨hc, hg, lc, lg⟩ := BB.out.cells
    go_wp2_with fail
    refine (Place.check_no c0 c1 c2 c3 c4 W HN).mono ?_
    rintro e u ⟨rfl, hu⟩
    have BB := hide (BB.out.step hu)
    have SW := hide (SW.out.step hu)
    clear hu hc hg lc lg
    go_wp2
    go_ret
    rw [HF.out]
    exact ⟨rfl, BB.out.bel⟩
  · have HY : Hid (Place.Ok c0 c1 c2 c3 c4) := H1.out.1 rfl
    obtain ⟨hc, hg, lc, lg⟩ := BB.out.cells
    go_wp2_with fail
    refine (Place.check_ok c0 c1 c2 c3 c4 W HY).mono ?_
    rintro e u ⟨rfl, hu⟩
    have BB := hide (BB.out.step hu)
    have SW := hide (SW.out.step hu)
    clear hu hc hg lc lg
    obtain ⟨hc, hg, lc, lg⟩ := BB.out.cells
    go_wp2_with fail
    refine (fits_any c0 c1 c2 c3 c4 ⟨⟨nA, nn, nc⟩, ⟨eA, en, ec⟩, x, y⟩ G q2 _ SW.out HFG.out HY H2).mono ?_
    rintro e u ⟨rfl, hu⟩
    have BB := hide (BB.out.step hu)
    have SW := hide (SW.out.step hu)
    clear hu hc hg lc lg
    cases q2
    · have HF : Hid (q = false) := no_q HQ.out fun h => by have := H2.out.2 h.2.1; cases this
      go_wp2
      go_ret
      rw [HF.out]
      exact ⟨rfl, BB.out.bel⟩
    ·
      obtain ⟨hc, hg, lc, lg⟩ := BB.out.cells
      go_wp2_with fail
      refine (nodesMayBe_any ⟨⟨nA, nn, nc⟩, ⟨eA, en, ec⟩, x, y⟩ G q3 _ SW.out HFG.out H3).mono ?_
      rintro e u ⟨rfl, hu⟩
      have BB := hide (BB.out.step hu)
      have SW := hide (SW.out.step hu)
      clear hu hc hg lc lg
      cases q3
      · have HF : Hid (q = false) := no_q HQ.out fun h => by have := H3.out.2 h.2.2.1; cases this
        go_wp2
        go_ret
        rw [HF.out]
        exact ⟨rfl, BB.out.bel⟩
      ·
        obtain ⟨hc, hg, lc, lg⟩ := BB.out.cells
        go_wp2_with fail
        refine (edgesMayBe_any ⟨⟨nA, nn, nc⟩, ⟨eA, en, ec⟩, x, y⟩ G q4 _ SW.out HFG.out H4).mono ?_
        rintro e u ⟨rfl, hu⟩
        have BB := hide (BB.out.step hu)
        have SW := hide (SW.out.step hu)
        clear hu hc hg lc lg
        have HE : Hid (q = q4) := by
          show _ = _
          rw [Bool.eq_iff_iff, HQ.out, H4.out]
          exact ⟨fun h => h.2.2.2, fun h => ⟨HY.out, H2.out.1 (by first | rfl | trivial), H3.out.1 (by first | rfl | trivial), h⟩⟩
        clear H1 H2 H3 H4
        go_wp2
        go_ret
        rw [HE.out]
        exact ⟨rfl, BB.out.bel⟩

set_option maxRecDepth 100000 in
set_option maxHeartbeats 4000000 in
theorem check_any (c0 c1 c2 c3 c4 : Int) (v : Gv) (G : GL) (q : Bool) (w : World) (S : Sees w w.heap.size v G) (HF : FewG G) (hq : Hid (q = true ↔ Okg c0 c1 c2 c3 c4 G)) :
    Calls Try.prog 12 #[.agg #[.int .i64 c0, .int .i64 c1, .int .i64 c2, .int .i64 c3, .int .i64 c4], v.val] w (Drew (.int .i64 (errOf q)) w) := by
  have HFG := hide HF
  clear HF
  obtain ⟨⟨nA, nn, nc⟩, ⟨eA, en, ec⟩, x, y⟩ := v
  show Calls Try.prog 12 #[.agg #[.int .i64 c0, .int .i64 c1, .int .i64 c2, .int .i64 c3, .int .i64 c4], .agg #[.slice nA nn nc, .slice eA en ec, .int .i64 x, .int .i64 y]] w _
  obtain ⟨W, hW⟩ : ∃ W, Hid ((w.alloc (.cells #[.int .i64 c0, .int .i64 c1, .int .i64 c2, .int .i64 c3, .int .i64 c4] 23)).alloc (.cells #[.slice nA nn nc, .slice eA en ec, .int .i64 x, .int .i64 y] 27) = W) := ⟨_, rfl⟩
  have BB : Hid (Bx2 w W #[.int .i64 c0, .int .i64 c1, .int .i64 c2, .int .i64 c3, .int .i64 c4] #[.slice nA nn nc, .slice eA en ec, .int .i64 x, .int .i64 y]) := by show Bx2 _ _ _ _; rw [← hW.out]; exact ⟨boxed2 w _ _, heap_alloc2_old w _ _, heap_alloc2_new w _ _⟩
  have SW : Hid (Sees W W.heap.size ⟨⟨nA, nn, nc⟩, ⟨eA, en, ec⟩, x, y⟩ G) := (S.below BB.out.bel (Nat.le_refl _)).more BB.out.bel.size
  clear S
  go_enter Try.func12, Try.ntmps12
  go_upto_region 1 with fail
  have hW' := hW.out
  rw [hW']
  clear hW hW'
  obtain ⟨hc, hg, lc, lg⟩ := BB.out.cells
  go_wp2_with fail
  refine (mayBe_any c0 c1 c2 c3 c4 ⟨⟨nA, nn, nc⟩, ⟨eA, en, ec⟩, x, y⟩ G q _ SW.out HFG.out hq).mono ?_
  rintro e u ⟨rfl, hu⟩
  have BB := hide (BB.out.step hu)
  have SW := hide (SW.out.step hu)
  clear hu hc hg lc lg
  clear hq
  cases q
  · go_wp2
    go_ret
    exact ⟨rfl, BB.out.bel⟩
  · go_wp2
    go_ret
    exact ⟨rfl, BB.out.bel⟩

end Go.Proofs.Ytiiadkjiofkonaa
