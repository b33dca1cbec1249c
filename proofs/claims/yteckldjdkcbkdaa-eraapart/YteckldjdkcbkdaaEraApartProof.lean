/- For every era and thread: pinning, and unpinning, a thread says nothing of others, nor of the epoch. (The statement tendrillaw06.EraApart.) -/
import Derived.Test.YteckldjdkcbkdaaRows
import Derived.Test.YteckldjdkcbkdaaLive
import Derived.Test.YteckldjdkcbkdaaFrame
import Derived.WalkKit
import Derived.Deep.DeepCutAuto
namespace Go.Proofs.Yteckldjdkcbkdaa.eraApart
open Go.Joins Go.ChangeShapes Go.WideShapes Go.ChangeAt Go.RowKit Go.Deep
set_option linter.unusedVariables false

/-- What the law asks of what Pin, and Unpin, told. -/
def Told (t : Int) (zs : List Int) (n : Nat) (k : Int) (t' : Int) (ys : List Int) : Prop :=
  ys = [] ∨ (t' = t ∧ ys.length = n ∧ ∀ i, i < n → ((ys.getD i 0 != zs.getD i 0) = ((i : Int) == k)))
theorem told_set {t : Int} {zs : List Int} {n X : Nat} {x : Int} (hl : zs.length = n) (hX : X < n) (hx : zs.getD X 0 ≠ x) : Told t zs n X t (zs.set X x) := by
  refine .inr ⟨rfl, by simpa using hl, fun i hi => ?_⟩
  rw [get_set _ _ _ _ (by omega)]
  by_cases e : X = i
  · subst e
    rw [if_pos rfl]
    simpa using hx.symm
  · rw [if_neg e]
    simp
    omega
theorem apart_math {t : Int} {zs : List Int} {n : Nat} (ho : Ok t zs) (hl : zs.length = n) (k : Int) :
    Told t zs n k (pinT true t zs k) (pinZ true t zs k) ∧ Told t zs n k (unpT true t zs k) (unpZ true zs k) ∧
    ¬ (pinE true zs k = 0 ∧ unpE true zs k = 0) ∧ ((pinE true zs k = 0 ∨ unpE true zs k = 0) ↔ (0 ≤ k ∧ k < (n : Int))) := by
  by_cases hk : 0 ≤ k ∧ k < (n : Int)
  · obtain ⟨X, rfl⟩ : ∃ X : Nat, k = (X : Int) := ⟨k.toNat, by omega⟩
    by_cases hz : zs.getD X 0 = -1
    · have e1 := pinE_ok (b := true) (zs := zs) (X := X) rfl (by omega) hz
      have e2 := unpE_none (b := true) (zs := zs) (X := X) rfl (by omega) hz
      have f1 := pin_yes (t := t) e1
      have f2 := unp_no (t := t) (show unpE true zs X ≠ 0 by omega)
      have := ho.1.1
      rw [f1.1, f1.2, f2.1, f2.2, e1, e2]
      exact ⟨told_set hl (by omega) (by omega), .inl rfl, by omega, by omega⟩
    · have e1 := pinE_taken (b := true) (zs := zs) (X := X) hz
      have e2 := unpE_ok (b := true) (zs := zs) (X := X) rfl (by omega) hz
      have f1 := pin_no (t := t) e1
      have f2 := unp_yes (t := t) e2
      rw [f1.1, f1.2, f2.1, f2.2, e1, e2]
      exact ⟨.inl rfl, told_set hl (by omega) hz, by omega, by omega⟩
  · have hb : true = false ∨ k < 0 ∨ (zs.length : Int) ≤ k := by right; omega
    have e1 := pinE_bad hb
    have e2 := unpE_bad hb
    have f1 := pin_no (t := t) e1
    have f2 := unp_no (t := t) (show unpE true zs k ≠ 0 by omega)
    rw [f1.1, f1.2, f2.1, f2.2, e1, e2]
    exact ⟨.inl rfl, .inl rfl, by omega, by omega⟩
/-- What stands while the told eras are gone through. -/
structure Ap (w u : World) (m : Nat) (t : Int) (A : Option Addr) (n c : Nat) (zs : List Int) (ta : Int) (Aa : Option Addr) (na ca : Nat) (za : List Int) (tb : Int) (Ab : Option Addr) (nb cb : Nat) (zb : List Int) : Prop where
  st : Stand w u w.heap.size t A n c zs
  arr : EBox u m #[.int .i64 ta, .slice Aa na ca, .int .i64 tb, .slice Ab nb cb]
  ra : Reads u u.heap.size Aa na ca za
  rb : Reads u u.heap.size Ab nb cb zb
section
variable {w u u' : World} {m n c na ca nb cb h j : Nat} {t ta tb k : Int} {A Aa Ab : Option Addr} {zs za zb : List Int}
theorem Ap.step (p : Ap w u m t A n c zs ta Aa na ca za tb Ab nb cb zb) (b : Below u.heap.size u u') : Ap w u' m t A n c zs ta Aa na ca za tb Ab nb cb zb := ⟨p.st.step b, p.arr.step b, p.ra.step b, p.rb.step b⟩
theorem Ap.alloc (p : Ap w u m t A n c zs ta Aa na ca za tb Ab nb cb zb) (o : Obj) : Ap w (u.alloc o) m t A n c zs ta Aa na ca za tb Ab nb cb zb := p.step ((Below.refl _ _).alloc (Nat.le_refl _) _)
theorem ap_first (x : Stand w u w.heap.size t A n c zs) (y : Stand w u h ta Aa na ca za) (z : Stand w u j tb Ab nb cb zb) :
    Ap w (u.alloc (.cells #[.int .i64 ta, .slice Aa na ca, .int .i64 tb, .slice Ab nb cb] 24)) u.heap.size t A n c zs ta Aa na ca za tb Ab nb cb zb :=
  ⟨x.alloc _, EBox.new u _, (y.alloc _).reads, (z.alloc _).reads⟩
theorem ap_at {y : Nat} (p : Ap w u m t A n c zs ta Aa na ca za tb Ab nb cb zb) (ha : Told t zs n k ta za) (hb : Told t zs n k tb zb) (hy : y < 2) :
    ∃ (t' : Int) (A' : Option Addr) (n' c' : Nat) (ys : List Int), Told t zs n k t' ys ∧ Reads u u.heap.size A' n' c' ys ∧ u.cell? ⟨m, y * 2, none⟩ = some (.int .i64 t') ∧ u.cell? ⟨m, y * 2 + 1, none⟩ = some (.slice A' n' c') := by
  match y, hy with
  | 0, _ => exact ⟨ta, Aa, na, ca, za, ha, p.ra, p.arr.cells 0, p.arr.cells 1⟩
  | 1, _ => exact ⟨tb, Ab, nb, cb, zb, hb, p.rb, p.arr.cells 2, p.arr.cells 3⟩
end
theorem fin_math {ea eb k : Int} {n : Nat} (h : ¬ (ea = 0 ∧ eb = 0) ∧ ((ea = 0 ∨ eb = 0) ↔ (0 ≤ k ∧ k < (n : Int)))) : ((ea == 0) || (eb == 0)) = (decide (0 ≤ k) && decide (k < (n : Int))) := by
  rw [Bool.eq_iff_iff]
  simpa using h.2

set_option maxRecDepth 100000 in
set_option maxHeartbeats 3000000 in
theorem walk (t0 : Int) (A0 : Option Addr) (n0 c0 : Nat) (z0 : List Int) (a1 : Int) (w : World) (w0 : Reads w w.heap.size A0 n0 c0 z0) (w1 : (Lit.int .i64 a1).wf = true) :
    Calls Try.prog 7 #[V2 t0 A0 n0 c0, .int .i64 a1] w (Drew (.bool true) w) := by
  clear w1
  have S0 := hide (stand_in t0 w0)
  have HL := hide w0.len
  clear w0
  obtain ⟨b, HB⟩ := bool_of (Ok t0 z0)
  go_enter Try.func7, Try.ntmps7
  go_wp2_with fail
  refine (live_yes _).mono ?_
  rintro e u1 ⟨rfl, b1⟩
  have S1 := hide (S0.out.step b1)
  clear b1 S0
  have hc := S1.out.box.cells
  have hl := S1.out.box.lt
  by_cases few : 200 < n0
  · have d1 : decide ((200 : Int) < (n0 : Int)) = true := by simp; omega
    clear HB
    go_wp2
    go_ret
    exact ⟨rfl, S1.out.bel⟩
  have d1 : decide ((200 : Int) < (n0 : Int)) = false := by simp; omega
  go_wp2_with fail
  refine (check_any t0 A0 n0 c0 _ z0 b _ S1.out.reads (Nat.le_refl _) HB).mono ?_
  rintro e u2 ⟨rfl, b2⟩
  have S2 := hide (S1.out.step b2)
  clear b2 S1 hc hl
  have hc := S2.out.box.cells
  have hl := S2.out.box.lt
  cases b with
  | false =>
    rw [show chk false = 1 from rfl]
    clear HB
    go_wp2
    go_ret
    exact ⟨rfl, S2.out.bel⟩
  | true =>
    rw [show chk true = 0 from rfl]
    have HO := hide (HB.out.1 rfl)
    have hn : n0 ≤ 64 := by have := HO.out.2.1; have := HL.out; omega
    have HP : Hid (∀ u, Reads u u.heap.size A0 n0 c0 z0 → Calls Try.prog 18 #[V2 t0 A0 n0 c0, .int .i64 a1] u (Tell2 u (pinT true t0 z0 a1) (pinZ true t0 z0 a1) (.int .i64 (pinE true z0 a1)))) := fun u hu => pin_any t0 A0 n0 c0 _ z0 true a1 u hu (Nat.le_refl _) HB
    have HU : Hid (∀ u, Reads u u.heap.size A0 n0 c0 z0 → Calls Try.prog 20 #[V2 t0 A0 n0 c0, .int .i64 a1] u (Tell2 u (unpT true t0 z0 a1) (unpZ true z0 a1) (.int .i64 (unpE true z0 a1)))) := fun u hu => unpin_any t0 A0 n0 c0 _ z0 true a1 u hu (Nat.le_refl _) HB
    obtain ⟨m1, m2, m3⟩ := apart_math (n := n0) HO.out HL.out a1
    have M1 := hide m1
    have M2 := hide m2
    clear m1 m2 HB
    generalize pinT true t0 z0 a1 = ta at HP M1
    generalize pinZ true t0 z0 a1 = za at HP M1
    generalize pinE true z0 a1 = ea at HP m3
    generalize unpT true t0 z0 a1 = tb at HU M2
    generalize unpZ true z0 a1 = zb at HU M2
    generalize unpE true z0 a1 = eb at HU m3
    have M3 := hide m3
    clear m3
    go_wp2_with fail
    refine (HP.out _ S2.out.reads).mono ?_
    rintro e u3 ⟨Aa, na, ca, rfl, r3, b3⟩
    have X3 := hide (S2.out.step b3)
    have Y3 := hide (Stand.first X3.out.bel r3 ta)
    have X3' := hide (X3.out.alloc (.cells (C2 ta Aa na ca) 24))
    obtain ⟨h, hh⟩ : ∃ h, Hid (u3.heap.size = h) := ⟨_, rfl⟩
    rw [hh.out] at Y3
    clear r3 b3 S2 hc hl
    have hc := X3.out.box.cells
    have hl := X3.out.box.lt
    go_wp2_with fail
    refine (HU.out _ X3'.out.reads).mono ?_
    rintro e u4 ⟨Ab, nb, cb, rfl, r4, b4⟩
    have X4 := hide (X3'.out.step b4)
    have Y4 := hide (Y3.out.step b4)
    have Z4 := hide (Stand.first X4.out.bel r4 tb)
    have X4' := hide (X4.out.alloc (.cells (C2 tb Ab nb cb) 24))
    have Y4' := hide (Y4.out.alloc (.cells (C2 tb Ab nb cb) 24))
    obtain ⟨j, hj⟩ : ∃ j, Hid (u4.heap.size = j) := ⟨_, rfl⟩
    obtain ⟨U, hU⟩ : ∃ U, Hid (u4.alloc (.cells #[.int .i64 tb, .slice Ab nb cb] 24) = U) := ⟨_, rfl⟩
    have XU : Hid (Stand w U w.heap.size t0 A0 n0 c0 z0) := by show Stand _ _ _ _ _ _ _ _; rw [← hU.out]; exact X4'.out
    have YU : Hid (Stand w U h ta Aa na ca za) := by show Stand _ _ _ _ _ _ _ _; rw [← hU.out]; exact Y4'.out
    have ZU : Hid (Stand w U j tb Ab nb cb zb) := by show Stand _ _ _ _ _ _ _ _; rw [← hU.out, ← hj.out]; exact Z4.out
    rw [hh.out]
    clear r4 b4 X3 X3' Y3 X4 Y4 Z4 X4' Y4' hc hl HP HU
    obtain ⟨m, hm⟩ : ∃ m, Hid (U.heap.size = m) := ⟨_, rfl⟩
    have HAM : Hid (Ap w (U.alloc (.cells #[.int .i64 ta, .slice Aa na ca, .int .i64 tb, .slice Ab nb cb] 24)) m t0 A0 n0 c0 z0 ta Aa na ca za tb Ab nb cb zb) := by show Ap _ _ _ _ _ _ _ _ _ _ _ _ _ _ _ _ _ _; rw [← hm.out]; exact ap_first XU.out YU.out ZU.out
    go_upto_region 7 with (fail)
    rw [hU.out, hj.out]
    have hc := YU.out.box.cells
    have hl := YU.out.box.lt
    have hcz := ZU.out.box.cells
    have hlz := ZU.out.box.lt
    by_cases ca0 : ea = 0
    · have qa : (ea == 0) = true := by simpa using ca0
      have qb : (eb == 0) = false := by have := M3.out; simp; omega
      have k1 : decide (0 ≤ a1) = true := by have := M3.out; simp; omega
      have k2 : decide (a1 < (n0 : Int)) = true := by have := M3.out; simp; omega
      clear ca0
      go_wp2
      rw [hm.out]
      clear hc hl hcz hlz
      go_loopw [45] (fun i wr => ∃ y : Nat, y ≤ 2 ∧ i = .int .i64 y ∧ Hid (Ap w wr m t0 A0 n0 c0 z0 ta Aa na ca za tb Ab nb cb zb)) (fun i _ => 2 - (intOf i).toNat)
      case atStart => exact ⟨0, by omega, rfl, HAM⟩
      case round =>
        obtain ⟨y, hy, rfl, P1⟩ := hrel
        have hc := P1.out.st.box.cells
        have hl := P1.out.st.box.lt
        by_cases hlt : y < 2
        · have dy : decide ((y : Int) < 2) = true := by simp; omega
          obtain ⟨t', A', n', c', ys, HTo, HRe, v0, v1⟩ := ap_at P1.out M1.out M2.out hlt
          have hlm := P1.out.arr.lt
          have HTo' := hide HTo
          have HRe' := hide HRe
          clear HTo HRe
          have P2 := hide (P1.out.alloc (.cells (C2 t' A' n' c') 24))
          have E2 := hide (EBox.new wr (C2 t' A' n' c'))
          have R2 := hide (HRe'.out.step ((Below.refl _ _).alloc (Nat.le_refl _) (.cells (C2 t' A' n' c') 24)))
          by_cases hz : n' = 0
          · subst hz
            go_wp2
            go_roundw
            case rel => exact ⟨y + 1, by omega, by go_num, P2⟩
            case measure => simp [intOf]; omega
          have dz : ((n' : Int) == 0) = false := by simp; omega
          obtain ⟨e1, e2, e3⟩ : t' = t0 ∧ n' = n0 ∧ Hid (∀ i, i < n0 → ((ys.getD i 0 != z0.getD i 0) = ((i : Int) == a1))) := by
            rcases HTo'.out with h | h
            · have := HRe'.out.len; rw [h] at this; simp at this; omega
            · exact ⟨h.1, by have := HRe'.out.len; omega, h.2.2⟩
          subst e1
          subst e2
          have s1 : (((n' : Nat) : Int) != (n' : Int)) = false := by simp
          have s2 : (t' != t') = false := by simp
          obtain ⟨V, hV⟩ : ∃ V, Hid (wr.alloc (.cells #[.int .i64 t', .slice A' n' c'] 24) = V) := ⟨_, rfl⟩
          obtain ⟨g, hg⟩ : ∃ g, Hid (wr.heap.size = g) := ⟨_, rfl⟩
          have P3 : Hid (Ap w V m t' A0 n' c0 z0 ta Aa na ca za tb Ab nb cb zb) := by show Ap _ _ _ _ _ _ _ _ _ _ _ _ _ _ _ _ _ _; rw [← hV.out]; exact P2.out
          have E3 : Hid (EBox V g (C2 t' A' n' c')) := by show EBox _ _ _; rw [← hV.out, ← hg.out]; exact E2.out
          have R3 : Hid (Reads V V.heap.size A' n' c' ys) := by show Reads _ _ _ _ _ _; rw [← hV.out]; exact R2.out
          go_wp2
          rw [hV.out, hg.out]
          clear hc hl v0 v1 hlm P2 E2 R2
          go_loopw [70] (fun i wr1 => ∃ x q : Nat, x ≤ n' ∧ i = .int .i64 x ∧ wr1 = V.drewN q) (fun i _ => n' - (intOf i).toNat)
          case atStart => exact ⟨0, 0, by omega, rfl, rfl⟩
          case round =>
            obtain ⟨x, q, hx, rfl, rfl⟩ := hrel
            by_cases hxl : x < n'
            · obtain ⟨bA, oA, rfl, hbA, hxa⟩ := R3.out.1.at_ hxl
              obtain ⟨bE, oE, rfl, hbE, hxe⟩ := P3.out.st.reads.1.at_ hxl
              have HK := hide (e3.out x hxl)
              generalize ys.getD x 0 = ya at hxa HK
              generalize z0.getD x 0 = ze at hxe HK
              obtain ⟨p, hp⟩ : ∃ p, Hid (((x : Int) == a1) = p) := ⟨_, rfl⟩
              have hp1 := hp.out
              have hp2 : (ya != ze) = p := HK.out.trans hp.out
              have hc := P3.out.st.box.cells
              have hl := P3.out.st.box.lt
              have hcg := E3.out.cells
              have hlg := E3.out.lt
              cases p with
              | false =>
                go_wp2
                go_quiet (fail)
                go_wp2
                go_roundw
                case rel => exact ⟨x + 1, _, by omega, by go_num, rfl⟩
                case measure => simp [intOf]; omega
              | true =>
                go_wp2
                go_quiet (fail)
                go_wp2
                go_roundw
                case rel => exact ⟨x + 1, _, by omega, by go_num, rfl⟩
                case measure => simp [intOf]; omega
            · go_wp2
              go_roundw
              case rel => exact ⟨y + 1, by omega, by go_num, P3.out.step (Below.drewN (Below.refl _ _) _)⟩
              case measure => simp [intOf]; omega
        · have dy : decide ((y : Int) < 2) = false := by simp; omega
          go_wp2
          go_ret
          exact ⟨rfl, P1.out.st.bel⟩

    have qa : (ea == 0) = false := by simpa using ca0
    by_cases cb0 : eb = 0
    · have qb : (eb == 0) = true := by simpa using cb0
      have k1 : decide (0 ≤ a1) = true := by have := M3.out; simp; omega
      have k2 : decide (a1 < (n0 : Int)) = true := by have := M3.out; simp; omega
      clear ca0 cb0
      go_wp2
      rw [hm.out]
      clear hc hl hcz hlz
      go_loopw [45] (fun i wr => ∃ y : Nat, y ≤ 2 ∧ i = .int .i64 y ∧ Hid (Ap w wr m t0 A0 n0 c0 z0 ta Aa na ca za tb Ab nb cb zb)) (fun i _ => 2 - (intOf i).toNat)
      case atStart => exact ⟨0, by omega, rfl, HAM⟩
      case round =>
        obtain ⟨y, hy, rfl, P1⟩ := hrel
        have hc := P1.out.st.box.cells
        have hl := P1.out.st.box.lt
        by_cases hlt : y < 2
        · have dy : decide ((y : Int) < 2) = true := by simp; omega
          obtain ⟨t', A', n', c', ys, HTo, HRe, v0, v1⟩ := ap_at P1.out M1.out M2.out hlt
          have hlm := P1.out.arr.lt
          have HTo' := hide HTo
          have HRe' := hide HRe
          clear HTo HRe
          have P2 := hide (P1.out.alloc (.cells (C2 t' A' n' c') 24))
          have E2 := hide (EBox.new wr (C2 t' A' n' c'))
          have R2 := hide (HRe'.out.step ((Below.refl _ _).alloc (Nat.le_refl _) (.cells (C2 t' A' n' c') 24)))
          by_cases hz : n' = 0
          · subst hz
            go_wp2
            go_roundw
            case rel => exact ⟨y + 1, by omega, by go_num, P2⟩
            case measure => simp [intOf]; omega
          have dz : ((n' : Int) == 0) = false := by simp; omega
          obtain ⟨e1, e2, e3⟩ : t' = t0 ∧ n' = n0 ∧ Hid (∀ i, i < n0 → ((ys.getD i 0 != z0.getD i 0) = ((i : Int) == a1))) := by
            rcases HTo'.out with h | h
            · have := HRe'.out.len; rw [h] at this; simp at this; omega
            · exact ⟨h.1, by have := HRe'.out.len; omega, h.2.2⟩
          subst e1
          subst e2
          have s1 : (((n' : Nat) : Int) != (n' : Int)) = false := by simp
          have s2 : (t' != t') = false := by simp
          obtain ⟨V, hV⟩ : ∃ V, Hid (wr.alloc (.cells #[.int .i64 t', .slice A' n' c'] 24) = V) := ⟨_, rfl⟩
          obtain ⟨g, hg⟩ : ∃ g, Hid (wr.heap.size = g) := ⟨_, rfl⟩
          have P3 : Hid (Ap w V m t' A0 n' c0 z0 ta Aa na ca za tb Ab nb cb zb) := by show Ap _ _ _ _ _ _ _ _ _ _ _ _ _ _ _ _ _ _; rw [← hV.out]; exact P2.out
          have E3 : Hid (EBox V g (C2 t' A' n' c')) := by show EBox _ _ _; rw [← hV.out, ← hg.out]; exact E2.out
          have R3 : Hid (Reads V V.heap.size A' n' c' ys) := by show Reads _ _ _ _ _ _; rw [← hV.out]; exact R2.out
          go_wp2
          rw [hV.out, hg.out]
          clear hc hl v0 v1 hlm P2 E2 R2
          go_loopw [70] (fun i wr1 => ∃ x q : Nat, x ≤ n' ∧ i = .int .i64 x ∧ wr1 = V.drewN q) (fun i _ => n' - (intOf i).toNat)
          case atStart => exact ⟨0, 0, by omega, rfl, rfl⟩
          case round =>
            obtain ⟨x, q, hx, rfl, rfl⟩ := hrel
            by_cases hxl : x < n'
            · obtain ⟨bA, oA, rfl, hbA, hxa⟩ := R3.out.1.at_ hxl
              obtain ⟨bE, oE, rfl, hbE, hxe⟩ := P3.out.st.reads.1.at_ hxl
              have HK := hide (e3.out x hxl)
              generalize ys.getD x 0 = ya at hxa HK
              generalize z0.getD x 0 = ze at hxe HK
              obtain ⟨p, hp⟩ : ∃ p, Hid (((x : Int) == a1) = p) := ⟨_, rfl⟩
              have hp1 := hp.out
              have hp2 : (ya != ze) = p := HK.out.trans hp.out
              have hc := P3.out.st.box.cells
              have hl := P3.out.st.box.lt
              have hcg := E3.out.cells
              have hlg := E3.out.lt
              cases p with
              | false =>
                go_wp2
                go_quiet (fail)
                go_wp2
                go_roundw
                case rel => exact ⟨x + 1, _, by omega, by go_num, rfl⟩
                case measure => simp [intOf]; omega
              | true =>
                go_wp2
                go_quiet (fail)
                go_wp2
                go_roundw
                case rel => exact ⟨x + 1, _, by omega, by go_num, rfl⟩
                case measure => simp [intOf]; omega
            · go_wp2
              go_roundw
              case rel => exact ⟨y + 1, by omega, by go_num, P3.out.step (Below.drewN (Below.refl _ _) _)⟩
              case measure => simp [intOf]; omega
        · have dy : decide ((y : Int) < 2) = false := by simp; omega
          go_wp2
          go_ret
          exact ⟨rfl, P1.out.st.bel⟩

    have qb : (eb == 0) = false := by simpa using cb0
    have HK : Hid (¬ (0 ≤ a1 ∧ a1 < (n0 : Int))) := by have := M3.out; show ¬ _; omega
    clear ca0 cb0
    by_cases kk : 0 ≤ a1
    · have k1 : decide (0 ≤ a1) = true := by simpa using kk
      have k2 : decide (a1 < (n0 : Int)) = false := by have := HK.out; simp; omega
      clear kk
      go_wp2
      rw [hm.out]
      clear hc hl hcz hlz
      go_loopw [45] (fun i wr => ∃ y : Nat, y ≤ 2 ∧ i = .int .i64 y ∧ Hid (Ap w wr m t0 A0 n0 c0 z0 ta Aa na ca za tb Ab nb cb zb)) (fun i _ => 2 - (intOf i).toNat)
      case atStart => exact ⟨0, by omega, rfl, HAM⟩
      case round =>
        obtain ⟨y, hy, rfl, P1⟩ := hrel
        have hc := P1.out.st.box.cells
        have hl := P1.out.st.box.lt
        by_cases hlt : y < 2
        · have dy : decide ((y : Int) < 2) = true := by simp; omega
          obtain ⟨t', A', n', c', ys, HTo, HRe, v0, v1⟩ := ap_at P1.out M1.out M2.out hlt
          have hlm := P1.out.arr.lt
          have HTo' := hide HTo
          have HRe' := hide HRe
          clear HTo HRe
          have P2 := hide (P1.out.alloc (.cells (C2 t' A' n' c') 24))
          have E2 := hide (EBox.new wr (C2 t' A' n' c'))
          have R2 := hide (HRe'.out.step ((Below.refl _ _).alloc (Nat.le_refl _) (.cells (C2 t' A' n' c') 24)))
          by_cases hz : n' = 0
          · subst hz
            go_wp2
            go_roundw
            case rel => exact ⟨y + 1, by omega, by go_num, P2⟩
            case measure => simp [intOf]; omega
          have dz : ((n' : Int) == 0) = false := by simp; omega
          obtain ⟨e1, e2, e3⟩ : t' = t0 ∧ n' = n0 ∧ Hid (∀ i, i < n0 → ((ys.getD i 0 != z0.getD i 0) = ((i : Int) == a1))) := by
            rcases HTo'.out with h | h
            · have := HRe'.out.len; rw [h] at this; simp at this; omega
            · exact ⟨h.1, by have := HRe'.out.len; omega, h.2.2⟩
          subst e1
          subst e2
          have s1 : (((n' : Nat) : Int) != (n' : Int)) = false := by simp
          have s2 : (t' != t') = false := by simp
          obtain ⟨V, hV⟩ : ∃ V, Hid (wr.alloc (.cells #[.int .i64 t', .slice A' n' c'] 24) = V) := ⟨_, rfl⟩
          obtain ⟨g, hg⟩ : ∃ g, Hid (wr.heap.size = g) := ⟨_, rfl⟩
          have P3 : Hid (Ap w V m t' A0 n' c0 z0 ta Aa na ca za tb Ab nb cb zb) := by show Ap _ _ _ _ _ _ _ _ _ _ _ _ _ _ _ _ _ _; rw [← hV.out]; exact P2.out
          have E3 : Hid (EBox V g (C2 t' A' n' c')) := by show EBox _ _ _; rw [← hV.out, ← hg.out]; exact E2.out
          have R3 : Hid (Reads V V.heap.size A' n' c' ys) := by show Reads _ _ _ _ _ _; rw [← hV.out]; exact R2.out
          go_wp2
          rw [hV.out, hg.out]
          clear hc hl v0 v1 hlm P2 E2 R2
          go_loopw [70] (fun i wr1 => ∃ x q : Nat, x ≤ n' ∧ i = .int .i64 x ∧ wr1 = V.drewN q) (fun i _ => n' - (intOf i).toNat)
          case atStart => exact ⟨0, 0, by omega, rfl, rfl⟩
          case round =>
            obtain ⟨x, q, hx, rfl, rfl⟩ := hrel
            by_cases hxl : x < n'
            · obtain ⟨bA, oA, rfl, hbA, hxa⟩ := R3.out.1.at_ hxl
              obtain ⟨bE, oE, rfl, hbE, hxe⟩ := P3.out.st.reads.1.at_ hxl
              have HK := hide (e3.out x hxl)
              generalize ys.getD x 0 = ya at hxa HK
              generalize z0.getD x 0 = ze at hxe HK
              obtain ⟨p, hp⟩ : ∃ p, Hid (((x : Int) == a1) = p) := ⟨_, rfl⟩
              have hp1 := hp.out
              have hp2 : (ya != ze) = p := HK.out.trans hp.out
              have hc := P3.out.st.box.cells
              have hl := P3.out.st.box.lt
              have hcg := E3.out.cells
              have hlg := E3.out.lt
              cases p with
              | false =>
                go_wp2
                go_quiet (fail)
                go_wp2
                go_roundw
                case rel => exact ⟨x + 1, _, by omega, by go_num, rfl⟩
                case measure => simp [intOf]; omega
              | true =>
                go_wp2
                go_quiet (fail)
                go_wp2
                go_roundw
                case rel => exact ⟨x + 1, _, by omega, by go_num, rfl⟩
                case measure => simp [intOf]; omega
            · go_wp2
              go_roundw
              case rel => exact ⟨y + 1, by omega, by go_num, P3.out.step (Below.drewN (Below.refl _ _) _)⟩
              case measure => simp [intOf]; omega
        · have dy : decide ((y : Int) < 2) = false := by simp; omega
          go_wp2
          go_ret
          exact ⟨rfl, P1.out.st.bel⟩

    have k1 : decide (0 ≤ a1) = false := by simpa using kk
    clear kk
    go_wp2
    rw [hm.out]
    clear hc hl hcz hlz
    go_loopw [45] (fun i wr => ∃ y : Nat, y ≤ 2 ∧ i = .int .i64 y ∧ Hid (Ap w wr m t0 A0 n0 c0 z0 ta Aa na ca za tb Ab nb cb zb)) (fun i _ => 2 - (intOf i).toNat)
    case atStart => exact ⟨0, by omega, rfl, HAM⟩
    case round =>
      obtain ⟨y, hy, rfl, P1⟩ := hrel
      have hc := P1.out.st.box.cells
      have hl := P1.out.st.box.lt
      by_cases hlt : y < 2
      · have dy : decide ((y : Int) < 2) = true := by simp; omega
        obtain ⟨t', A', n', c', ys, HTo, HRe, v0, v1⟩ := ap_at P1.out M1.out M2.out hlt
        have hlm := P1.out.arr.lt
        have HTo' := hide HTo
        have HRe' := hide HRe
        clear HTo HRe
        have P2 := hide (P1.out.alloc (.cells (C2 t' A' n' c') 24))
        have E2 := hide (EBox.new wr (C2 t' A' n' c'))
        have R2 := hide (HRe'.out.step ((Below.refl _ _).alloc (Nat.le_refl _) (.cells (C2 t' A' n' c') 24)))
        by_cases hz : n' = 0
        · subst hz
          go_wp2
          go_roundw
          case rel => exact ⟨y + 1, by omega, by go_num, P2⟩
          case measure => simp [intOf]; omega
        have dz : ((n' : Int) == 0) = false := by simp; omega
        obtain ⟨e1, e2, e3⟩ : t' = t0 ∧ n' = n0 ∧ Hid (∀ i, i < n0 → ((ys.getD i 0 != z0.getD i 0) = ((i : Int) == a1))) := by
          rcases HTo'.out with h | h
          · have := HRe'.out.len; rw [h] at this; simp at this; omega
          · exact ⟨h.1, by have := HRe'.out.len; omega, h.2.2⟩
        subst e1
        subst e2
        have s1 : (((n' : Nat) : Int) != (n' : Int)) = false := by simp
        have s2 : (t' != t') = false := by simp
        obtain ⟨V, hV⟩ : ∃ V, Hid (wr.alloc (.cells #[.int .i64 t', .slice A' n' c'] 24) = V) := ⟨_, rfl⟩
        obtain ⟨g, hg⟩ : ∃ g, Hid (wr.heap.size = g) := ⟨_, rfl⟩
        have P3 : Hid (Ap w V m t' A0 n' c0 z0 ta Aa na ca za tb Ab nb cb zb) := by show Ap _ _ _ _ _ _ _ _ _ _ _ _ _ _ _ _ _ _; rw [← hV.out]; exact P2.out
        have E3 : Hid (EBox V g (C2 t' A' n' c')) := by show EBox _ _ _; rw [← hV.out, ← hg.out]; exact E2.out
        have R3 : Hid (Reads V V.heap.size A' n' c' ys) := by show Reads _ _ _ _ _ _; rw [← hV.out]; exact R2.out
        go_wp2
        rw [hV.out, hg.out]
        clear hc hl v0 v1 hlm P2 E2 R2
        go_loopw [70] (fun i wr1 => ∃ x q : Nat, x ≤ n' ∧ i = .int .i64 x ∧ wr1 = V.drewN q) (fun i _ => n' - (intOf i).toNat)
        case atStart => exact ⟨0, 0, by omega, rfl, rfl⟩
        case round =>
          obtain ⟨x, q, hx, rfl, rfl⟩ := hrel
          by_cases hxl : x < n'
          · obtain ⟨bA, oA, rfl, hbA, hxa⟩ := R3.out.1.at_ hxl
            obtain ⟨bE, oE, rfl, hbE, hxe⟩ := P3.out.st.reads.1.at_ hxl
            have HK := hide (e3.out x hxl)
            generalize ys.getD x 0 = ya at hxa HK
            generalize z0.getD x 0 = ze at hxe HK
            obtain ⟨p, hp⟩ : ∃ p, Hid (((x : Int) == a1) = p) := ⟨_, rfl⟩
            have hp1 := hp.out
            have hp2 : (ya != ze) = p := HK.out.trans hp.out
            have hc := P3.out.st.box.cells
            have hl := P3.out.st.box.lt
            have hcg := E3.out.cells
            have hlg := E3.out.lt
            cases p with
            | false =>
              go_wp2
              go_quiet (fail)
              go_wp2
              go_roundw
              case rel => exact ⟨x + 1, _, by omega, by go_num, rfl⟩
              case measure => simp [intOf]; omega
            | true =>
              go_wp2
              go_quiet (fail)
              go_wp2
              go_roundw
              case rel => exact ⟨x + 1, _, by omega, by go_num, rfl⟩
              case measure => simp [intOf]; omega
          · go_wp2
            go_roundw
            case rel => exact ⟨y + 1, by omega, by go_num, P3.out.step (Below.drewN (Below.refl _ _) _)⟩
            case measure => simp [intOf]; omega
      · have dy : decide ((y : Int) < 2) = false := by simp; omega
        go_wp2
        go_ret
        exact ⟨rfl, P1.out.st.bel⟩

theorem lifted (os : Os) (started : os.Started) (H : Type) (enc : TypeId × Value → H) :
    ReturnsInHanded {} Try.checked os 7 .any (Rows.eraApartSpec.pre6 enc Try.prog Try.f7 Rows.eraApartRow.domain false) (Rows.eraApartSpec.post enc Try.prog Try.f7 false true false false) := by
  refine returnsInHanded_of_change (C := Try.checked) own started (by kernel_rfl) Try.func7
    (ChangeSpec.witness6 (enc := enc) (C := Try.checked) false ⟨#[], #[.agg #[.int .i64 0, .slice none 0 0], .int .i64 0], []⟩ 8 (by kernel_rfl) (by kernel_rfl) (by kernel_rfl) (by kernel_rfl)) ?_
  intro W base args ds gs before hval0 hW hcnd _
  have hval : ∀ (j : Nat) t v, Try.f7.params[j]? = some t → args[j]? = some v → Value.okWide Try.prog W .any base t v := hval0
  have hW' := hW
  obtain ⟨p, q, hA0, hV, rfl, hfz, hnd⟩ := hW
  have hA : DataW.TrodAll enc Try.prog W 0 (fun _ => true) true Try.f7.params.toList args.toList ds p := hA0
  rw [Try.params7] at hA hval
  obtain ⟨x0, vs0, d0, ds0, p0, q0, hargs, rfl, rfl, h0, r0⟩ := trodAll_cons hA
  obtain ⟨x1, vs1, d1, ds1, p1, q1, rfl, rfl, rfl, h1, r1⟩ := trodAll_cons r0
  obtain ⟨rfl, rfl, rfl⟩ := trodAll_nil r1
  obtain rfl : args = #[x0, x1] := by cases args; simp_all
  obtain ⟨rfl, rfl⟩ := trodVars_none hV
  have lt0 : ∀ x ∈ p0, x.block < W.heap.size := by obtain ⟨m, hm⟩ := h0; exact DataW.trod_lt m _ _ _ hm
  obtain ⟨t0, A0, n0, c0, z0, rfl, w0⟩ := open_era (hval 0 24 x0 rfl rfl) h0
  obtain ⟨a1, rfl, rfl, rfl, w1⟩ := open_int Try.underlying3 (hval 1 3 x1 rfl rfl) h1
  clear hA0 hval0
  refine (walk t0 A0 n0 c0 z0 a1 W w0 w1).mono fun e W' ⟨he, bel⟩ => ?_
  subst he
  exact ⟨_, rfl, _, _, _, [], _, [], hW', trodAll_mk1 (shut_bool Try.underlying4 _), (trodAll_cons_mk (Below.trod laidOut (by kernel_rfl) (of_decide_eq_true (by kernel_rfl)) h0 bel lt0) (trodAll_cons_mk (shut_int Try.underlying3 w1) trodAll_mk0)), rfl, bel.frame _, fun h => by cases h⟩

theorem over : Rows.eraApartRow.holds Try.pinned (OpenSpec.ofChange Rows.eraApartSpec) :=
  OpenClaim.holds_of_wide 7 Try.f7 rfl rfl rfl rfl rfl rfl rfl ⟨rfl, rfl, rfl, rfl, rfl⟩ rfl rfl rfl rfl rfl (by kernel_rfl) Try.func7 (by kernel_rfl)
    (of_decide_eq_true (by kernel_rfl)) (by unfold Func.isWrapper; first | (rw [if_pos (by decide +kernel)]; kernel_rfl) | (rw [if_neg (by decide +kernel)]; exact ⟨rfl, rfl⟩))
    (fun os started H enc _ => lifted os started H enc)

end Go.Proofs.Yteckldjdkcbkdaa.eraApart

namespace Go.Proofs.Yteckldjdkcbkdaa
/-- The statement. -/
theorem eraApart_holds : Rows.EraApartSaid := eraApart.over
#print axioms eraApart_holds
end Go.Proofs.Yteckldjdkcbkdaa
