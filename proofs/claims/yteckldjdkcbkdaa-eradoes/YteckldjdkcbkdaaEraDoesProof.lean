/- For every era and thread: what Pin, Unpin and Turn tell is what the document asks; the era stays as it was, and what is told shares no memory with it. (The statement tendrillaw06.EraDoes.) -/
import Derived.Test.YteckldjdkcbkdaaRows
import Derived.Test.YteckldjdkcbkdaaLive
import Derived.Test.YteckldjdkcbkdaaFrame
import Derived.WalkKit
import Derived.Deep.DeepCutAuto
namespace Go.Proofs.Yteckldjdkcbkdaa.eraDoes
open Go.Joins Go.ChangeShapes Go.WideShapes Go.ChangeAt Go.RowKit Go.Deep
set_option linter.unusedVariables false

theorem len_pin {b : Bool} {t k : Int} {zs : List Int} (h : zs.length ≤ 200) : (pinZ b t zs k).length ≤ 200 := by unfold pinZ; split <;> simp [h]
theorem len_unp {b : Bool} {k : Int} {zs : List Int} (h : zs.length ≤ 200) : (unpZ b zs k).length ≤ 200 := by unfold unpZ; split <;> simp [h]
theorem len_turn {b : Bool} {zs : List Int} (h : zs.length ≤ 200) : (turnZ b zs).length ≤ 200 := by unfold turnZ; split <;> simp [h]

/-- A told era in a box, from v's end on. -/
structure Bx (v u : World) (h : Nat) (t : Int) (A : Option Addr) (n c : Nat) (zs : List Int) : Prop where
  box : EBox u h (C2 t A n c)
  row : Row u v.heap.size A n c zs
theorem Bx.step {v u u' : World} {h n c : Nat} {t : Int} {A : Option Addr} {zs : List Int} (x : Bx v u h t A n c zs) (hb : Below u.heap.size u u') : Bx v u' h t A n c zs := ⟨x.box.step hb, x.row.below hb⟩
theorem Bx.first {v u u1 : World} {n c : Nat} {A : Option Addr} {zs : List Int} (hv : Below v.heap.size v u1) (r : Row u u1.heap.size A n c zs) (t : Int) : Bx v (u.alloc (.cells (C2 t A n c) 24)) u.heap.size t A n c zs :=
  ⟨EBox.new u _, (r.less hv.size).alloc _⟩

/-- Rows of numbers that may be written. -/
def IRow (u : World) (B : Nat) (A : Option Addr) (n : Nat) : Prop :=
  0 < n → ∃ g off cs, A = some ⟨g, off, none⟩ ∧ B ≤ g ∧ u.heap[g]? = some (.cells cs 3 (0, 0)) ∧ ∀ i, i < n → ∃ z, cs[off + i]? = some (.int .i64 z)
theorem row_irow {u : World} {B n c : Nat} {A : Option Addr} {zs : List Int} (h : Row u B A n c zs) : IRow u B A n := fun hn => by
  have hl := h.len
  rcases h.1.2 with ⟨_, h0⟩ | ⟨g, cap, cur, h1, hB, hg, hc, hm, hs, ht⟩
  · omega
  · simp only [Value.slice.injEq] at h1
    refine ⟨g, 0, cur, h1.1, hB, hg, fun i hi => ⟨zs.getD i 0, ?_⟩⟩
    have e : (cur.toList.take (n * 1))[i]? = (ints zs)[i]? := by rw [ht]
    rw [List.getElem?_take, if_pos (by omega)] at e
    rw [Nat.zero_add, ← Array.getElem?_toList, e]
    simp [List.getD_eq_getElem?_getD, show i < zs.length by omega]
theorem IRow.below {u u' : World} {B n : Nat} {A : Option Addr} (h : IRow u B A n) (hb : Below u.heap.size u u') : IRow u' B A n := fun hn => by
  obtain ⟨g, off, cs, e, hB, hg, hc⟩ := h hn
  exact ⟨g, off, cs, e, hB, (hb.block g (Array.getElem?_eq_some_iff.1 hg).1).trans hg, hc⟩
theorem IRow.set {u : World} {B n : Nat} {A : Option Addr} (h : IRow u B A n) (g' k : Nat) (z : Int) : IRow (u.setCell ⟨g', k, none⟩ (.int .i64 z)) B A n := fun hn => by
  obtain ⟨g, off, cs, e, hB, hg, hc⟩ := h hn
  by_cases hgg : g' = g
  · subst hgg
    refine ⟨g', off, cs.setIfInBounds k (.int .i64 z), e, hB, heap_setCell_same u g' k cs 3 _ hg, fun i hi => ?_⟩
    obtain ⟨x, hx⟩ := hc i hi
    by_cases hk : k = off + i
    · subst hk
      have := (Array.getElem?_eq_some_iff.1 hx).1
      exact ⟨z, by simp [this]⟩
    · exact ⟨x, by rw [Array.getElem?_setIfInBounds, if_neg hk]; exact hx⟩
  · exact ⟨g, off, cs, e, hB, (Below.heap_setCell u ⟨g', k, none⟩ _ g (by simpa using Ne.symm hgg)).trans hg, hc⟩
/-- One cell of it. -/
theorem IRow.at_ {u : World} {B n k : Nat} {A : Option Addr} (h : IRow u B A n) (hk : k < n) : ∃ g off z cs, A = some ⟨g, off, none⟩ ∧ B ≤ g ∧ g < u.heap.size ∧ u.cell? ⟨g, off + k, none⟩ = some (.int .i64 z) ∧ u.frozen? ⟨g, off + k, none⟩ = false ∧ u.heap[g]? = some (.cells cs 3 (0, 0)) := by
  obtain ⟨g, off, cs, e, hB, hg, hc⟩ := h (by omega)
  obtain ⟨z, hz⟩ := hc k hk
  exact ⟨g, off, z, cs, e, hB, (Array.getElem?_eq_some_iff.1 hg).1, (cell_of_row u g (off + k) cs 3 (0, 0) hg).trans hz, frozen_of_row u g (off + k) cs 3 hg, hg⟩

/-- What stands while the told eras are written. -/
structure Lp (v u : World) (m : Nat) (cs : Array Value) (X : Option Addr → Nat → Prop) : Prop where
  bel : Below v.heap.size v u
  arr : EBox u m cs
  wrt : ∀ A n, X A n → IRow u v.heap.size A n ∧ n ≤ 200
theorem Lp.alloc {v u : World} {m : Nat} {cs : Array Value} {X : Option Addr → Nat → Prop} (h : Lp v u m cs X) (o : Obj) : Lp v (u.alloc o) m cs X :=
  ⟨h.bel.alloc h.bel.size _, h.arr.alloc _, fun A n hq => ⟨(h.wrt A n hq).1.below ((Below.refl _ _).alloc (Nat.le_refl _) _), (h.wrt A n hq).2⟩⟩
theorem box_not {u : World} {g g' : Nat} {cs cs' : Array Value} (h : EBox u g cs) (h' : u.heap[g']? = some (.cells cs' 3 (0, 0))) : g' ≠ g := by
  intro e
  subst e
  have h2 : some (Obj.cells cs 24 (0, 0)) = some (Obj.cells cs' 3 (0, 0)) := h.symm.trans h'
  simp at h2
theorem Lp.set {v u : World} {m g k : Nat} {cs cs' : Array Value} {X : Option Addr → Nat → Prop} (h : Lp v u m cs X) (hB : v.heap.size ≤ g) (hg : u.heap[g]? = some (.cells cs' 3 (0, 0))) (z : Int) : Lp v (u.setCell ⟨g, k, none⟩ (.int .i64 z)) m cs X :=
  ⟨h.bel.setCell hB _, h.arr.other (box_not h.arr hg) _, fun A n hq => ⟨(h.wrt A n hq).1.set _ _ _, (h.wrt A n hq).2⟩⟩

/-- The three eras, one behind the other. -/
abbrev cs6 (ta : Int) (Aa : Option Addr) (na ca : Nat) (tc : Int) (Ac : Option Addr) (nc cc : Nat) (ti : Int) (Ai : Option Addr) (ni ci : Nat) : Array Value := #[.int .i64 ta, .slice Aa na ca, .int .i64 tc, .slice Ac nc cc, .int .i64 ti, .slice Ai ni ci]
theorem arr_at {u : World} {m k : Nat} {ta tc ti : Int} {Aa Ac Ai : Option Addr} {na ca nc cc ni ci : Nat} (h : EBox u m (cs6 ta Aa na ca tc Ac nc cc ti Ai ni ci)) (hk : k < 3) :
    ∃ (t : Int) (A : Option Addr) (n c : Nat), ((A = Aa ∧ n = na) ∨ (A = Ac ∧ n = nc) ∨ (A = Ai ∧ n = ni)) ∧ u.cell? ⟨m, k * 2, none⟩ = some (.int .i64 t) ∧ u.cell? ⟨m, k * 2 + 1, none⟩ = some (.slice A n c) := by
  match k, hk with
  | 0, _ => exact ⟨ta, Aa, na, ca, .inl ⟨rfl, rfl⟩, h.cells 0, h.cells 1⟩
  | 1, _ => exact ⟨tc, Ac, nc, cc, .inr (.inl ⟨rfl, rfl⟩), h.cells 2, h.cells 3⟩
  | 2, _ => exact ⟨ti, Ai, ni, ci, .inr (.inr ⟨rfl, rfl⟩), h.cells 4, h.cells 5⟩
theorem lp_first {v u : World} {Aa Ac Ai : Option Addr} {na ca nc cc ni ci : Nat} {za zc zi : List Int} (hb : Below v.heap.size v u) (ra : Row u v.heap.size Aa na ca za) (rc : Row u v.heap.size Ac nc cc zc) (ri : Row u v.heap.size Ai ni ci zi) (sa : na ≤ 200) (sc : nc ≤ 200) (si : ni ≤ 200) (ta tc ti : Int) :
    Lp v (u.alloc (.cells (cs6 ta Aa na ca tc Ac nc cc ti Ai ni ci) 24)) u.heap.size (cs6 ta Aa na ca tc Ac nc cc ti Ai ni ci) (fun A n => (A = Aa ∧ n = na) ∨ (A = Ac ∧ n = nc) ∨ (A = Ai ∧ n = ni)) := by
  have d := (Below.refl u.heap.size u).alloc (Nat.le_refl _) (.cells (cs6 ta Aa na ca tc Ac nc cc ti Ai ni ci) 24)
  refine ⟨hb.alloc hb.size _, EBox.new u _, fun A n hq => ?_⟩
  rcases hq with ⟨rfl, rfl⟩ | ⟨rfl, rfl⟩ | ⟨rfl, rfl⟩
  · exact ⟨(row_irow ra).below d, sa⟩
  · exact ⟨(row_irow rc).below d, sc⟩
  · exact ⟨(row_irow ri).below d, si⟩

set_option maxRecDepth 100000 in
set_option maxHeartbeats 3000000 in
theorem walk (t0 : Int) (A0 : Option Addr) (n0 c0 : Nat) (z0 : List Int) (a1 : Int) (w : World) (w0 : Reads w w.heap.size A0 n0 c0 z0) (w1 : (Lit.int .i64 a1).wf = true) :
    Calls Try.prog 4 #[V2 t0 A0 n0 c0, .int .i64 a1] w (Drew (.bool true) w) := by
  clear w1
  have S0 := hide (stand_in t0 w0)
  have HL := hide w0.len
  clear w0
  obtain ⟨b, HB⟩ := bool_of (Ok t0 z0)
  obtain ⟨s, HS⟩ := bool_of (Step t0 z0)
  go_enter Try.func4, Try.ntmps4
  go_wp2_with fail
  refine (live_yes _).mono ?_
  rintro e u1 ⟨rfl, b1⟩
  have S1 := hide (S0.out.step b1)
  clear b1 S0
  have hc := S1.out.box.cells
  have hl := S1.out.box.lt
  by_cases few : 200 < n0
  · have d1 : decide ((200 : Int) < (n0 : Int)) = true := by simp; omega
    clear HB HS
    go_wp2
    go_ret
    exact ⟨rfl, S1.out.bel⟩
  have d1 : decide ((200 : Int) < (n0 : Int)) = false := by simp; omega
  have hn : n0 ≤ 200 := by omega
  have hfew : z0.length ≤ 200 := by have := HL.out; omega
  clear few
  have Ha : Hid (∀ u, Reads u u.heap.size A0 n0 c0 z0 → Calls Try.prog 18 #[V2 t0 A0 n0 c0, .int .i64 a1] u (Tell2 u (pinT b t0 z0 a1) (pinZ b t0 z0 a1) (.int .i64 (pinE b z0 a1)))) := fun u hu => pin_any t0 A0 n0 c0 _ z0 b a1 u hu (Nat.le_refl _) HB
  have Hb : Hid (∀ u, Reads u u.heap.size A0 n0 c0 z0 → Calls Try.prog 19 #[V2 t0 A0 n0 c0, .int .i64 a1] u (Tell2 u (pinT b t0 z0 a1) (pinZ b t0 z0 a1) (.int .i64 (pinE b z0 a1)))) := fun u hu => rpin_any t0 A0 n0 c0 _ z0 b a1 u hu (Nat.le_refl _) HB
  have Hc : Hid (∀ u, Reads u u.heap.size A0 n0 c0 z0 → Calls Try.prog 20 #[V2 t0 A0 n0 c0, .int .i64 a1] u (Tell2 u (unpT b t0 z0 a1) (unpZ b z0 a1) (.int .i64 (unpE b z0 a1)))) := fun u hu => unpin_any t0 A0 n0 c0 _ z0 b a1 u hu (Nat.le_refl _) HB
  have Hd : Hid (∀ u, Reads u u.heap.size A0 n0 c0 z0 → Calls Try.prog 21 #[V2 t0 A0 n0 c0, .int .i64 a1] u (Tell2 u (unpT b t0 z0 a1) (unpZ b z0 a1) (.int .i64 (unpE b z0 a1)))) := fun u hu => runpin_any t0 A0 n0 c0 _ z0 b a1 u hu (Nat.le_refl _) HB
  have Hi : Hid (∀ u, Reads u u.heap.size A0 n0 c0 z0 → Calls Try.prog 22 #[V2 t0 A0 n0 c0] u (Tell2 u (turnT b s t0) (turnZ b z0) (.bool (turnB b s t0)))) := fun u hu => turn_any t0 A0 n0 c0 _ z0 b s u hu (Nat.le_refl _) HB HS
  have Hj : Hid (∀ u, Reads u u.heap.size A0 n0 c0 z0 → Calls Try.prog 23 #[V2 t0 A0 n0 c0] u (Tell2 u (turnT b s t0) (turnZ b z0) (.bool (turnB b s t0)))) := fun u hu => rturn_any t0 A0 n0 c0 _ z0 b s u hu (Nat.le_refl _) HB HS
  have Fa := hide (len_pin (b := b) (t := t0) (k := a1) hfew)
  have Fc := hide (len_unp (b := b) (k := a1) hfew)
  have Fi := hide (len_turn (b := b) hfew)
  generalize pinT b t0 z0 a1 = ta at Ha Hb
  generalize pinZ b t0 z0 a1 = za at Ha Hb Fa
  generalize pinE b z0 a1 = ea at Ha Hb
  generalize unpT b t0 z0 a1 = tc at Hc Hd
  generalize unpZ b z0 a1 = zc at Hc Hd Fc
  generalize unpE b z0 a1 = ec at Hc Hd
  generalize turnT b s t0 = ti at Hi Hj
  generalize turnZ b z0 = zi at Hi Hj Fi
  generalize turnB b s t0 = pi at Hi Hj
  have g1 : (ea == ea) = true := by simp
  have g2 : (ec == ec) = true := by simp
  have g3 : (pi == pi) = true := by simp
  clear HB HS hfew
  go_wp2_with fail
  refine (rcopy_any A0 n0 c0 _ z0 _ S1.out.reads hn).mono ?_
  rintro e V ⟨Aw, nw, cw, rfl, rw1, bw⟩
  have X0 := hide (S1.out.step bw)
  have XV := X0
  have KW := hide rw1
  have BC0 := hide (Below.refl V.heap.size V)
  clear hc hl rw1 bw S1
  have hc := X0.out.box.cells
  have hl := X0.out.box.lt
  go_wp2_with fail
  refine (Ha.out _ X0.out.reads).mono ?_
  rintro e ua ⟨Aa, na, ca, rfl, ra, ba⟩
  clear hc hl
  have BV0 := hide (next_call BC0.out (Nat.le_refl _) ba)
  have Ya := hide (Bx.first BC0.out ra ta)
  have XX0 := hide (X0.out.step ba)
  have X1 := hide (XX0.out.alloc (.cells (C2 ta Aa na ca) 24))
  have BC1 := hide (BV0.out.alloc BV0.out.size (.cells (C2 ta Aa na ca) 24))
  obtain ⟨ha, hha⟩ : ∃ h, Hid (ua.heap.size = h) := ⟨_, rfl⟩
  rw [hha.out] at Ya
  have hc := XX0.out.box.cells
  have hl := XX0.out.box.lt
  clear ra ba X0 BC0 BV0
  go_wp2_with fail
  refine (Hb.out _ X1.out.reads).mono ?_
  rintro e ub ⟨Ab, nb, cb, rfl, rb, bb⟩
  clear hc hl
  rw [hha.out]
  have BV1 := hide (next_call BC1.out (Nat.le_refl _) bb)
  have Yb := hide (Bx.first BC1.out rb ta)
  have XX1 := hide (X1.out.step bb)
  have X2 := hide (XX1.out.alloc (.cells (C2 ta Ab nb cb) 24))
  have BC2 := hide (BV1.out.alloc BV1.out.size (.cells (C2 ta Ab nb cb) 24))
  replace Ya := hide ((Ya.out.step bb).step ((Below.refl _ _).alloc (Nat.le_refl _) (.cells (C2 ta Ab nb cb) 24)))
  obtain ⟨hb, hhb⟩ : ∃ h, Hid (ub.heap.size = h) := ⟨_, rfl⟩
  rw [hhb.out] at Yb
  have hc := XX1.out.box.cells
  have hl := XX1.out.box.lt
  clear rb bb X1 BC1 BV1
  go_wp2_with fail
  refine (Hc.out _ X2.out.reads).mono ?_
  rintro e uc ⟨Ac, nc, cc, rfl, rc, bc⟩
  clear hc hl
  rw [hhb.out]
  have BV2 := hide (next_call BC2.out (Nat.le_refl _) bc)
  have Yc := hide (Bx.first BC2.out rc tc)
  have XX2 := hide (X2.out.step bc)
  have X3 := hide (XX2.out.alloc (.cells (C2 tc Ac nc cc) 24))
  have BC3 := hide (BV2.out.alloc BV2.out.size (.cells (C2 tc Ac nc cc) 24))
  replace Ya := hide ((Ya.out.step bc).step ((Below.refl _ _).alloc (Nat.le_refl _) (.cells (C2 tc Ac nc cc) 24)))
  replace Yb := hide ((Yb.out.step bc).step ((Below.refl _ _).alloc (Nat.le_refl _) (.cells (C2 tc Ac nc cc) 24)))
  obtain ⟨hc, hhc⟩ : ∃ h, Hid (uc.heap.size = h) := ⟨_, rfl⟩
  rw [hhc.out] at Yc
  have hc := XX2.out.box.cells
  have hl := XX2.out.box.lt
  clear rc bc X2 BC2 BV2
  go_wp2_with fail
  refine (Hd.out _ X3.out.reads).mono ?_
  rintro e ud ⟨Ad, nd, cd, rfl, rd, bd⟩
  clear hc hl
  rw [hhc.out]
  have BV3 := hide (next_call BC3.out (Nat.le_refl _) bd)
  have Yd := hide (Bx.first BC3.out rd tc)
  have XX3 := hide (X3.out.step bd)
  have X4 := hide (XX3.out.alloc (.cells (C2 tc Ad nd cd) 24))
  have BC4 := hide (BV3.out.alloc BV3.out.size (.cells (C2 tc Ad nd cd) 24))
  replace Ya := hide ((Ya.out.step bd).step ((Below.refl _ _).alloc (Nat.le_refl _) (.cells (C2 tc Ad nd cd) 24)))
  replace Yb := hide ((Yb.out.step bd).step ((Below.refl _ _).alloc (Nat.le_refl _) (.cells (C2 tc Ad nd cd) 24)))
  replace Yc := hide ((Yc.out.step bd).step ((Below.refl _ _).alloc (Nat.le_refl _) (.cells (C2 tc Ad nd cd) 24)))
  obtain ⟨hd, hhd⟩ : ∃ h, Hid (ud.heap.size = h) := ⟨_, rfl⟩
  rw [hhd.out] at Yd
  have hc := XX3.out.box.cells
  have hl := XX3.out.box.lt
  clear rd bd X3 BC3 BV3
  go_wp2_with fail
  refine (Hi.out _ X4.out.reads).mono ?_
  rintro e ui ⟨Ai, ni, ci, rfl, ri, bi⟩
  clear hc hl
  rw [hhd.out]
  have BV4 := hide (next_call BC4.out (Nat.le_refl _) bi)
  have Yi := hide (Bx.first BC4.out ri ti)
  have XX4 := hide (X4.out.step bi)
  have X5 := hide (XX4.out.alloc (.cells (C2 ti Ai ni ci) 24))
  have BC5 := hide (BV4.out.alloc BV4.out.size (.cells (C2 ti Ai ni ci) 24))
  replace Ya := hide ((Ya.out.step bi).step ((Below.refl _ _).alloc (Nat.le_refl _) (.cells (C2 ti Ai ni ci) 24)))
  replace Yb := hide ((Yb.out.step bi).step ((Below.refl _ _).alloc (Nat.le_refl _) (.cells (C2 ti Ai ni ci) 24)))
  replace Yc := hide ((Yc.out.step bi).step ((Below.refl _ _).alloc (Nat.le_refl _) (.cells (C2 ti Ai ni ci) 24)))
  replace Yd := hide ((Yd.out.step bi).step ((Below.refl _ _).alloc (Nat.le_refl _) (.cells (C2 ti Ai ni ci) 24)))
  obtain ⟨hi, hhi⟩ : ∃ h, Hid (ui.heap.size = h) := ⟨_, rfl⟩
  rw [hhi.out] at Yi
  have hc := XX4.out.box.cells
  have hl := XX4.out.box.lt
  clear ri bi X4 BC4 BV4
  go_wp2_with fail
  refine (Hj.out _ X5.out.reads).mono ?_
  rintro e uj ⟨Aj, nj, cj, rfl, rj, bj⟩
  clear hc hl
  rw [hhi.out]
  have BV5 := hide (next_call BC5.out (Nat.le_refl _) bj)
  have Yj := hide (Bx.first BC5.out rj ti)
  have XX5 := hide (X5.out.step bj)
  have X6 := hide (XX5.out.alloc (.cells (C2 ti Aj nj cj) 24))
  have BC6 := hide (BV5.out.alloc BV5.out.size (.cells (C2 ti Aj nj cj) 24))
  replace Ya := hide ((Ya.out.step bj).step ((Below.refl _ _).alloc (Nat.le_refl _) (.cells (C2 ti Aj nj cj) 24)))
  replace Yb := hide ((Yb.out.step bj).step ((Below.refl _ _).alloc (Nat.le_refl _) (.cells (C2 ti Aj nj cj) 24)))
  replace Yc := hide ((Yc.out.step bj).step ((Below.refl _ _).alloc (Nat.le_refl _) (.cells (C2 ti Aj nj cj) 24)))
  replace Yd := hide ((Yd.out.step bj).step ((Below.refl _ _).alloc (Nat.le_refl _) (.cells (C2 ti Aj nj cj) 24)))
  replace Yi := hide ((Yi.out.step bj).step ((Below.refl _ _).alloc (Nat.le_refl _) (.cells (C2 ti Aj nj cj) 24)))
  obtain ⟨hj, hhj⟩ : ∃ h, Hid (uj.heap.size = h) := ⟨_, rfl⟩
  rw [hhj.out] at Yj
  have hc := XX5.out.box.cells
  have hl := XX5.out.box.lt
  clear rj bj X5 BC5 BV5
  clear hc hl
  have hc1 := Ya.out.box.cells
  have hl1 := Ya.out.box.lt
  have hc2 := Yb.out.box.cells
  have hl2 := Yb.out.box.lt
  go_wp2_with fail
  refine (samee_yes ta Aa Ab na nb ca cb _ _ za _ Ya.out.row.reads Yb.out.row.reads (Nat.le_refl _) (Nat.le_refl _) (by have := Ya.out.row.len; have := Fa.out; omega)).mono ?_
  rintro e s0 ⟨rfl, ds0⟩
  clear hc1 hl1 hc2 hl2
  replace Ya := hide (Ya.out.step ds0)
  replace Yb := hide (Yb.out.step ds0)
  replace Yc := hide (Yc.out.step ds0)
  replace Yd := hide (Yd.out.step ds0)
  replace Yi := hide (Yi.out.step ds0)
  replace Yj := hide (Yj.out.step ds0)
  replace BC6 := hide (next_call BC6.out (Nat.le_refl _) ds0)
  clear ds0
  rw [hhj.out]
  have hc1 := Yc.out.box.cells
  have hl1 := Yc.out.box.lt
  have hc2 := Yd.out.box.cells
  have hl2 := Yd.out.box.lt
  go_wp2_with fail
  refine (samee_yes tc Ac Ad nc nd cc cd _ _ zc _ Yc.out.row.reads Yd.out.row.reads (Nat.le_refl _) (Nat.le_refl _) (by have := Yc.out.row.len; have := Fc.out; omega)).mono ?_
  rintro e s1 ⟨rfl, ds1⟩
  clear hc1 hl1 hc2 hl2
  replace Ya := hide (Ya.out.step ds1)
  replace Yb := hide (Yb.out.step ds1)
  replace Yc := hide (Yc.out.step ds1)
  replace Yd := hide (Yd.out.step ds1)
  replace Yi := hide (Yi.out.step ds1)
  replace Yj := hide (Yj.out.step ds1)
  replace BC6 := hide (next_call BC6.out (Nat.le_refl _) ds1)
  clear ds1
  have hc1 := Yi.out.box.cells
  have hl1 := Yi.out.box.lt
  have hc2 := Yj.out.box.cells
  have hl2 := Yj.out.box.lt
  go_wp2_with fail
  refine (samee_yes ti Ai Aj ni nj ci cj _ _ zi _ Yi.out.row.reads Yj.out.row.reads (Nat.le_refl _) (Nat.le_refl _) (by have := Yi.out.row.len; have := Fi.out; omega)).mono ?_
  rintro e s2 ⟨rfl, ds2⟩
  clear hc1 hl1 hc2 hl2
  replace Ya := hide (Ya.out.step ds2)
  replace Yb := hide (Yb.out.step ds2)
  replace Yc := hide (Yc.out.step ds2)
  replace Yd := hide (Yd.out.step ds2)
  replace Yi := hide (Yi.out.step ds2)
  replace Yj := hide (Yj.out.step ds2)
  replace BC6 := hide (next_call BC6.out (Nat.le_refl _) ds2)
  clear ds2
  have hca := Ya.out.box.cells
  have hla := Ya.out.box.lt
  have hcc := Yc.out.box.cells
  have hlc := Yc.out.box.lt
  have hci := Yi.out.box.cells
  have hli := Yi.out.box.lt
  have L0 := hide (lp_first BC6.out Ya.out.row Yc.out.row Yi.out.row (by have := Ya.out.row.len; have := Fa.out; omega) (by have := Yc.out.row.len; have := Fc.out; omega) (by have := Yi.out.row.len; have := Fi.out; omega) ta tc ti)
  obtain ⟨m, hm⟩ : ∃ m, Hid (s2.heap.size = m) := ⟨_, rfl⟩
  clear Ya Yb Yc Yd Yi Yj BC6
  go_wp2
  clear hca hla hcc hlc hci hli
  rw [hm.out] at L0 ⊢
  go_loopw [98] (fun x wr => ∃ k : Nat, k ≤ 3 ∧ x = .int .i64 k ∧ Hid (Lp V wr m (cs6 ta Aa na ca tc Ac nc cc ti Ai ni ci) (fun A n => (A = Aa ∧ n = na) ∨ (A = Ac ∧ n = nc) ∨ (A = Ai ∧ n = ni))))
    (fun x _ => 3 - (intOf x).toNat)
  case atStart => exact ⟨0, by omega, rfl, L0⟩
  case round =>
    obtain ⟨k, hk, rfl, L1⟩ := hrel
    clear L0
    by_cases hlt : k < 3
    · have hdk : decide ((k : Int) < 3) = true := by simp; omega
      have harr := L1.out.arr.lt
      obtain ⟨t', A', n', c', hq, y0, y1⟩ := arr_at L1.out.arr hlt
      have HW := hide (L1.out.wrt A' n' hq)
      have HX := hide hq
      clear hq
      have s1 : n' ≤ 200 := HW.out.2
      have L2 := hide (L1.out.alloc (.cells (C2 t' A' n' c') 24))
      have P2 := hide (EBox.new wr (C2 t' A' n' c'))
      obtain ⟨g, hg⟩ : ∃ g, Hid (wr.heap.size = g) := ⟨_, rfl⟩
      go_wp2
      clear y0 y1 harr
      rw [hg.out] at P2 ⊢
      go_loopw [105] (fun i1 wr1 => ∃ y : Nat, y ≤ n' ∧ i1 = .int .i64 y ∧ Hid (Lp V wr1 m (cs6 ta Aa na ca tc Ac nc cc ti Ai ni ci) (fun A n => (A = Aa ∧ n = na) ∨ (A = Ac ∧ n = nc) ∨ (A = Ai ∧ n = ni))) ∧ Hid (EBox wr1 g (C2 t' A' n' c')))
        (fun i1 _ => n' - (intOf i1).toNat)
      case atStart => exact ⟨0, by omega, rfl, L2, P2⟩
      case round =>
        obtain ⟨y, hy, rfl, L3, P3⟩ := hrel
        clear L2 P2
        have hc := P3.out.cells
        have hl := P3.out.lt
        by_cases hyl : y < n'
        · obtain ⟨g1, off, z, cs, e1, hB, hgl, hz, hfz, hgg⟩ := (L3.out.wrt _ _ HX.out).1.at_ hyl
          subst e1
          have ne1 : g1 ≠ g := box_not P3.out hgg
          have ne2 : g ≠ g1 := ne1.symm
          have LS := fun z' : Int => hide (L3.out.set (k := off + y) hB hgg z')
          have HLS := hide LS
          have HNE := hide ne1
          clear hgg LS
          go_wp2
          go_roundw
          case rel => exact ⟨y + 1, by omega, by go_num, HLS.out _, P3.out.other HNE.out _⟩
          case measure => simp [intOf]; omega
        · clear hc hl
          go_wp2
          go_roundw
          case rel => exact ⟨k + 1, by omega, by go_num, L3⟩
          case measure => simp [intOf]; omega
    · have hdk : decide ((k : Int) < 3) = false := by simp; omega
      have XP := hide (XV.out.step L1.out.bel)
      have XW := hide (KW.out.below L1.out.bel)
      obtain rfl : nw = n0 := by have := KW.out.len; have := HL.out; omega
      have hc1 := XP.out.box.cells
      have hl1 := XP.out.box.lt
      go_wp2_with fail
      refine (same_yes A0 Aw nw c0 cw _ _ z0 _ XP.out.reads.1 XW.out.nums hn).mono ?_
      rintro e sf ⟨rfl, dsf⟩
      have BF := hide (next_call XP.out.bel (Nat.le_refl _) dsf)
      clear hc1 hl1 dsf
      go_wp2
      go_ret
      exact ⟨rfl, BF.out⟩

theorem lifted (os : Os) (started : os.Started) (H : Type) (enc : TypeId × Value → H) :
    ReturnsInHanded {} Try.checked os 4 .any (Rows.eraDoesSpec.pre6 enc Try.prog Try.f4 Rows.eraDoesRow.domain false) (Rows.eraDoesSpec.post enc Try.prog Try.f4 false true false false) := by
  refine returnsInHanded_of_change (C := Try.checked) own started (by kernel_rfl) Try.func4
    (ChangeSpec.witness6 (enc := enc) (C := Try.checked) false ⟨#[], #[.agg #[.int .i64 0, .slice none 0 0], .int .i64 0], []⟩ 8 (by kernel_rfl) (by kernel_rfl) (by kernel_rfl) (by kernel_rfl)) ?_
  intro W base args ds gs before hval0 hW hcnd _
  have hval : ∀ (j : Nat) t v, Try.f4.params[j]? = some t → args[j]? = some v → Value.okWide Try.prog W .any base t v := hval0
  have hW' := hW
  obtain ⟨p, q, hA0, hV, rfl, hfz, hnd⟩ := hW
  have hA : DataW.TrodAll enc Try.prog W 0 (fun _ => true) true Try.f4.params.toList args.toList ds p := hA0
  rw [Try.params4] at hA hval
  obtain ⟨x0, vs0, d0, ds0, p0, q0, hargs, rfl, rfl, h0, r0⟩ := trodAll_cons hA
  obtain ⟨x1, vs1, d1, ds1, p1, q1, rfl, rfl, rfl, h1, r1⟩ := trodAll_cons r0
  obtain ⟨rfl, rfl, rfl⟩ := trodAll_nil r1
  obtain rfl : args = #[x0, x1] := by cases args; simp_all
  obtain ⟨rfl, rfl⟩ := trodVars_none hV
  have lt0 : ∀ x ∈ p0, x.block < W.heap.size := by obtain ⟨m, hm⟩ := h0; exact DataW.trod_lt m _ _ _ hm
  obtain ⟨t0, A0, n0, c0, z0, rfl, w0⟩ := open_era (hval 0 24 x0 rfl rfl) h0
  obtain ⟨a1, rfl, rfl, rfl, w1⟩ := open_int Try.underlying3 (hval 1 3 x1 rfl rfl) h1
  clear hA0 hval0
  refine (walk t0 A0 n0 c0 z0 a1 W w0 w1).mono fun e W' ⟨he, bel⟩ => ?_
  subst he
  exact ⟨_, rfl, _, _, _, [], _, [], hW', trodAll_mk1 (shut_bool Try.underlying4 _), (trodAll_cons_mk (Below.trod laidOut (by kernel_rfl) (of_decide_eq_true (by kernel_rfl)) h0 bel lt0) (trodAll_cons_mk (shut_int Try.underlying3 w1) trodAll_mk0)), rfl, bel.frame _, fun h => by cases h⟩

theorem over : Rows.eraDoesRow.holds Try.pinned (OpenSpec.ofChange Rows.eraDoesSpec) :=
  OpenClaim.holds_of_wide 4 Try.f4 rfl rfl rfl rfl rfl rfl rfl ⟨rfl, rfl, rfl, rfl, rfl⟩ rfl rfl rfl rfl rfl (by kernel_rfl) Try.func4 (by kernel_rfl)
    (of_decide_eq_true (by kernel_rfl)) (by unfold Func.isWrapper; first | (rw [if_pos (by decide +kernel)]; kernel_rfl) | (rw [if_neg (by decide +kernel)]; exact ⟨rfl, rfl⟩))
    (fun os started H enc _ => lifted os started H enc)

end Go.Proofs.Yteckldjdkcbkdaa.eraDoes

namespace Go.Proofs.Yteckldjdkcbkdaa
/-- The statement. -/
theorem eraDoes_holds : Rows.EraDoesSaid := eraDoes.over
#print axioms eraDoes_holds
end Go.Proofs.Yteckldjdkcbkdaa
