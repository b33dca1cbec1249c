/- What the rows' frames share: a configuration and a graph, opened. No conditions. -/
import Derived.Test.YtiiadkjiofkonaaGreatGOk
import Derived.ProofKit
import Derived.OpenShut
import Derived.ShutString
import Derived.ChangeOld
import Derived.Lib.SmallJoins
import Derived.Deep.Slices
import Derived.Carry
namespace Go.Proofs.YtiiadkjiofkonaaGreat
open Go.Joins Go.ChangeShapes Go.WideShapes Go.ChangeAt Go.RowKit Go.Deep
set_option linter.unusedVariables false

theorem own : ownKnob Tryz.prog.godebug = none := by kernel_rfl
theorem laidOut : laidOutB Tryz.prog = true := by kernel_rfl
theorem cells3 : Tryz.prog.cellsOf 3 = 1 := by kernel_rfl
theorem cells23 : Tryz.prog.cellsOf 23 = 5 := by kernel_rfl
theorem cells24 : Tryz.prog.cellsOf 24 = 1 := by kernel_rfl
theorem cells25 : Tryz.prog.cellsOf 25 = 1 := by kernel_rfl
theorem cells27 : Tryz.prog.cellsOf 27 = 4 := by kernel_rfl
theorem cells34 : Tryz.prog.cellsOf 34 = 1 := by kernel_rfl
theorem cells83 : Tryz.prog.cellsOf 83 = 2 := by kernel_rfl
theorem cells61 : Tryz.prog.cellsOf 61 = 2 := by kernel_rfl
theorem cells79 : Tryz.prog.cellsOf 79 = 3 := by kernel_rfl

theorem wf_bounds {a : Int} (h : (Lit.int .i64 a).wf = true) : -9223372036854775808 ≤ a ∧ a ≤ 9223372036854775807 := by
  have h1 : IntKind.i64.min = -9223372036854775808 := by decide
  have h2 : IntKind.i64.max = 9223372036854775807 := by decide
  have h3 : IntKind.i64.min ≤ a ∧ a ≤ IntKind.i64.max := by simpa [Lit.wf] using h
  omega

/-- What a walk is told of a slice that came in. -/
def Came (w : World) (s : Nat) (A : Option Addr) (n c : Nat) (zs : List Int) : Prop :=
  Nums w w.heap.size s A n zs ∧ n ≤ c ∧ (A = none → c = 0) ∧ ∀ z ∈ zs, (Lit.int .i64 z).wf = true

section
variable {H : Type} {enc : TypeId × Value → H} {w : World} {base : Nat} {spare : Nat → Bool} {held : Bool}

theorem drop_take1 {cs : List Value} {j : Nat} {z : Value} (h : (cs.drop j).take 1 = [z]) : cs[j]? = some z := by
  have := congrArg (fun l => l[0]?) h
  simpa [List.getElem?_take] using this

theorem elem3 {m : Nat} {cs : List Value} {y : DataW H × List MemPlace} (h : DataW.trod enc Tryz.prog w base spare held m 3 cs = some y) : ∀ j, j < 1 → ∃ z, cs[j]? = some (.int .i64 z) ∧ (Lit.int .i64 z).wf = true := by
  obtain ⟨z, rfl, _, hz⟩ := DataW.trod_int Tryz.underlying3 h
  intro j hj
  obtain rfl : j = 0 := by omega
  exact ⟨z, rfl, hz⟩


theorem elem54 {m : Nat} {cs : List Value} {y : DataW H × List MemPlace} (h : DataW.trod enc Tryz.prog w base spare held m 83 cs = some y) : ∀ j, j < 2 → ∃ z, cs[j]? = some (.int .i64 z) ∧ (Lit.int .i64 z).wf = true := by
  obtain ⟨xs, m', _, hx, _, hlen, hg⟩ := DataW.trod_struct Tryz.underlying83 h
  match xs, hlen with
  | [y0, y1], _ =>
    have g0 : DataW.trod enc Tryz.prog w base spare held m' 3 ((cs.drop 0).take (Tryz.prog.cellsOf 3)) = some y0 := hg 0 _ rfl
    have g1 : DataW.trod enc Tryz.prog w base spare held m' 3 ((cs.drop 1).take (Tryz.prog.cellsOf 3)) = some y1 := hg 1 _ rfl
    rw [cells3] at g0 g1
    obtain ⟨z0, e0, _, w0⟩ := DataW.trod_int (x := y0) Tryz.underlying3 g0
    obtain ⟨z1, e1, _, w1⟩ := DataW.trod_int (x := y1) Tryz.underlying3 g1
    intro j hj
    match j, hj with
    | 0, _ => exact ⟨z0, drop_take1 e0, w0⟩
    | 1, _ => exact ⟨z1, drop_take1 e1, w1⟩

theorem elem80 {m : Nat} {cs : List Value} {y : DataW H × List MemPlace} (h : DataW.trod enc Tryz.prog w base spare held m 79 cs = some y) : ∀ j, j < 3 → ∃ z, cs[j]? = some (.int .i64 z) ∧ (Lit.int .i64 z).wf = true := by
  obtain ⟨xs, m', _, hx, _, hlen, hg⟩ := DataW.trod_struct Tryz.underlying79 h
  match xs, hlen with
  | [y0, y1, y2], _ =>
    have g0 : DataW.trod enc Tryz.prog w base spare held m' 3 ((cs.drop 0).take (Tryz.prog.cellsOf 3)) = some y0 := hg 0 _ rfl
    have g1 : DataW.trod enc Tryz.prog w base spare held m' 3 ((cs.drop 1).take (Tryz.prog.cellsOf 3)) = some y1 := hg 1 _ rfl
    have g2 : DataW.trod enc Tryz.prog w base spare held m' 3 ((cs.drop 2).take (Tryz.prog.cellsOf 3)) = some y2 := hg 2 _ rfl
    rw [cells3] at g0 g1 g2
    obtain ⟨z0, e0, _, w0⟩ := DataW.trod_int (x := y0) Tryz.underlying3 g0
    obtain ⟨z1, e1, _, w1⟩ := DataW.trod_int (x := y1) Tryz.underlying3 g1
    obtain ⟨z2, e2, _, w2⟩ := DataW.trod_int (x := y2) Tryz.underlying3 g2
    intro j hj
    match j, hj with
    | 0, _ => exact ⟨z0, drop_take1 e0, w0⟩
    | 1, _ => exact ⟨z1, drop_take1 e1, w1⟩
    | 2, _ => exact ⟨z2, drop_take1 e2, w2⟩

/-- The number in a cell. -/
def numAt (w : World) (b o : Nat) : Int := match w.cell? ⟨b, o, none⟩ with
  | some (.int .i64 z) => z
  | _ => 0

theorem came_of {s len cap : Nat} {a : Addr} (hs : 0 < s) (hlc : len ≤ cap) (hc : ∀ i, i < len → ∀ j, j < s → ∃ z, w.cell? (a.add (i * s + j)) = some (.int .i64 z) ∧ (Lit.int .i64 z).wf = true) :
    ∃ zs, Came w s (some a) len cap zs := by
  obtain ⟨b, off, spot⟩ := a
  rcases Nat.eq_zero_or_pos len with rfl | hpos
  · exact ⟨[], Nums.nil, by omega, (fun h => by cases h), by simp⟩
  obtain ⟨z, h0, _⟩ := hc 0 hpos 0 hs
  have hsp : spot = none := by simpa [Addr.add] using World.cell?_spot h0
  subst hsp
  have hat : ∀ q, q < len * s → ∃ z, w.cell? ⟨b, off + q, none⟩ = some (.int .i64 z) ∧ (Lit.int .i64 z).wf = true := by
    intro q hq
    have h1 := hc (q / s) (Nat.div_lt_of_lt_mul (by rw [Nat.mul_comm]; exact hq)) (q % s) (Nat.mod_lt _ hs)
    rw [Addr.add_lit, Nat.mul_comm, Nat.div_add_mod] at h1
    exact h1
  refine ⟨(List.range (len * s)).map fun q => numAt w b (off + q), ⟨by simp, fun _ => ⟨b, off, rfl, ?_, fun q hq => ?_⟩⟩, hlc, (fun h => by cases h), fun z hz => ?_⟩
  · obtain ⟨z, h1, _⟩ := hat 0 (Nat.mul_pos hpos hs)
    exact World.block_lt_of_cell? w ⟨b, off + 0, none⟩ h1
  · obtain ⟨z, h1, _⟩ := hat q hq
    rw [h1]
    simp [List.getD_eq_getElem?_getD, hq, numAt, h1]
  · simp only [List.mem_map, List.mem_range] at hz
    obtain ⟨q, hq, rfl⟩ := hz
    obtain ⟨z, h1, h2⟩ := hat q hq
    simpa [numAt, h1] using h2


theorem flat_of {t e s m : Nat} {cs : List Value} {y : DataW H × List MemPlace} (ht : Tryz.prog.underlying t = some (.slice e)) (he : Tryz.prog.cellsOf e = s) (hs : 0 < s)
    (hel : ∀ {m : Nat} {cs : List Value} {y : DataW H × List MemPlace}, DataW.trod enc Tryz.prog w base (fun _ => true) held m e cs = some y → ∀ j, j < s → ∃ z, cs[j]? = some (.int .i64 z) ∧ (Lit.int .i64 z).wf = true)
    (hf : DataW.trod enc Tryz.prog w base (fun _ => true) held m t cs = some y) : ∃ A n c zs, cs = [.slice A n c] ∧ Came w s A n c zs := by
  rcases open_slice ht hf with ⟨hcs, _⟩ | ⟨x, l, c, m, n, D, Pl, hcs, _, hl, _, hm, _, hi⟩
  · exact ⟨none, 0, 0, [], hcs, Nums.nil, by omega, fun _ => rfl, by simp⟩
  · rw [he] at hi
    simp only [if_true] at hm
    obtain ⟨zs, hz⟩ := came_of (w := w) (s := s) (a := x) hs hl fun i hi' j hj => by
      obtain ⟨cs', hc, htr⟩ := hi i (by omega)
      obtain ⟨_, hcl, hat⟩ := World.cells?_some hc
      obtain ⟨z, hz, hw⟩ := hel htr j hj
      exact ⟨z, by rw [← Go.Deep.add_add, hat j hj, hz], hw⟩
    exact ⟨some x, l, c, zs, hcs, hz⟩

/-- Numbers taken two at a time, and three. -/
theorem pairs_of {n : Nat} {zs : List Int} (h : zs.length = n * 2) : ∃ L : List Pr, flat2 L = zs := by
  induction n generalizing zs with
  | zero => exact ⟨[], by simpa [flat2] using (List.length_eq_zero_iff.1 (by simpa using h)).symm⟩
  | succ n ih =>
    match zs, h with
    | [], h => simp at h
    | [_], h => simp at h; omega
    | a :: b :: r, h =>
      obtain ⟨L, e⟩ := ih (zs := r) (by simp at h; omega)
      exact ⟨(a, b) :: L, by rw [← e]; rfl⟩
theorem edges_of {n : Nat} {zs : List Int} (h : zs.length = n * 3) : ∃ L : List Ed, flat3 L = zs := by
  induction n generalizing zs with
  | zero => exact ⟨[], by simpa [flat3] using (List.length_eq_zero_iff.1 (by simpa using h)).symm⟩
  | succ n ih =>
    match zs, h with
    | [], h => simp at h
    | [_], h => simp at h; omega
    | [_, _], h => simp at h; omega
    | a :: b :: d :: r, h =>
      obtain ⟨L, e⟩ := ih (zs := r) (by simp at h; omega)
      exact ⟨(a, b, d) :: L, by rw [← e]; rfl⟩

theorem node_of {m : Nat} {cs : List Value} {y : DataW H × List MemPlace} (h : DataW.trod enc Tryz.prog w base (fun _ => true) held m 61 cs = some y) : ∃ (z : Int) (s : Sl) (l : List Pr), cs[0]? = some (.int .i64 z) ∧ cs[1]? = some (.slice s.A s.n s.c) ∧ Props w w.heap.size s l ∧ s.n ≤ maxLen := by
  obtain ⟨xs, m', _, hx, _, hlen, hg⟩ := DataW.trod_struct Tryz.underlying61 h
  match xs, hlen with
  | [y0, y1], _ =>
    have g0 : DataW.trod enc Tryz.prog w base (fun _ => true) held m' 3 ((cs.drop 0).take (Tryz.prog.cellsOf 3)) = some y0 := hg 0 _ rfl
    have g1 : DataW.trod enc Tryz.prog w base (fun _ => true) held m' 34 ((cs.drop 1).take (Tryz.prog.cellsOf 34)) = some y1 := hg 1 _ rfl
    rw [cells3] at g0
    rw [cells34] at g1
    obtain ⟨z0, e0, _, w0⟩ := DataW.trod_int (x := y0) Tryz.underlying3 g0
    obtain ⟨A, n, c, zs, e1, k1⟩ := flat_of Tryz.underlying34 cells83 (by omega) elem54 g1
    obtain ⟨L, eL⟩ := pairs_of k1.1.1
    refine ⟨z0, ⟨A, n, c⟩, L, drop_take1 e0, drop_take1 e1, ⟨by rw [eL]; exact k1.1, k1.2.2.1⟩, ?_⟩
    rcases open_slice Tryz.underlying34 g1 with ⟨hcs, _⟩ | ⟨x, l, c', m2, n2, D, Pl, hcs, _, hl, hml, _⟩
    · rw [hcs] at e1
      simp only [List.cons.injEq, Value.slice.injEq, and_true] at e1
      show n ≤ maxLen
      omega
    · rw [hcs] at e1
      simp only [List.cons.injEq, Value.slice.injEq, and_true] at e1
      show n ≤ maxLen
      omega

set_option maxRecDepth 100000 in
theorem nodes_of {m : Nat} {cs : List Value} {y : DataW H × List MemPlace} (hf : DataW.trod enc Tryz.prog w base (fun _ => true) held m 24 cs = some y) : ∃ (s : Sl) (N : List Nd), cs = [.slice s.A s.n s.c] ∧ Nodes w w.heap.size s N ∧ s.n ≤ maxLen ∧ ∀ i, i < N.length → (N.getD i (0, [])).2.length ≤ maxLen := by
  rcases open_slice Tryz.underlying24 hf with ⟨hcs, _⟩ | ⟨x, l, c, m, n, D, Pl, hcs, _, hl, hml, hm, _, hi⟩
  · exact ⟨noSl, [], hcs, Nodes.nil _ _, by unfold maxLen; decide, fun i hi => by cases hi⟩
  · rw [cells61] at hi
    simp only [if_true] at hm
    have hel : ∀ i, i < l → ∃ d : Nd × Sl, w.cell? (x.add (i * 2)) = some (.int .i64 d.1.1) ∧ w.cell? (x.add (i * 2 + 1)) = some (.slice d.2.A d.2.n d.2.c) ∧ Props w w.heap.size d.2 d.1.2 ∧ d.2.n ≤ maxLen := fun i hil => by
      obtain ⟨cs', hc, htr⟩ := hi i (by omega)
      obtain ⟨_, hcl, hat⟩ := World.cells?_some hc
      obtain ⟨z, s, L, h0, h1, h2, h3⟩ := node_of htr
      exact ⟨((z, L), s), by have := hat 0 (by omega); rw [h0] at this; simpa [Go.Deep.add_add] using this, by have := hat 1 (by omega); rw [h1] at this; rw [← Go.Deep.add_add]; exact this, h2, h3⟩
    rcases Nat.eq_zero_or_pos l with rfl | hpos
    · exact ⟨⟨some x, 0, c⟩, [], hcs, ⟨rfl, (fun h => by cases h), fun h => by cases h⟩, by show 0 ≤ maxLen; omega, fun i hi => by cases hi⟩
    · obtain ⟨b, off, spot⟩ := x
      obtain ⟨d0, hd0, _⟩ := hel 0 hpos
      have hsp : spot = none := by simpa [Addr.add] using World.cell?_spot hd0
      subst hsp
      have hf : ∃ f : Nat → Nd × Sl, ∀ i, i < l → w.cell? ⟨b, off + i * 2, none⟩ = some (.int .i64 (f i).1.1) ∧ w.cell? ⟨b, off + i * 2 + 1, none⟩ = some (.slice (f i).2.A (f i).2.n (f i).2.c) ∧ Props w w.heap.size (f i).2 (f i).1.2 ∧ (f i).2.n ≤ maxLen := by
        refine ⟨fun i => if h : i < l then Classical.choose (hel i h) else ((0, []), noSl), fun i hil => ?_⟩
        have h1 := Classical.choose_spec (hel i hil)
        simp only [hil, dite_true]
        generalize Classical.choose (hel i hil) = dd at h1
        obtain ⟨h2, h3, h4⟩ := h1
        exact ⟨by rw [← h2, Addr.add_lit], by rw [← h3, Addr.add_lit, Nat.add_assoc], h4⟩
      obtain ⟨f, hf⟩ := hf
      have hget : ∀ i, i < l → ((List.range l).map fun i => (f i).1).getD i (0, []) = (f i).1 := fun i hil => by simp [List.getD_eq_getElem?_getD, hil]
      refine ⟨⟨some ⟨b, off, none⟩, l, c⟩, (List.range l).map fun i => (f i).1, hcs, ⟨by simp, (fun h => by cases h), fun _ => ⟨b, off, rfl, World.block_lt_of_cell? w ⟨b, off + 0 * 2, none⟩ (hf 0 hpos).1, fun i hil => ?_⟩⟩, by show l ≤ maxLen; omega, fun i hil => ?_⟩
      · rw [hget i hil]
        obtain ⟨h1, h2, h3, _⟩ := hf i hil
        exact ⟨h1, (f i).2, h2, h3⟩
      · have hil' : i < l := by simpa using hil
        rw [hget i hil']
        obtain ⟨_, _, h3, h4⟩ := hf i hil'
        have := h3.len
        omega

set_option maxRecDepth 100000 in
/-- A graph that came in. -/
theorem open_graph {r : Reach} {b0 : Nat} {v : Value} {d : DataW H} {q : List MemPlace} (hv : Value.okWide Tryz.prog w r b0 27 v) (h : DataW.Trod enc Tryz.prog w base (fun _ => true) held 27 v d q) :
    ∃ (g : Gv) (G : GL), v = g.val ∧ Sees w w.heap.size g G ∧ g.N.n ≤ maxLen ∧ g.E.n ≤ maxLen ∧ (∀ i, i < G.N.length → (G.N.getD i (0, [])).2.length ≤ maxLen) ∧ (Lit.int .i64 g.x).wf = true ∧ (Lit.int .i64 g.y).wf = true := by
  obtain ⟨⟨l⟩, rfl, hsz⟩ := okWide_struct Tryz.underlying27 hv
  rw [cells27] at hsz
  match l, hsz with
  | [v0, v1, v2, v3], _ =>
    obtain ⟨fuel, hf⟩ := h
    obtain ⟨xs, m', _, hx, _, hlen, hg⟩ := DataW.trod_struct Tryz.underlying27 hf
    match xs, hlen with
    | [y0, y1, y2, y3], _ =>
      have g0 : DataW.trod enc Tryz.prog w base (fun _ => true) held m' 24 (([v0, v1, v2, v3].drop 0).take (Tryz.prog.cellsOf 24)) = some y0 := hg 0 _ rfl
      have g1 : DataW.trod enc Tryz.prog w base (fun _ => true) held m' 25 (([v0, v1, v2, v3].drop 1).take (Tryz.prog.cellsOf 25)) = some y1 := hg 1 _ rfl
      have g2 : DataW.trod enc Tryz.prog w base (fun _ => true) held m' 3 (([v0, v1, v2, v3].drop 2).take (Tryz.prog.cellsOf 3)) = some y2 := hg 2 _ rfl
      have g3 : DataW.trod enc Tryz.prog w base (fun _ => true) held m' 3 (([v0, v1, v2, v3].drop 3).take (Tryz.prog.cellsOf 3)) = some y3 := hg 3 _ rfl
      rw [cells24] at g0
      rw [cells25] at g1
      rw [cells3] at g2 g3
      obtain ⟨s, Nl, e0, k0, b0', bp⟩ := nodes_of g0
      obtain ⟨A, n, c, zs, e1, k1⟩ := flat_of Tryz.underlying25 cells79 (by omega) elem80 g1
      have hE : n ≤ maxLen := by
        rcases open_slice Tryz.underlying25 g1 with ⟨hcs, _⟩ | ⟨x, l, c', m2, n2, D, Pl, hcs, _, hl, hml, _⟩
        · rw [hcs] at e1
          simp only [List.cons.injEq, Value.slice.injEq, and_true] at e1
          omega
        · rw [hcs] at e1
          simp only [List.cons.injEq, Value.slice.injEq, and_true] at e1
          omega
      obtain ⟨z2, e2, w2⟩ := elem3 g2 0 (by omega)
      obtain ⟨z3, e3, w3⟩ := elem3 g3 0 (by omega)
      obtain ⟨E, eE⟩ := edges_of k1.1.1
      simp at e0 e1 e2 e3
      subst e0 e1 e2 e3
      exact ⟨⟨s, ⟨A, n, c⟩, z2, z3⟩, ⟨Nl, E, z2, z3⟩, rfl, ⟨k0, by rw [eE]; exact k1.1, k1.2.2.1, rfl, rfl⟩, b0', hE, bp, w2, w3⟩

set_option maxRecDepth 100000 in
/-- A configuration that came in. -/
theorem open_cfg {r : Reach} {b0 : Nat} {v : Value} {d : DataW H} {q : List MemPlace} (hv : Value.okWide Tryz.prog w r b0 23 v) (h : DataW.Trod enc Tryz.prog w base (fun _ => true) held 23 v d q) :
    ∃ n e p i j : Int, v = .agg #[.int .i64 n, .int .i64 e, .int .i64 p, .int .i64 i, .int .i64 j] := by
  obtain ⟨⟨l⟩, rfl, hsz⟩ := okWide_struct Tryz.underlying23 hv
  rw [cells23] at hsz
  match l, hsz with
  | [c0, c1, c2, c3, c4], _ =>
    obtain ⟨fuel, hf⟩ := h
    obtain ⟨xs, m, _, hx, _, hlen, hg⟩ := DataW.trod_struct Tryz.underlying23 hf
    match xs, hlen with
    | [y0, y1, y2, y3, y4], _ =>
      have g0 : DataW.trod enc Tryz.prog w base (fun _ => true) held m 3 (([c0, c1, c2, c3, c4].drop 0).take (Tryz.prog.cellsOf 3)) = some y0 := hg 0 _ rfl
      have g1 : DataW.trod enc Tryz.prog w base (fun _ => true) held m 3 (([c0, c1, c2, c3, c4].drop 1).take (Tryz.prog.cellsOf 3)) = some y1 := hg 1 _ rfl
      have g2 : DataW.trod enc Tryz.prog w base (fun _ => true) held m 3 (([c0, c1, c2, c3, c4].drop 2).take (Tryz.prog.cellsOf 3)) = some y2 := hg 2 _ rfl
      have g3 : DataW.trod enc Tryz.prog w base (fun _ => true) held m 3 (([c0, c1, c2, c3, c4].drop 3).take (Tryz.prog.cellsOf 3)) = some y3 := hg 3 _ rfl
      have g4 : DataW.trod enc Tryz.prog w base (fun _ => true) held m 3 (([c0, c1, c2, c3, c4].drop 4).take (Tryz.prog.cellsOf 3)) = some y4 := hg 4 _ rfl
      rw [cells3] at g0 g1 g2 g3 g4
      obtain ⟨n, e0, _⟩ := elem3 g0 0 (by omega)
      obtain ⟨e, e1, _⟩ := elem3 g1 0 (by omega)
      obtain ⟨p, e2, _⟩ := elem3 g2 0 (by omega)
      obtain ⟨i, e3, _⟩ := elem3 g3 0 (by omega)
      obtain ⟨j, e4, _⟩ := elem3 g4 0 (by omega)
      simp at e0 e1 e2 e3 e4
      subst e0 e1 e2 e3 e4
      exact ⟨n, e, p, i, j, rfl⟩
end
end Go.Proofs.YtiiadkjiofkonaaGreat
