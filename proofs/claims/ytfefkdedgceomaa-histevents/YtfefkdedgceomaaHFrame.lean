/- What the rows' frames share: histories, and calls, opened. No conditions. -/
import Derived.Test.YtfefkdedgceomaaCRows
import Derived.ProofKit
import Derived.OpenShut
import Derived.ShutString
import Derived.ChangeOld
import Derived.Lib.SmallJoins
import Derived.Deep.Slices
import Derived.Carry
namespace Go.Proofs.Ytfefkdedgceomaa
open Go.Joins Go.ChangeShapes Go.WideShapes Go.ChangeAt Go.RowKit Go.Deep
set_option linter.unusedVariables false
set_option maxRecDepth 100000

theorem own : ownKnob Try.prog.godebug = none := by kernel_rfl
theorem laidOut : laidOutB Try.prog = true := by kernel_rfl
theorem cells3 : Try.prog.cellsOf 3 = 1 := by kernel_rfl
theorem cells4 : Try.prog.cellsOf 4 = 1 := by kernel_rfl
theorem cells26 : Try.prog.cellsOf 26 = 1 := by kernel_rfl
theorem cells34 : Try.prog.cellsOf 34 = 1 := by kernel_rfl
theorem cells35 : Try.prog.cellsOf 35 = 1 := by kernel_rfl
theorem cells33 : Try.prog.cellsOf 33 = 5 := by kernel_rfl
theorem cells37 : Try.prog.cellsOf 37 = 5 := by kernel_rfl
theorem cells39 : Try.prog.cellsOf 39 = 13 := by kernel_rfl
theorem cells45 : Try.prog.cellsOf 45 = 12 := by kernel_rfl
theorem cells56 : Try.prog.cellsOf 56 = 2 := by kernel_rfl
theorem cells59 : Try.prog.cellsOf 59 = 2 := by kernel_rfl
/-- What a walk is told of a slice that came in. -/
def Came (w : World) (s : Nat) (A : Option Addr) (n c : Nat) (zs : List Int) : Prop :=
  Nums w w.heap.size s A n zs ∧ n ≤ c ∧ (A = none → c = 0) ∧ ∀ z ∈ zs, (Lit.int .i64 z).wf = true

section
variable {H : Type} {enc : TypeId × Value → H} {w : World} {base : Nat} {spare : Nat → Bool} {held : Bool}

theorem drop_take1 {cs : List Value} {j : Nat} {z : Value} (h : (cs.drop j).take 1 = [z]) : cs[j]? = some z := by
  have := congrArg (fun l => l[0]?) h
  simpa [List.getElem?_take] using this

theorem elem3 {m : Nat} {cs : List Value} {y : DataW H × List MemPlace} (h : DataW.trod enc Try.prog w base spare held m 3 cs = some y) : ∀ j, j < 1 → ∃ z, cs[j]? = some (.int .i64 z) ∧ (Lit.int .i64 z).wf = true := by
  obtain ⟨z, rfl, _, hz⟩ := DataW.trod_int Try.underlying3 h
  intro j hj
  obtain rfl : j = 0 := by omega
  exact ⟨z, rfl, hz⟩


theorem elem56 {m : Nat} {cs : List Value} {y : DataW H × List MemPlace} (h : DataW.trod enc Try.prog w base spare held m 56 cs = some y) : ∀ j, j < 2 → ∃ z, cs[j]? = some (.int .i64 z) ∧ (Lit.int .i64 z).wf = true := by
  obtain ⟨xs, m', _, hx, _, hlen, hg⟩ := DataW.trod_struct Try.underlying56 h
  match xs, hlen with
  | [y0, y1], _ =>
    have g0 : DataW.trod enc Try.prog w base spare held m' 3 ((cs.drop 0).take (Try.prog.cellsOf 3)) = some y0 := hg 0 _ rfl
    have g1 : DataW.trod enc Try.prog w base spare held m' 3 ((cs.drop 1).take (Try.prog.cellsOf 3)) = some y1 := hg 1 _ rfl
    rw [cells3] at g0 g1
    obtain ⟨z0, e0, _, w0⟩ := DataW.trod_int (x := y0) Try.underlying3 g0
    obtain ⟨z1, e1, _, w1⟩ := DataW.trod_int (x := y1) Try.underlying3 g1
    intro j hj
    match j, hj with
    | 0, _ => exact ⟨z0, drop_take1 e0, w0⟩
    | 1, _ => exact ⟨z1, drop_take1 e1, w1⟩

theorem elem59 {m : Nat} {cs : List Value} {y : DataW H × List MemPlace} (h : DataW.trod enc Try.prog w base spare held m 59 cs = some y) : ∀ j, j < 2 → ∃ z, cs[j]? = some (.int .i64 z) ∧ (Lit.int .i64 z).wf = true := by
  obtain ⟨xs, m', _, hx, _, hlen, hg⟩ := DataW.trod_struct Try.underlying59 h
  match xs, hlen with
  | [y0, y1], _ =>
    have g0 : DataW.trod enc Try.prog w base spare held m' 3 ((cs.drop 0).take (Try.prog.cellsOf 3)) = some y0 := hg 0 _ rfl
    have g1 : DataW.trod enc Try.prog w base spare held m' 3 ((cs.drop 1).take (Try.prog.cellsOf 3)) = some y1 := hg 1 _ rfl
    rw [cells3] at g0 g1
    obtain ⟨z0, e0, _, w0⟩ := DataW.trod_int (x := y0) Try.underlying3 g0
    obtain ⟨z1, e1, _, w1⟩ := DataW.trod_int (x := y1) Try.underlying3 g1
    intro j hj
    match j, hj with
    | 0, _ => exact ⟨z0, drop_take1 e0, w0⟩
    | 1, _ => exact ⟨z1, drop_take1 e1, w1⟩

/-- The number in a cell. -/
def numAt (w : World) (b o : Nat) : Int := match w.cell? ⟨b, o, none⟩ with
  | some (.int .i64 z) => z
  | _ => 0

theorem came_of {s len cap : Nat} {a : Addr} (hs : 0 < s) (hlc : len ≤ cap) (hc : ∀ i, i < len → ∀ j, j < s → ∃ z, w.cell? (a.add (i * s + j)) = some (.int .i64 z) ∧ (Lit.int .i64 z).wf = true) :
    ∃ zs, Came w s (some a) len cap zs := by
  obtain ⟨b, off, spot⟩ := a
  rcases Nat.eq_zero_or_pos len with rfl | hpos
  · exact ⟨[], Nums.nil, by omega, (fun h => by cases h), by simp⟩
  obtain ⟨z, h0, _⟩ := hc 0 hpos 0 hs
  have hsp : spot = none := by simpa [Addr.add] using World.cell?_spot h0
  subst hsp
  have hat : ∀ q, q < len * s → ∃ z, w.cell? ⟨b, off + q, none⟩ = some (.int .i64 z) ∧ (Lit.int .i64 z).wf = true := by
    intro q hq
    have h1 := hc (q / s) (Nat.div_lt_of_lt_mul (by rw [Nat.mul_comm]; exact hq)) (q % s) (Nat.mod_lt _ hs)
    rw [Addr.add_lit, Nat.mul_comm, Nat.div_add_mod] at h1
    exact h1
  refine ⟨(List.range (len * s)).map fun q => numAt w b (off + q), ⟨by simp, fun _ => ⟨b, off, rfl, ?_, fun q hq => ?_⟩⟩, hlc, (fun h => by cases h), fun z hz => ?_⟩
  · obtain ⟨z, h1, _⟩ := hat 0 (Nat.mul_pos hpos hs)
    exact World.block_lt_of_cell? w ⟨b, off + 0, none⟩ h1
  · obtain ⟨z, h1, _⟩ := hat q hq
    rw [h1]
    simp [List.getD_eq_getElem?_getD, hq, numAt, h1]
  · simp only [List.mem_map, List.mem_range] at hz
    obtain ⟨q, hq, rfl⟩ := hz
    obtain ⟨z, h1, h2⟩ := hat q hq
    simpa [numAt, h1] using h2


theorem flat_of {t e s m : Nat} {cs : List Value} {y : DataW H × List MemPlace} (ht : Try.prog.underlying t = some (.slice e)) (he : Try.prog.cellsOf e = s) (hs : 0 < s)
    (hel : ∀ {m : Nat} {cs : List Value} {y : DataW H × List MemPlace}, DataW.trod enc Try.prog w base (fun _ => true) held m e cs = some y → ∀ j, j < s → ∃ z, cs[j]? = some (.int .i64 z) ∧ (Lit.int .i64 z).wf = true)
    (hf : DataW.trod enc Try.prog w base (fun _ => true) held m t cs = some y) : ∃ A n c zs, cs = [.slice A n c] ∧ Came w s A n c zs := by
  rcases open_slice ht hf with ⟨hcs, _⟩ | ⟨x, l, c, m, n, D, Pl, hcs, _, hl, _, hm, _, hi⟩
  · exact ⟨none, 0, 0, [], hcs, Nums.nil, by omega, fun _ => rfl, by simp⟩
  · rw [he] at hi
    simp only [if_true] at hm
    obtain ⟨zs, hz⟩ := came_of (w := w) (s := s) (a := x) hs hl fun i hi' j hj => by
      obtain ⟨cs', hc, htr⟩ := hi i (by omega)
      obtain ⟨_, hcl, hat⟩ := World.cells?_some hc
      obtain ⟨z, hz, hw⟩ := hel htr j hj
      exact ⟨z, by rw [← Go.Deep.add_add, hat j hj, hz], hw⟩
    exact ⟨some x, l, c, zs, hcs, hz⟩


theorem part {cs : List Value} {o n j : Nat} (h : j < n) : ((cs.drop o).take n)[j]? = cs[o + j]? := by
  rw [List.getElem?_take, if_pos h, List.getElem?_drop]
theorem slice_most {t e m : Nat} {cs : List Value} {y : DataW H × List MemPlace} {A : Option Addr} {n c : Nat} (ht : Try.prog.underlying t = some (.slice e)) (hf : DataW.trod enc Try.prog w base (fun _ => true) held m t cs = some y) (e1 : cs = [.slice A n c]) : n ≤ maxLen := by
  rcases open_slice ht hf with ⟨hcs, _⟩ | ⟨x, l, c', m2, n2, D, Pl, hcs, _, hl, hml, _⟩
  · rw [hcs] at e1
    simp only [List.cons.injEq, Value.slice.injEq, and_true] at e1
    omega
  · rw [hcs] at e1
    simp only [List.cons.injEq, Value.slice.injEq, and_true] at e1
    omega
/-- Lists that a memory can hold. -/
def Most (r : RL) : Prop := r.P.length ≤ maxLen ∧ r.O.length ≤ maxLen ∧ r.I.length ≤ maxLen
theorem res_of {m : Nat} {cs : List Value} {y : DataW H × List MemPlace} (h : DataW.trod enc Try.prog w base (fun _ => true) held m 37 cs = some y) : ∃ (r : RL) (s : S3), (∀ j, j < 5 → cs[j]? = (rc r s)[j]?) ∧ RSee w w.heap.size s r ∧ Most r := by
  obtain ⟨xs, m', _, hx, _, hlen, hg⟩ := DataW.trod_struct Try.underlying37 h
  match xs, hlen with
  | [y0, y1, y2, y3, y4], _ =>
    have g0 : DataW.trod enc Try.prog w base (fun _ => true) held m' 26 ((cs.drop 0).take (Try.prog.cellsOf 26)) = some y0 := hg 0 _ rfl
    have g1 : DataW.trod enc Try.prog w base (fun _ => true) held m' 3 ((cs.drop 1).take (Try.prog.cellsOf 3)) = some y1 := hg 1 _ rfl
    have g2 : DataW.trod enc Try.prog w base (fun _ => true) held m' 34 ((cs.drop 2).take (Try.prog.cellsOf 34)) = some y2 := hg 2 _ rfl
    have g3 : DataW.trod enc Try.prog w base (fun _ => true) held m' 35 ((cs.drop 3).take (Try.prog.cellsOf 35)) = some y3 := hg 3 _ rfl
    have g4 : DataW.trod enc Try.prog w base (fun _ => true) held m' 35 ((cs.drop 4).take (Try.prog.cellsOf 35)) = some y4 := hg 4 _ rfl
    rw [cells26] at g0
    rw [cells3] at g1
    rw [cells34] at g2
    rw [cells35] at g3 g4
    obtain ⟨z0, e0, _, _⟩ := DataW.trod_int (x := y0) Try.underlying26 g0
    obtain ⟨z1, e1, _, _⟩ := DataW.trod_int (x := y1) Try.underlying3 g1
    obtain ⟨A2, n2, c2, zs2, e2, k2⟩ := flat_of Try.underlying34 cells56 (by omega) elem56 g2
    obtain ⟨A3, n3, c3, zs3, e3, k3⟩ := flat_of Try.underlying35 cells59 (by omega) elem59 g3
    obtain ⟨A4, n4, c4, zs4, e4, k4⟩ := flat_of Try.underlying35 cells59 (by omega) elem59 g4
    obtain ⟨L2, q2⟩ := pairs_of k2.1.1
    obtain ⟨L3, q3⟩ := pairs_of k3.1.1
    obtain ⟨L4, q4⟩ := pairs_of k4.1.1
    have b2 := slice_most Try.underlying34 g2 e2
    have b3 := slice_most Try.underlying35 g3 e3
    have b4 := slice_most Try.underlying35 g4 e4
    have p2 : Props w w.heap.size ⟨A2, n2, c2⟩ L2 := ⟨by rw [q2]; exact k2.1, k2.2.2.1⟩
    have p3 : Props w w.heap.size ⟨A3, n3, c3⟩ L3 := ⟨by rw [q3]; exact k3.1, k3.2.2.1⟩
    have p4 : Props w w.heap.size ⟨A4, n4, c4⟩ L4 := ⟨by rw [q4]; exact k4.1, k4.2.2.1⟩
    have l2 := p2.len
    have l3 := p3.len
    have l4 := p4.len
    dsimp only at l2 l3 l4
    refine ⟨⟨z0, z1, L2, L3, L4⟩, ⟨⟨A2, n2, c2⟩, ⟨A3, n3, c3⟩, ⟨A4, n4, c4⟩⟩, fun j hj => ?_, ⟨p2, p3, p4⟩, ⟨by dsimp only; omega, by dsimp only; omega, by dsimp only; omega⟩⟩
    match j, hj with
    | 0, _ => exact drop_take1 e0
    | 1, _ => exact drop_take1 e1
    | 2, _ => exact drop_take1 e2
    | 3, _ => exact drop_take1 e3
    | 4, _ => exact drop_take1 e4
theorem op_of {m : Nat} {cs : List Value} {y : DataW H × List MemPlace} (h : DataW.trod enc Try.prog w base (fun _ => true) held m 33 cs = some y) : ∃ o : O5, ∀ j, j < 5 → cs[j]? = (oc o)[j]? := by
  obtain ⟨xs, m', _, hx, _, hlen, hg⟩ := DataW.trod_struct Try.underlying33 h
  match xs, hlen with
  | [y0, y1, y2, y3, y4], _ =>
    have g0 : DataW.trod enc Try.prog w base (fun _ => true) held m' 3 ((cs.drop 0).take (Try.prog.cellsOf 3)) = some y0 := hg 0 _ rfl
    have g1 : DataW.trod enc Try.prog w base (fun _ => true) held m' 3 ((cs.drop 1).take (Try.prog.cellsOf 3)) = some y1 := hg 1 _ rfl
    have g2 : DataW.trod enc Try.prog w base (fun _ => true) held m' 3 ((cs.drop 2).take (Try.prog.cellsOf 3)) = some y2 := hg 2 _ rfl
    have g3 : DataW.trod enc Try.prog w base (fun _ => true) held m' 3 ((cs.drop 3).take (Try.prog.cellsOf 3)) = some y3 := hg 3 _ rfl
    have g4 : DataW.trod enc Try.prog w base (fun _ => true) held m' 3 ((cs.drop 4).take (Try.prog.cellsOf 3)) = some y4 := hg 4 _ rfl
    rw [cells3] at g0 g1 g2 g3 g4
    obtain ⟨z0, e0, _, _⟩ := DataW.trod_int (x := y0) Try.underlying3 g0
    obtain ⟨z1, e1, _, _⟩ := DataW.trod_int (x := y1) Try.underlying3 g1
    obtain ⟨z2, e2, _, _⟩ := DataW.trod_int (x := y2) Try.underlying3 g2
    obtain ⟨z3, e3, _, _⟩ := DataW.trod_int (x := y3) Try.underlying3 g3
    obtain ⟨z4, e4, _, _⟩ := DataW.trod_int (x := y4) Try.underlying3 g4
    refine ⟨⟨z0, z1, z2, z3, z4⟩, fun j hj => ?_⟩
    match j, hj with
    | 0, _ => exact drop_take1 e0
    | 1, _ => exact drop_take1 e1
    | 2, _ => exact drop_take1 e2
    | 3, _ => exact drop_take1 e3
    | 4, _ => exact drop_take1 e4
theorem event_of {m : Nat} {cs : List Value} {y : DataW H × List MemPlace} (h : DataW.trod enc Try.prog w base (fun _ => true) held m 45 cs = some y) : ∃ (x : Ev) (s : S3), (∀ j, j < 12 → cs[j]? = (ec x s)[j]?) ∧ RSee w w.heap.size s x.r ∧ Most x.r ∧ (Lit.int .i64 x.t).wf = true := by
  obtain ⟨xs, m', _, hx, _, hlen, hg⟩ := DataW.trod_struct Try.underlying45 h
  match xs, hlen with
  | [y0, y1, y2, y3], _ =>
    have g0 : DataW.trod enc Try.prog w base (fun _ => true) held m' 3 ((cs.drop 0).take (Try.prog.cellsOf 3)) = some y0 := hg 0 _ rfl
    have g1 : DataW.trod enc Try.prog w base (fun _ => true) held m' 4 ((cs.drop 1).take (Try.prog.cellsOf 4)) = some y1 := hg 1 _ rfl
    have g2 : DataW.trod enc Try.prog w base (fun _ => true) held m' 33 ((cs.drop 2).take (Try.prog.cellsOf 33)) = some y2 := hg 2 _ rfl
    have g3 : DataW.trod enc Try.prog w base (fun _ => true) held m' 37 ((cs.drop 7).take (Try.prog.cellsOf 37)) = some y3 := hg 3 _ rfl
    rw [cells3] at g0
    rw [cells4] at g1
    rw [cells33] at g2
    rw [cells37] at g3
    obtain ⟨z0, e0, _, w0⟩ := DataW.trod_int (x := y0) Try.underlying3 g0
    obtain ⟨z1, e1, _⟩ := DataW.trod_bool (x := y1) Try.underlying4 g1
    obtain ⟨o, ho⟩ := op_of g2
    obtain ⟨r, s, hr, hS, hM⟩ := res_of g3
    refine ⟨⟨z0, z1, o, r⟩, s, fun j hj => ?_, hS, hM, w0⟩
    match j, hj with
    | 0, _ => exact drop_take1 e0
    | 1, _ => exact drop_take1 e1
    | 2, _ => have h := ho 0 (by omega); rw [part (by omega)] at h; exact h
    | 3, _ => have h := ho 1 (by omega); rw [part (by omega)] at h; exact h
    | 4, _ => have h := ho 2 (by omega); rw [part (by omega)] at h; exact h
    | 5, _ => have h := ho 3 (by omega); rw [part (by omega)] at h; exact h
    | 6, _ => have h := ho 4 (by omega); rw [part (by omega)] at h; exact h
    | 7, _ => have h := hr 0 (by omega); rw [part (by omega)] at h; exact h
    | 8, _ => have h := hr 1 (by omega); rw [part (by omega)] at h; exact h
    | 9, _ => have h := hr 2 (by omega); rw [part (by omega)] at h; exact h
    | 10, _ => have h := hr 3 (by omega); rw [part (by omega)] at h; exact h
    | 11, _ => have h := hr 4 (by omega); rw [part (by omega)] at h; exact h
theorem call_of {m : Nat} {cs : List Value} {y : DataW H × List MemPlace} (h : DataW.trod enc Try.prog w base (fun _ => true) held m 39 cs = some y) : ∃ (x : Cl) (s : S3), (∀ j, j < 13 → cs[j]? = (cc x s)[j]?) ∧ RSee w w.heap.size s x.r ∧ Most x.r := by
  obtain ⟨xs, m', _, hx, _, hlen, hg⟩ := DataW.trod_struct Try.underlying39 h
  match xs, hlen with
  | [y0, y1, y2, y3, y4], _ =>
    have g0 : DataW.trod enc Try.prog w base (fun _ => true) held m' 3 ((cs.drop 0).take (Try.prog.cellsOf 3)) = some y0 := hg 0 _ rfl
    have g1 : DataW.trod enc Try.prog w base (fun _ => true) held m' 33 ((cs.drop 1).take (Try.prog.cellsOf 33)) = some y1 := hg 1 _ rfl
    have g2 : DataW.trod enc Try.prog w base (fun _ => true) held m' 3 ((cs.drop 6).take (Try.prog.cellsOf 3)) = some y2 := hg 2 _ rfl
    have g3 : DataW.trod enc Try.prog w base (fun _ => true) held m' 3 ((cs.drop 7).take (Try.prog.cellsOf 3)) = some y3 := hg 3 _ rfl
    have g4 : DataW.trod enc Try.prog w base (fun _ => true) held m' 37 ((cs.drop 8).take (Try.prog.cellsOf 37)) = some y4 := hg 4 _ rfl
    rw [cells3] at g0 g2 g3
    rw [cells33] at g1
    rw [cells37] at g4
    obtain ⟨z0, e0, _, _⟩ := DataW.trod_int (x := y0) Try.underlying3 g0
    obtain ⟨o, ho⟩ := op_of g1
    obtain ⟨z2, e2, _, _⟩ := DataW.trod_int (x := y2) Try.underlying3 g2
    obtain ⟨z3, e3, _, _⟩ := DataW.trod_int (x := y3) Try.underlying3 g3
    obtain ⟨r, s, hr, hS, hM⟩ := res_of g4
    refine ⟨⟨z0, o, z2, z3, r⟩, s, fun j hj => ?_, hS, hM⟩
    match j, hj with
    | 0, _ => exact drop_take1 e0
    | 1, _ => have h := ho 0 (by omega); rw [part (by omega)] at h; exact h
    | 2, _ => have h := ho 1 (by omega); rw [part (by omega)] at h; exact h
    | 3, _ => have h := ho 2 (by omega); rw [part (by omega)] at h; exact h
    | 4, _ => have h := ho 3 (by omega); rw [part (by omega)] at h; exact h
    | 5, _ => have h := ho 4 (by omega); rw [part (by omega)] at h; exact h
    | 6, _ => exact drop_take1 e2
    | 7, _ => exact drop_take1 e3
    | 8, _ => have h := hr 0 (by omega); rw [part (by omega)] at h; exact h
    | 9, _ => have h := hr 1 (by omega); rw [part (by omega)] at h; exact h
    | 10, _ => have h := hr 2 (by omega); rw [part (by omega)] at h; exact h
    | 11, _ => have h := hr 3 (by omega); rw [part (by omega)] at h; exact h
    | 12, _ => have h := hr 4 (by omega); rw [part (by omega)] at h; exact h
theorem events_of {m : Nat} {cs : List Value} {y : DataW H × List MemPlace} (hf : DataW.trod enc Try.prog w base (fun _ => true) held m 22 cs = some y) : ∃ (s : Sl) (L : List Ev), cs = [.slice s.A s.n s.c] ∧ Evs w w.heap.size s L ∧ s.n ≤ maxLen ∧ (∀ i, i < L.length → Most (L.getD i noEv).r ∧ (Lit.int .i64 (L.getD i noEv).t).wf = true) ∧ s.n ≤ s.c := by
  rcases open_slice Try.underlying22 hf with ⟨hcs, _⟩ | ⟨x, l, c, m, n, D, Pl, hcs, _, hl, hml, hm, _, hi⟩
  · exact ⟨noSl, [], hcs, ⟨rfl, fun _ => rfl, fun h => by cases h⟩, by unfold maxLen; decide, (fun i hi => by cases hi), Nat.le_refl _⟩
  · rw [cells45] at hi
    simp only [if_true] at hm
    have hel : ∀ i, i < l → ∃ d : Ev × S3, (∀ j, j < 12 → w.cell? (x.add (i * 12 + j)) = (ec d.1 d.2)[j]?) ∧ RSee w w.heap.size d.2 d.1.r ∧ Most d.1.r ∧ (Lit.int .i64 d.1.t).wf = true := fun i hil => by
      obtain ⟨cs', hc, htr⟩ := hi i (by omega)
      obtain ⟨_, hcl, hat⟩ := World.cells?_some hc
      obtain ⟨z, s, h0, h1, h2⟩ := event_of htr
      refine ⟨(z, s), fun j hj => ?_, h1, h2⟩
      have := hat j hj
      rw [Go.Deep.add_add] at this
      rw [this]
      exact h0 j hj
    rcases Nat.eq_zero_or_pos l with rfl | hpos
    · exact ⟨⟨some x, 0, c⟩, [], hcs, ⟨rfl, (fun h => by cases h), fun h => by cases h⟩, by show 0 ≤ maxLen; omega, (fun i hi => by cases hi), Nat.zero_le _⟩
    · obtain ⟨b, off, spot⟩ := x
      obtain ⟨d0, hd0, _⟩ := hel 0 hpos
      have h00 : w.cell? ((⟨b, off, spot⟩ : Addr).add (0 * 12 + 0)) = some (.int .i64 d0.1.t) := hd0 0 (by omega)
      have hsp : spot = none := by simpa [Addr.add] using World.cell?_spot h00
      subst hsp
      have hf : ∃ f : Nat → Ev × S3, ∀ i, i < l → (∀ j, j < 12 → w.cell? ⟨b, off + i * 12 + j, none⟩ = (ec (f i).1 (f i).2)[j]?) ∧ RSee w w.heap.size (f i).2 (f i).1.r ∧ Most (f i).1.r ∧ (Lit.int .i64 (f i).1.t).wf = true := by
        refine ⟨fun i => if h : i < l then Classical.choose (hel i h) else (noEv, noS3), fun i hil => ?_⟩
        have h1 := Classical.choose_spec (hel i hil)
        simp only [hil, dite_true]
        generalize Classical.choose (hel i hil) = dd at h1
        obtain ⟨h2, h3⟩ := h1
        exact ⟨fun j hj => by rw [← h2 j hj, Addr.add_lit, Nat.add_assoc], h3⟩
      obtain ⟨f, hf⟩ := hf
      have hget : ∀ i, i < l → ((List.range l).map fun i => (f i).1).getD i noEv = (f i).1 := fun i hil => by simp [List.getD_eq_getElem?_getD, hil]
      have hb0 : b < w.heap.size := by
        have h := (hf 0 hpos).1 0 (by omega)
        exact World.block_lt_of_cell? w ⟨b, off + 0 * 12 + 0, none⟩ (h.trans rfl : _ = some (.int .i64 (f 0).1.t))
      refine ⟨⟨some ⟨b, off, none⟩, l, c⟩, (List.range l).map fun i => (f i).1, hcs, ⟨by simp, (fun h => by cases h), fun _ => ⟨b, off, rfl, hb0, fun i hil => ?_⟩⟩, by show l ≤ maxLen; omega, fun i hil => ?_, hl⟩
      · rw [hget i hil]
        obtain ⟨h1, h2, _⟩ := hf i hil
        refine ⟨(f i).2, fun j v hv => ?_, h2⟩
        have hj : j < 12 := (List.getElem?_eq_some_iff.1 hv).1
        rw [h1 j hj]
        simpa using hv
      · have hil' : i < l := by simpa using hil
        rw [hget i hil']
        exact (hf i hil').2.2
theorem calls_of {m : Nat} {cs : List Value} {y : DataW H × List MemPlace} (hf : DataW.trod enc Try.prog w base (fun _ => true) held m 25 cs = some y) : ∃ (s : Sl) (L : List Cl), cs = [.slice s.A s.n s.c] ∧ Cls w w.heap.size s L ∧ s.n ≤ maxLen ∧ (∀ i, i < L.length → Most (L.getD i noCl).r) ∧ s.n ≤ s.c := by
  rcases open_slice Try.underlying25 hf with ⟨hcs, _⟩ | ⟨x, l, c, m, n, D, Pl, hcs, _, hl, hml, hm, _, hi⟩
  · exact ⟨noSl, [], hcs, ⟨rfl, fun _ => rfl, fun h => by cases h⟩, by unfold maxLen; decide, (fun i hi => by cases hi), Nat.le_refl _⟩
  · rw [cells39] at hi
    simp only [if_true] at hm
    have hel : ∀ i, i < l → ∃ d : Cl × S3, (∀ j, j < 13 → w.cell? (x.add (i * 13 + j)) = (cc d.1 d.2)[j]?) ∧ RSee w w.heap.size d.2 d.1.r ∧ Most d.1.r := fun i hil => by
      obtain ⟨cs', hc, htr⟩ := hi i (by omega)
      obtain ⟨_, hcl, hat⟩ := World.cells?_some hc
      obtain ⟨z, s, h0, h1, h2⟩ := call_of htr
      refine ⟨(z, s), fun j hj => ?_, h1, h2⟩
      have := hat j hj
      rw [Go.Deep.add_add] at this
      rw [this]
      exact h0 j hj
    rcases Nat.eq_zero_or_pos l with rfl | hpos
    · exact ⟨⟨some x, 0, c⟩, [], hcs, ⟨rfl, (fun h => by cases h), fun h => by cases h⟩, by show 0 ≤ maxLen; omega, (fun i hi => by cases hi), Nat.zero_le _⟩
    · obtain ⟨b, off, spot⟩ := x
      obtain ⟨d0, hd0, _⟩ := hel 0 hpos
      have h00 : w.cell? ((⟨b, off, spot⟩ : Addr).add (0 * 13 + 0)) = some (.int .i64 d0.1.t) := hd0 0 (by omega)
      have hsp : spot = none := by simpa [Addr.add] using World.cell?_spot h00
      subst hsp
      have hf : ∃ f : Nat → Cl × S3, ∀ i, i < l → (∀ j, j < 13 → w.cell? ⟨b, off + i * 13 + j, none⟩ = (cc (f i).1 (f i).2)[j]?) ∧ RSee w w.heap.size (f i).2 (f i).1.r ∧ Most (f i).1.r := by
        refine ⟨fun i => if h : i < l then Classical.choose (hel i h) else (noCl, noS3), fun i hil => ?_⟩
        have h1 := Classical.choose_spec (hel i hil)
        simp only [hil, dite_true]
        generalize Classical.choose (hel i hil) = dd at h1
        obtain ⟨h2, h3⟩ := h1
        exact ⟨fun j hj => by rw [← h2 j hj, Addr.add_lit, Nat.add_assoc], h3⟩
      obtain ⟨f, hf⟩ := hf
      have hget : ∀ i, i < l → ((List.range l).map fun i => (f i).1).getD i noCl = (f i).1 := fun i hil => by simp [List.getD_eq_getElem?_getD, hil]
      have hb0 : b < w.heap.size := by
        have h := (hf 0 hpos).1 0 (by omega)
        exact World.block_lt_of_cell? w ⟨b, off + 0 * 13 + 0, none⟩ (h.trans rfl : _ = some (.int .i64 (f 0).1.t))
      refine ⟨⟨some ⟨b, off, none⟩, l, c⟩, (List.range l).map fun i => (f i).1, hcs, ⟨by simp, (fun h => by cases h), fun _ => ⟨b, off, rfl, hb0, fun i hil => ?_⟩⟩, by show l ≤ maxLen; omega, fun i hil => ?_, hl⟩
      · rw [hget i hil]
        obtain ⟨h1, h2, _⟩ := hf i hil
        refine ⟨(f i).2, fun j v hv => ?_, h2⟩
        have hj : j < 13 := (List.getElem?_eq_some_iff.1 hv).1
        rw [h1 j hj]
        simpa using hv
      · have hil' : i < l := by simpa using hil
        rw [hget i hil']
        exact (hf i hil').2.2

/-- A call that came in by value. -/
theorem open_call {r : Reach} {b0 : Nat} {v : Value} {d : DataW H} {q : List MemPlace} (hv : Value.okWide Try.prog w r b0 39 v) (h : DataW.Trod enc Try.prog w base (fun _ => true) held 39 v d q) :
    ∃ (x : Cl) (s : S3), v = .agg (cc x s) ∧ RSee w w.heap.size s x.r ∧ Most x.r := by
  obtain ⟨⟨l⟩, rfl, hsz⟩ := okWide_struct Try.underlying39 hv
  rw [cells39] at hsz
  obtain ⟨fuel, hf⟩ := h
  obtain ⟨x, s, h0, h1, h2⟩ := call_of hf
  refine ⟨x, s, ?_, h1, h2⟩
  congr 1
  apply Array.ext'
  apply List.ext_getElem?
  intro j
  rcases Nat.lt_or_ge j 13 with hj | hj
  · have := h0 j hj
    simpa [Value.cells] using this
  · have e1 : l.length = 13 := by simpa using hsz
    have e2 : (cc x s).toList.length = 13 := rfl
    rw [List.getElem?_eq_none (by simpa using (by omega : l.length ≤ j)), List.getElem?_eq_none (by omega)]
theorem open_events {r : Reach} {b0 : Nat} {v : Value} {d : DataW H} {q : List MemPlace} (hv : Value.okWide Try.prog w r b0 22 v) (h : DataW.Trod enc Try.prog w base (fun _ => true) held 22 v d q) :
    ∃ (s : Sl) (L : List Ev), v = .slice s.A s.n s.c ∧ Evs w w.heap.size s L ∧ s.n ≤ maxLen ∧ (∀ i, i < L.length → Most (L.getD i noEv).r ∧ (Lit.int .i64 (L.getD i noEv).t).wf = true) ∧ s.n ≤ s.c := by
  obtain ⟨fuel, hf⟩ := h
  obtain ⟨s, L, e, h1, h2, h3⟩ := events_of hf
  obtain ⟨a, l, c, rfl⟩ := okWide_slice Try.underlying22 hv
  simp [Value.cells] at e
  obtain ⟨rfl, rfl, rfl⟩ := e
  exact ⟨s, L, rfl, h1, h2, h3⟩
theorem open_calls {r : Reach} {b0 : Nat} {v : Value} {d : DataW H} {q : List MemPlace} (hv : Value.okWide Try.prog w r b0 25 v) (h : DataW.Trod enc Try.prog w base (fun _ => true) held 25 v d q) :
    ∃ (s : Sl) (L : List Cl), v = .slice s.A s.n s.c ∧ Cls w w.heap.size s L ∧ s.n ≤ maxLen ∧ (∀ i, i < L.length → Most (L.getD i noCl).r) ∧ s.n ≤ s.c := by
  obtain ⟨fuel, hf⟩ := h
  obtain ⟨s, L, e, h1, h2, h3⟩ := calls_of hf
  obtain ⟨a, l, c, rfl⟩ := okWide_slice Try.underlying25 hv
  simp [Value.cells] at e
  obtain ⟨rfl, rfl, rfl⟩ := e
  exact ⟨s, L, rfl, h1, h2, h3⟩
end
end Go.Proofs.Ytfefkdedgceomaa
