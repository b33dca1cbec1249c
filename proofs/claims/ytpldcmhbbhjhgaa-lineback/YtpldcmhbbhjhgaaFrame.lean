/- What the rows' frames share: an operation, and slices of numbers, of operations and of arrays of five, opened. No conditions. -/
import Derived.Test.YtpldcmhbbhjhgaaWalksA
import Derived.ProofKit
import Derived.OpenShut
import Derived.ShutString
import Derived.ChangeOld
import Derived.Lib.SmallJoins
import Derived.Deep.Slices
import Derived.Carry
namespace Go.Proofs.Ytpldcmhbbhjhgaa
open Go.Joins Go.ChangeShapes Go.WideShapes Go.ChangeAt Go.RowKit Go.Deep

theorem own : ownKnob Try.prog.godebug = none := by kernel_rfl
theorem laidOut : laidOutB Try.prog = true := by kernel_rfl
theorem cells3 : Try.prog.cellsOf 3 = 1 := by kernel_rfl
theorem cells23 : Try.prog.cellsOf 23 = 5 := by kernel_rfl
theorem cells40 : Try.prog.cellsOf 40 = 5 := by kernel_rfl

theorem wf_bounds {a : Int} (h : (Lit.int .i64 a).wf = true) : -9223372036854775808 ≤ a ∧ a ≤ 9223372036854775807 := by
  have h1 : IntKind.i64.min = -9223372036854775808 := by decide
  have h2 : IntKind.i64.max = 9223372036854775807 := by decide
  have h3 : IntKind.i64.min ≤ a ∧ a ≤ IntKind.i64.max := by simpa [Lit.wf] using h
  omega

/-- What a walk is told of a slice that came in. -/
def Came (w : World) (s : Nat) (A : Option Addr) (n c : Nat) (zs : List Int) : Prop :=
  Nums w w.heap.size s A n zs ∧ n ≤ c ∧ (A = none → c = 0) ∧ ∀ z ∈ zs, (Lit.int .i64 z).wf = true

section
variable {H : Type} {enc : TypeId × Value → H} {w : World} {base : Nat} {spare : Nat → Bool} {held : Bool}

theorem drop_take1 {cs : List Value} {j : Nat} {z : Value} (h : (cs.drop j).take 1 = [z]) : cs[j]? = some z := by
  have := congrArg (fun l => l[0]?) h
  simpa [List.getElem?_take] using this

theorem elem3 {m : Nat} {cs : List Value} {y : DataW H × List MemPlace} (h : DataW.trod enc Try.prog w base spare held m 3 cs = some y) : ∀ j, j < 1 → ∃ z, cs[j]? = some (.int .i64 z) ∧ (Lit.int .i64 z).wf = true := by
  obtain ⟨z, rfl, _, hz⟩ := DataW.trod_int Try.underlying3 h
  intro j hj
  obtain rfl : j = 0 := by omega
  exact ⟨z, rfl, hz⟩

theorem elem23 {m : Nat} {cs : List Value} {y : DataW H × List MemPlace} (h : DataW.trod enc Try.prog w base spare held m 23 cs = some y) : ∀ j, j < 5 → ∃ z, cs[j]? = some (.int .i64 z) ∧ (Lit.int .i64 z).wf = true := by
  obtain ⟨xs, m', _, hx, _, hlen, hg⟩ := DataW.trod_struct Try.underlying23 h
  match xs, hlen with
  | [y0, y1, y2, y3, y4], _ =>
    have g0 : DataW.trod enc Try.prog w base spare held m' 3 ((cs.drop 0).take (Try.prog.cellsOf 3)) = some y0 := hg 0 _ rfl
    have g1 : DataW.trod enc Try.prog w base spare held m' 3 ((cs.drop 1).take (Try.prog.cellsOf 3)) = some y1 := hg 1 _ rfl
    have g2 : DataW.trod enc Try.prog w base spare held m' 3 ((cs.drop 2).take (Try.prog.cellsOf 3)) = some y2 := hg 2 _ rfl
    have g3 : DataW.trod enc Try.prog w base spare held m' 3 ((cs.drop 3).take (Try.prog.cellsOf 3)) = some y3 := hg 3 _ rfl
    have g4 : DataW.trod enc Try.prog w base spare held m' 3 ((cs.drop 4).take (Try.prog.cellsOf 3)) = some y4 := hg 4 _ rfl
    rw [cells3] at g0 g1 g2 g3 g4
    obtain ⟨z0, e0, _, w0⟩ := DataW.trod_int (x := y0) Try.underlying3 g0
    obtain ⟨z1, e1, _, w1⟩ := DataW.trod_int (x := y1) Try.underlying3 g1
    obtain ⟨z2, e2, _, w2⟩ := DataW.trod_int (x := y2) Try.underlying3 g2
    obtain ⟨z3, e3, _, w3⟩ := DataW.trod_int (x := y3) Try.underlying3 g3
    obtain ⟨z4, e4, _, w4⟩ := DataW.trod_int (x := y4) Try.underlying3 g4
    intro j hj
    match j, hj with
    | 0, _ => exact ⟨z0, drop_take1 e0, w0⟩
    | 1, _ => exact ⟨z1, drop_take1 e1, w1⟩
    | 2, _ => exact ⟨z2, drop_take1 e2, w2⟩
    | 3, _ => exact ⟨z3, drop_take1 e3, w3⟩
    | 4, _ => exact ⟨z4, drop_take1 e4, w4⟩

theorem elem40 {m : Nat} {cs : List Value} {y : DataW H × List MemPlace} (h : DataW.trod enc Try.prog w base spare held m 40 cs = some y) : ∀ j, j < 5 → ∃ z, cs[j]? = some (.int .i64 z) ∧ (Lit.int .i64 z).wf = true := by
  obtain ⟨xs, m', _, hx, _, hlen, hg⟩ := DataW.trod_array Try.underlying40 h
  intro j hj
  have h1 := hg j hj
  rw [cells3, Nat.mul_one, List.getElem?_eq_getElem (by omega)] at h1
  obtain ⟨z, e, _, hz⟩ := DataW.trod_int Try.underlying3 h1
  exact ⟨z, drop_take1 e, hz⟩

/-- The number in a cell. -/
def numAt (w : World) (b o : Nat) : Int := match w.cell? ⟨b, o, none⟩ with
  | some (.int .i64 z) => z
  | _ => 0

theorem came_of {s len cap : Nat} {a : Addr} (hs : 0 < s) (hlc : len ≤ cap) (hc : ∀ i, i < len → ∀ j, j < s → ∃ z, w.cell? (a.add (i * s + j)) = some (.int .i64 z) ∧ (Lit.int .i64 z).wf = true) :
    ∃ zs, Came w s (some a) len cap zs := by
  obtain ⟨b, off, spot⟩ := a
  rcases Nat.eq_zero_or_pos len with rfl | hpos
  · exact ⟨[], Nums.nil, by omega, (fun h => by cases h), by simp⟩
  obtain ⟨z, h0, _⟩ := hc 0 hpos 0 hs
  have hsp : spot = none := by simpa [Addr.add] using World.cell?_spot h0
  subst hsp
  have hat : ∀ q, q < len * s → ∃ z, w.cell? ⟨b, off + q, none⟩ = some (.int .i64 z) ∧ (Lit.int .i64 z).wf = true := by
    intro q hq
    have h1 := hc (q / s) (Nat.div_lt_of_lt_mul (by rw [Nat.mul_comm]; exact hq)) (q % s) (Nat.mod_lt _ hs)
    rw [Addr.add_lit, Nat.mul_comm, Nat.div_add_mod] at h1
    exact h1
  refine ⟨(List.range (len * s)).map fun q => numAt w b (off + q), ⟨by simp, fun _ => ⟨b, off, rfl, ?_, fun q hq => ?_⟩⟩, hlc, (fun h => by cases h), fun z hz => ?_⟩
  · obtain ⟨z, h1, _⟩ := hat 0 (Nat.mul_pos hpos hs)
    exact World.block_lt_of_cell? w ⟨b, off + 0, none⟩ h1
  · obtain ⟨z, h1, _⟩ := hat q hq
    rw [h1]
    simp [List.getD_eq_getElem?_getD, hq, numAt, h1]
  · simp only [List.mem_map, List.mem_range] at hz
    obtain ⟨q, hq, rfl⟩ := hz
    obtain ⟨z, h1, h2⟩ := hat q hq
    simpa [numAt, h1] using h2

theorem open_flat {t e s : Nat} {a : Option Addr} {len cap : Nat} {d : DataW H} {p : List MemPlace} (ht : Try.prog.underlying t = some (.slice e)) (he : Try.prog.cellsOf e = s) (hs : 0 < s)
    (hel : ∀ {m : Nat} {cs : List Value} {y : DataW H × List MemPlace}, DataW.trod enc Try.prog w base (fun _ => true) held m e cs = some y → ∀ j, j < s → ∃ z, cs[j]? = some (.int .i64 z) ∧ (Lit.int .i64 z).wf = true)
    (h : DataW.Trod enc Try.prog w base (fun _ => true) held t (.slice a len cap) d p) : ∃ zs, Came w s a len cap zs := by
  obtain ⟨fuel, hf⟩ := h
  rcases open_slice ht hf with ⟨hcs, _⟩ | ⟨x, l, c, m, n, D, Pl, hcs, _, hl, _, hm, _, hi⟩
  · simp [Value.cells] at hcs
    obtain ⟨rfl, rfl, rfl⟩ := hcs
    exact ⟨[], Nums.nil, by omega, fun _ => rfl, by simp⟩
  · simp [Value.cells] at hcs
    obtain ⟨rfl, rfl, rfl⟩ := hcs
    rw [he] at hi
    simp only [if_true] at hm
    refine came_of hs hl fun i hi' j hj => ?_
    obtain ⟨cs', hc, htr⟩ := hi i (by omega)
    obtain ⟨_, hcl, hat⟩ := World.cells?_some hc
    obtain ⟨z, hz, hw⟩ := hel htr j hj
    exact ⟨z, by rw [← Go.Deep.add_add, hat j hj, hz], hw⟩

/-- An operation that came in. -/
theorem open_op {r : Reach} {b0 : Nat} {v : Value} {d : DataW H} {q : List MemPlace} (hv : Value.okWide Try.prog w r b0 23 v) (h : DataW.Trod enc Try.prog w base spare held 23 v d q) :
    ∃ n e p i j : Int, v = O5 n e p i j := by
  obtain ⟨⟨l⟩, rfl, hsz⟩ := okWide_struct Try.underlying23 hv
  rw [cells23] at hsz
  match l, hsz with
  | [c0, c1, c2, c3, c4], _ =>
    obtain ⟨fuel, hf⟩ := h
    have g := elem23 hf
    obtain ⟨n, e0, _⟩ := g 0 (by omega)
    obtain ⟨e, e1, _⟩ := g 1 (by omega)
    obtain ⟨p, e2, _⟩ := g 2 (by omega)
    obtain ⟨i, e3, _⟩ := g 3 (by omega)
    obtain ⟨j, e4, _⟩ := g 4 (by omega)
    simp [Value.cells] at e0 e1 e2 e3 e4
    subst e0 e1 e2 e3 e4
    exact ⟨n, e, p, i, j, rfl⟩
end
end Go.Proofs.Ytpldcmhbbhjhgaa
