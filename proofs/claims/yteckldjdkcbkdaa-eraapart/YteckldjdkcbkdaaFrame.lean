/- What the rows' frames share: an era, and a slice of numbers, opened. No conditions. -/
import Derived.Test.YteckldjdkcbkdaaEras
import Derived.ProofKit
import Derived.OpenShut
import Derived.ShutString
import Derived.ChangeOld
import Derived.Lib.SmallJoins
import Derived.Deep.Slices
import Derived.Carry
namespace Go.Proofs.Yteckldjdkcbkdaa
open Go.Joins Go.ChangeShapes Go.WideShapes Go.ChangeAt Go.RowKit Go.Deep

theorem own : ownKnob Try.prog.godebug = none := by kernel_rfl
theorem laidOut : laidOutB Try.prog = true := by kernel_rfl
theorem cells3 : Try.prog.cellsOf 3 = 1 := by kernel_rfl
theorem cells22 : Try.prog.cellsOf 22 = 1 := by kernel_rfl
theorem cells24 : Try.prog.cellsOf 24 = 2 := by kernel_rfl

theorem wf_bounds {a : Int} (h : (Lit.int .i64 a).wf = true) : -9223372036854775808 ≤ a ∧ a ≤ 9223372036854775807 := by
  have h1 : IntKind.i64.min = -9223372036854775808 := by decide
  have h2 : IntKind.i64.max = 9223372036854775807 := by decide
  have h3 : IntKind.i64.min ≤ a ∧ a ≤ IntKind.i64.max := by simpa [Lit.wf] using h
  omega

/-- What a walk is told of a slice that came in. -/
def Came (w : World) (s : Nat) (A : Option Addr) (n c : Nat) (zs : List Int) : Prop :=
  Nums w w.heap.size s A n zs ∧ n ≤ c ∧ (A = none → c = 0) ∧ ∀ z ∈ zs, (Lit.int .i64 z).wf = true

section
variable {H : Type} {enc : TypeId × Value → H} {w : World} {base : Nat} {spare : Nat → Bool} {held : Bool}

theorem drop_take1 {cs : List Value} {j : Nat} {z : Value} (h : (cs.drop j).take 1 = [z]) : cs[j]? = some z := by
  have := congrArg (fun l => l[0]?) h
  simpa [List.getElem?_take] using this

theorem elem3 {m : Nat} {cs : List Value} {y : DataW H × List MemPlace} (h : DataW.trod enc Try.prog w base spare held m 3 cs = some y) : ∀ j, j < 1 → ∃ z, cs[j]? = some (.int .i64 z) ∧ (Lit.int .i64 z).wf = true := by
  obtain ⟨z, rfl, _, hz⟩ := DataW.trod_int Try.underlying3 h
  intro j hj
  obtain rfl : j = 0 := by omega
  exact ⟨z, rfl, hz⟩

/-- The number in a cell. -/
def numAt (w : World) (b o : Nat) : Int := match w.cell? ⟨b, o, none⟩ with
  | some (.int .i64 z) => z
  | _ => 0

theorem came_of {s len cap : Nat} {a : Addr} (hs : 0 < s) (hlc : len ≤ cap) (hc : ∀ i, i < len → ∀ j, j < s → ∃ z, w.cell? (a.add (i * s + j)) = some (.int .i64 z) ∧ (Lit.int .i64 z).wf = true) :
    ∃ zs, Came w s (some a) len cap zs := by
  obtain ⟨b, off, spot⟩ := a
  rcases Nat.eq_zero_or_pos len with rfl | hpos
  · exact ⟨[], Nums.nil, by omega, (fun h => by cases h), by simp⟩
  obtain ⟨z, h0, _⟩ := hc 0 hpos 0 hs
  have hsp : spot = none := by simpa [Addr.add] using World.cell?_spot h0
  subst hsp
  have hat : ∀ q, q < len * s → ∃ z, w.cell? ⟨b, off + q, none⟩ = some (.int .i64 z) ∧ (Lit.int .i64 z).wf = true := by
    intro q hq
    have h1 := hc (q / s) (Nat.div_lt_of_lt_mul (by rw [Nat.mul_comm]; exact hq)) (q % s) (Nat.mod_lt _ hs)
    rw [Addr.add_lit, Nat.mul_comm, Nat.div_add_mod] at h1
    exact h1
  refine ⟨(List.range (len * s)).map fun q => numAt w b (off + q), ⟨by simp, fun _ => ⟨b, off, rfl, ?_, fun q hq => ?_⟩⟩, hlc, (fun h => by cases h), fun z hz => ?_⟩
  · obtain ⟨z, h1, _⟩ := hat 0 (Nat.mul_pos hpos hs)
    exact World.block_lt_of_cell? w ⟨b, off + 0, none⟩ h1
  · obtain ⟨z, h1, _⟩ := hat q hq
    rw [h1]
    simp [List.getD_eq_getElem?_getD, hq, numAt, h1]
  · simp only [List.mem_map, List.mem_range] at hz
    obtain ⟨q, hq, rfl⟩ := hz
    obtain ⟨z, h1, h2⟩ := hat q hq
    simpa [numAt, h1] using h2

/-- A slice of numbers in a cell. -/
theorem flat_of {m : Nat} {cs : List Value} {y : DataW H × List MemPlace} (hf : DataW.trod enc Try.prog w base (fun _ => true) held m 22 cs = some y) : ∃ A n c zs, cs = [.slice A n c] ∧ Came w 1 A n c zs := by
  rcases open_slice Try.underlying22 hf with ⟨hcs, _⟩ | ⟨x, l, c, m, n, D, Pl, hcs, _, hl, _, hm, _, hi⟩
  · exact ⟨none, 0, 0, [], hcs, Nums.nil, by omega, fun _ => rfl, by simp⟩
  · rw [cells3] at hi
    simp only [if_true] at hm
    obtain ⟨zs, hz⟩ := came_of (w := w) (s := 1) (a := x) (by omega) hl fun i hi' j hj => by
      obtain ⟨cs', hc, htr⟩ := hi i (by omega)
      obtain ⟨_, hcl, hat⟩ := World.cells?_some hc
      obtain ⟨z, hz, hw⟩ := elem3 htr j hj
      exact ⟨z, by rw [← Go.Deep.add_add, hat j hj, hz], hw⟩
    exact ⟨some x, l, c, zs, hcs, hz⟩

theorem open_flat {a : Option Addr} {len cap : Nat} {d : DataW H} {p : List MemPlace} (h : DataW.Trod enc Try.prog w base (fun _ => true) held 22 (.slice a len cap) d p) : ∃ zs, Came w 1 a len cap zs := by
  obtain ⟨fuel, hf⟩ := h
  obtain ⟨A, n, c, zs, hcs, hz⟩ := flat_of hf
  simp [Value.cells] at hcs
  obtain ⟨rfl, rfl, rfl⟩ := hcs
  exact ⟨zs, hz⟩

/-- An era that came in. -/
theorem open_era {r : Reach} {b0 : Nat} {v : Value} {d : DataW H} {q : List MemPlace} (hv : Value.okWide Try.prog w r b0 24 v) (h : DataW.Trod enc Try.prog w base (fun _ => true) held 24 v d q) :
    ∃ (t : Int) (A : Option Addr) (n c : Nat) (zs : List Int), v = V2 t A n c ∧ Reads w w.heap.size A n c zs := by
  obtain ⟨⟨l⟩, rfl, hsz⟩ := okWide_struct Try.underlying24 hv
  rw [cells24] at hsz
  match l, hsz with
  | [v0, v1], _ =>
    obtain ⟨fuel, hf⟩ := h
    obtain ⟨xs, m', _, hx, _, hlen, hg⟩ := DataW.trod_struct Try.underlying24 hf
    match xs, hlen with
    | [y0, y1], _ =>
      have g0 : DataW.trod enc Try.prog w base (fun _ => true) held m' 3 (([v0, v1].drop 0).take (Try.prog.cellsOf 3)) = some y0 := hg 0 _ rfl
      have g1 : DataW.trod enc Try.prog w base (fun _ => true) held m' 22 (([v0, v1].drop 1).take (Try.prog.cellsOf 22)) = some y1 := hg 1 _ rfl
      rw [cells3] at g0
      rw [cells22] at g1
      obtain ⟨z, e0, _⟩ := elem3 g0 0 (by omega)
      obtain ⟨A1, n1, c1, z1, e1, k1⟩ := flat_of g1
      simp at e0 e1
      subst e0 e1
      exact ⟨z, A1, n1, c1, z1, rfl, k1.1, k1.2.2.1⟩
end
end Go.Proofs.Yteckldjdkcbkdaa
