/- What the rows' frames share: a slice of numbers, opened, with what the form's own reach says of its length. No conditions. -/
import Derived.Test.YtijiolkjnlgleaaWalksC
import Derived.ProofKit
import Derived.OpenShut
import Derived.ShutString
import Derived.ChangeOld
import Derived.Lib.SmallJoins
import Derived.Deep.Slices
import Derived.Carry
import Derived.SizedLaws
namespace Go.Proofs.Ytijiolkjnlgleaa
open Go.Joins Go.ChangeShapes Go.WideShapes Go.ChangeAt Go.RowKit Go.Deep

theorem own : ownKnob Try.prog.godebug = none := by kernel_rfl
theorem laidOut : laidOutB Try.prog = true := by kernel_rfl
theorem cells3 : Try.prog.cellsOf 3 = 1 := by kernel_rfl
theorem bytes3 : Try.prog.bytesOf 3 = 8 := by kernel_rfl

theorem wf_bounds {a : Int} (h : (Lit.int .i64 a).wf = true) : -9223372036854775808 ≤ a ∧ a ≤ 9223372036854775807 := by
  have h1 : IntKind.i64.min = -9223372036854775808 := by decide
  have h2 : IntKind.i64.max = 9223372036854775807 := by decide
  have h3 : IntKind.i64.min ≤ a ∧ a ≤ IntKind.i64.max := by simpa [Lit.wf] using h
  omega

/-- What a walk is told of a slice that came in. -/
def Came (w : World) (s : Nat) (A : Option Addr) (n c : Nat) (zs : List Int) : Prop :=
  Nums w w.heap.size s A n zs ∧ n ≤ c ∧ (A = none → c = 0) ∧ ∀ z ∈ zs, (Lit.int .i64 z).wf = true

section
variable {H : Type} {enc : TypeId × Value → H} {w : World} {base : Nat} {spare : Nat → Bool} {held : Bool}

theorem drop_take1 {cs : List Value} {j : Nat} {z : Value} (h : (cs.drop j).take 1 = [z]) : cs[j]? = some z := by
  have := congrArg (fun l => l[0]?) h
  simpa [List.getElem?_take] using this

theorem elem3 {m : Nat} {cs : List Value} {y : DataW H × List MemPlace} (h : DataW.trod enc Try.prog w base spare held m 3 cs = some y) : ∀ j, j < 1 → ∃ z, cs[j]? = some (.int .i64 z) ∧ (Lit.int .i64 z).wf = true := by
  obtain ⟨z, rfl, _, hz⟩ := DataW.trod_int Try.underlying3 h
  intro j hj
  obtain rfl : j = 0 := by omega
  exact ⟨z, rfl, hz⟩

/-- The number in a cell. -/
def numAt (w : World) (b o : Nat) : Int := match w.cell? ⟨b, o, none⟩ with
  | some (.int .i64 z) => z
  | _ => 0

theorem came_of {s len cap : Nat} {a : Addr} (hs : 0 < s) (hlc : len ≤ cap) (hc : ∀ i, i < len → ∀ j, j < s → ∃ z, w.cell? (a.add (i * s + j)) = some (.int .i64 z) ∧ (Lit.int .i64 z).wf = true) :
    ∃ zs, Came w s (some a) len cap zs := by
  obtain ⟨b, off, spot⟩ := a
  rcases Nat.eq_zero_or_pos len with rfl | hpos
  · exact ⟨[], Nums.nil, by omega, (fun h => by cases h), by simp⟩
  obtain ⟨z, h0, _⟩ := hc 0 hpos 0 hs
  have hsp : spot = none := by simpa [Addr.add] using World.cell?_spot h0
  subst hsp
  have hat : ∀ q, q < len * s → ∃ z, w.cell? ⟨b, off + q, none⟩ = some (.int .i64 z) ∧ (Lit.int .i64 z).wf = true := by
    intro q hq
    have h1 := hc (q / s) (Nat.div_lt_of_lt_mul (by rw [Nat.mul_comm]; exact hq)) (q % s) (Nat.mod_lt _ hs)
    rw [Addr.add_lit, Nat.mul_comm, Nat.div_add_mod] at h1
    exact h1
  refine ⟨(List.range (len * s)).map fun q => numAt w b (off + q), ⟨by simp, fun _ => ⟨b, off, rfl, ?_, fun q hq => ?_⟩⟩, hlc, (fun h => by cases h), fun z hz => ?_⟩
  · obtain ⟨z, h1, _⟩ := hat 0 (Nat.mul_pos hpos hs)
    exact World.block_lt_of_cell? w ⟨b, off + 0, none⟩ h1
  · obtain ⟨z, h1, _⟩ := hat q hq
    rw [h1]
    simp [List.getD_eq_getElem?_getD, hq, numAt, h1]
  · simp only [List.mem_map, List.mem_range] at hz
    obtain ⟨q, hq, rfl⟩ := hz
    obtain ⟨z, h1, h2⟩ := hat q hq
    simpa [numAt, h1] using h2

theorem open_flat {t e s : Nat} {a : Option Addr} {len cap : Nat} {d : DataW H} {p : List MemPlace} (ht : Try.prog.underlying t = some (.slice e)) (he : Try.prog.cellsOf e = s) (hs : 0 < s)
    (hel : ∀ {m : Nat} {cs : List Value} {y : DataW H × List MemPlace}, DataW.trod enc Try.prog w base (fun _ => true) held m e cs = some y → ∀ j, j < s → ∃ z, cs[j]? = some (.int .i64 z) ∧ (Lit.int .i64 z).wf = true)
    (h : DataW.Trod enc Try.prog w base (fun _ => true) held t (.slice a len cap) d p) : ∃ zs, Came w s a len cap zs := by
  obtain ⟨fuel, hf⟩ := h
  rcases open_slice ht hf with ⟨hcs, _⟩ | ⟨x, l, c, m, n, D, Pl, hcs, _, hl, _, hm, _, hi⟩
  · simp [Value.cells] at hcs
    obtain ⟨rfl, rfl, rfl⟩ := hcs
    exact ⟨[], Nums.nil, by omega, fun _ => rfl, by simp⟩
  · simp [Value.cells] at hcs
    obtain ⟨rfl, rfl, rfl⟩ := hcs
    rw [he] at hi
    simp only [if_true] at hm
    refine came_of hs hl fun i hi' j hj => ?_
    obtain ⟨cs', hc, htr⟩ := hi i (by omega)
    obtain ⟨_, hcl, hat⟩ := World.cells?_some hc
    obtain ⟨z, hz, hw⟩ := hel htr j hj
    exact ⟨z, by rw [← Go.Deep.add_add, hat j hj, hz], hw⟩

/-- How long it can be. -/
theorem open_size {a : Option Addr} {len cap : Nat} {d : DataW H} {p : List MemPlace} {ts : List TypeId} {ds : List (DataW H)} {j : Nat}
    (h : DataW.Trod enc Try.prog w base (fun _ => true) held 22 (.slice a len cap) d p) (hz : (DataW.weightsEach Try.prog ts ds).all (· ≤ reachBytes) = true) (ht : ts[j]? = some 22) (hd : ds[j]? = some d) : len ≤ 17592186044416 := by
  obtain ⟨fuel, hf⟩ := h
  rcases open_slice Try.underlying22 hf with ⟨hcs, _⟩ | ⟨x, l, c, m, n, D, Pl, hcs, hdd, hl, _, hm, hi⟩
  · simp [Value.cells] at hcs
    omega
  · simp [Value.cells] at hcs
    obtain ⟨rfl, rfl, rfl⟩ := hcs
    simp only [Prod.mk.injEq] at hi
    obtain ⟨rfl, _⟩ := hi.1
    have h1 := sized_slice hz ht hd Try.underlying22
    rw [bytes3] at h1
    simp only [List.length_map, List.length_range, reachBytes] at h1
    omega
end
end Go.Proofs.Ytijiolkjnlgleaa
