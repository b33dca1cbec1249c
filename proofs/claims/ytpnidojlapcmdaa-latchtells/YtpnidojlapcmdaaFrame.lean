/- What the rows' frames share: a slice of bools, opened. No conditions. -/
import Derived.Test.YtpnidojlapcmdaaWalks
import Derived.ProofKit
import Derived.OpenShut
import Derived.ShutString
import Derived.ChangeOld
import Derived.Lib.SmallJoins
import Derived.Deep.Slices
import Derived.Carry
namespace Go.Proofs.Ytpnidojlapcmdaa
open Go.Joins Go.ChangeShapes Go.WideShapes Go.ChangeAt Go.RowKit Go.Deep

theorem own : ownKnob Try.prog.godebug = none := by kernel_rfl
theorem laidOut : laidOutB Try.prog = true := by kernel_rfl
theorem cells4 : Try.prog.cellsOf 4 = 1 := by kernel_rfl

/-- What a walk is told of a slice of bools that came in: each element's cell holds a bool. -/
def Bools (w : World) (A : Option Addr) (n c : Nat) : Prop :=
  n ≤ c ∧ ∀ i, i < n → ∃ b off q, A = some ⟨b, off, none⟩ ∧ b < w.heap.size ∧ w.cell? ⟨b, off + i, none⟩ = some (.bool q)

section
variable {H : Type} {enc : TypeId × Value → H} {w : World} {base : Nat} {spare : Nat → Bool} {held : Bool}

theorem open_bools {a : Option Addr} {len cap : Nat} {d : DataW H} {p : List MemPlace} 
    (h : DataW.Trod enc Try.prog w base (fun _ => true) held 32 (.slice a len cap) d p) : Bools w a len cap := by
  obtain ⟨fuel, hf⟩ := h
  rcases open_slice Try.underlying32 hf with ⟨hcs, _⟩ | ⟨x, l, c, m, n, D, Pl, hcs, _, hl, _, hm, _, hi⟩
  · simp [Value.cells] at hcs
    obtain ⟨rfl, rfl, rfl⟩ := hcs
    exact ⟨Nat.le_refl _, fun i hi => by omega⟩
  · simp [Value.cells] at hcs
    obtain ⟨rfl, rfl, rfl⟩ := hcs
    rw [cells4] at hi
    simp only [if_true] at hm
    have hq : ∀ i, i < len → ∃ q, w.cell? (x.add i) = some (.bool q) := by
      intro i hi'
      obtain ⟨cs', hc, htr⟩ := hi i (by omega)
      obtain ⟨_, hcl, hat⟩ := World.cells?_some hc
      obtain ⟨q, hz, _⟩ := DataW.trod_bool Try.underlying4 htr
      have h1 := hat 0 (by omega)
      rw [hz] at h1
      exact ⟨q, by rw [Go.Deep.add_add] at h1; simpa using h1⟩
    obtain ⟨b, off, spot⟩ := x
    refine ⟨hl, fun i hi' => ?_⟩
    obtain ⟨q0, h0⟩ := hq 0 (by omega)
    have hsp : spot = none := by simpa [Addr.add] using World.cell?_spot h0
    subst hsp
    obtain ⟨q, h2⟩ := hq i hi'
    rw [Addr.add_lit] at h2
    exact ⟨b, off, q, rfl, World.block_lt_of_cell? w ⟨b, off + i, none⟩ h2, h2⟩
end
end Go.Proofs.Ytpnidojlapcmdaa
