/-
  No cell of these rows narrows 'for every input' (looked for: loops, veiled, ifaces, maps, wideKeys, modest, calm, conditions, laid).
  DERIVED. THE GIVEN ROWS OF THIS SEAT. 5 by the template 'for every input the law returns true; each argument reads behind the call as it read before'; 0 by the template 'total and deterministic' (their statements: YtiiadkjiofkonaaGreatTotals.lean).
  GIVEN WITH THE SEED: the statements are not yours to turn. If you find one false, say at which input.
  Laid BY PROGRAM, IN A SANDBOX (cutbox-rows.mjs): the forced cells as the released guide's own fill.sh prints them over the translation d7f6b81385ffd2e3… (all of the seat's roots in one cut). By AI agents, Wed Nov 11 2026. No macro, syntax, notation, axiom, sorry.
-/
import Derived.Test.YtiiadkjiofkonaaGreatChecked
import GoSem.Claim
import GoSem.ClaimJoined
import GoSem.ClaimMapViews
import Derived.JoinedTies
import Derived.KernelRfl
namespace Go.Proofs.YtiiadkjiofkonaaGreat
/- THE CELL 'sum', in the pinned program and in every row, IS THE sha256 OF THE DUMP (.gsa) THAT YtiiadkjiofkonaaGreatProg.lean LOADS. Nothing in Lean hashes anything: it is a label: what it is worth is what the hold of that sum in a sandbox is worth. -/
noncomputable def Tryz.pinned : Pinned := { name := "ytiiadkjiofkonaagreat", sum := "d7f6b81385ffd2e3dffd623d89ba9937aa965572e881924b7b6b414e4b47a536", checked := Tryz.checked }
namespace Rows
def none {H : Type} : Left H := { results := [], args := [] }

/-- 'tendrillaw11.ApplyDoes': WHATEVER THE INPUT: true; the input reads as it did. -/
def applyDoesSpec : ChangeSpec := { name := "applyDoes", fn := fun _ => fun
  | [d1, d2, d3] => { results := [.lit (.bool true)], args := [d1, d2, d3] }
  | _ => none }
def applyDoesRow : OpenClaim := { program := "ytiiadkjiofkonaagreat", sum := "d7f6b81385ffd2e3dffd623d89ba9937aa965572e881924b7b6b414e4b47a536", func := "tendril/tendrillaw11.ApplyDoes", spec := "applyDoes", unfollowed := true, recurses := true, apart := false }
def ApplyDoesSaid : Prop := applyDoesRow.holds Tryz.pinned (OpenSpec.ofChange applyDoesSpec)

/-- ITS FALSE NEIGHBOUR: 'it returns false'. Refute it at one input. -/
def applyDoesWrong : ChangeSpec := { name := "applyDoes", fn := fun _ => fun
  | [d1, d2, d3] => { results := [.lit (.bool false)], args := [d1, d2, d3] }
  | _ => none }
def ApplyDoesWrongFalsely : Prop := applyDoesRow.holds Tryz.pinned (OpenSpec.ofChange applyDoesWrong)

/-- 'tendrillaw11.ApplyFits': WHATEVER THE INPUT: true; the input reads as it did. -/
def applyFitsSpec : ChangeSpec := { name := "applyFits", fn := fun _ => fun
  | [d1, d2, d3, d4, d5] => { results := [.lit (.bool true)], args := [d1, d2, d3, d4, d5] }
  | _ => none }
def applyFitsRow : OpenClaim := { program := "ytiiadkjiofkonaagreat", sum := "d7f6b81385ffd2e3dffd623d89ba9937aa965572e881924b7b6b414e4b47a536", func := "tendril/tendrillaw11.ApplyFits", spec := "applyFits", unfollowed := true, recurses := true, apart := false }
def ApplyFitsSaid : Prop := applyFitsRow.holds Tryz.pinned (OpenSpec.ofChange applyFitsSpec)

/-- ITS FALSE NEIGHBOUR: 'it returns false'. Refute it at one input. -/
def applyFitsWrong : ChangeSpec := { name := "applyFits", fn := fun _ => fun
  | [d1, d2, d3, d4, d5] => { results := [.lit (.bool false)], args := [d1, d2, d3, d4, d5] }
  | _ => none }
def ApplyFitsWrongFalsely : Prop := applyFitsRow.holds Tryz.pinned (OpenSpec.ofChange applyFitsWrong)

/-- 'tendrillaw11.ApplyAll': WHATEVER THE INPUT: true; the input reads as it did. -/
def applyAllSpec : ChangeSpec := { name := "applyAll", fn := fun _ => fun
  | [d1, d2] => { results := [.lit (.bool true)], args := [d1, d2] }
  | _ => none }
def applyAllRow : OpenClaim := { program := "ytiiadkjiofkonaagreat", sum := "d7f6b81385ffd2e3dffd623d89ba9937aa965572e881924b7b6b414e4b47a536", func := "tendril/tendrillaw11.ApplyAll", spec := "applyAll", unfollowed := true, recurses := true, apart := false }
def ApplyAllSaid : Prop := applyAllRow.holds Tryz.pinned (OpenSpec.ofChange applyAllSpec)

/-- ITS FALSE NEIGHBOUR: 'it returns false'. Refute it at one input. -/
def applyAllWrong : ChangeSpec := { name := "applyAll", fn := fun _ => fun
  | [d1, d2] => { results := [.lit (.bool false)], args := [d1, d2] }
  | _ => none }
def ApplyAllWrongFalsely : Prop := applyAllRow.holds Tryz.pinned (OpenSpec.ofChange applyAllWrong)

/-- 'tendrillaw11.ApplyFails': WHATEVER THE INPUT: true; the input reads as it did. -/
def applyFailsSpec : ChangeSpec := { name := "applyFails", fn := fun _ => fun
  | [d1, d2, d3] => { results := [.lit (.bool true)], args := [d1, d2, d3] }
  | _ => none }
def applyFailsRow : OpenClaim := { program := "ytiiadkjiofkonaagreat", sum := "d7f6b81385ffd2e3dffd623d89ba9937aa965572e881924b7b6b414e4b47a536", func := "tendril/tendrillaw11.ApplyFails", spec := "applyFails", unfollowed := true, recurses := true, apart := false }
def ApplyFailsSaid : Prop := applyFailsRow.holds Tryz.pinned (OpenSpec.ofChange applyFailsSpec)

/-- ITS FALSE NEIGHBOUR: 'it returns false'. Refute it at one input. -/
def applyFailsWrong : ChangeSpec := { name := "applyFails", fn := fun _ => fun
  | [d1, d2, d3] => { results := [.lit (.bool false)], args := [d1, d2, d3] }
  | _ => none }
def ApplyFailsWrongFalsely : Prop := applyFailsRow.holds Tryz.pinned (OpenSpec.ofChange applyFailsWrong)

/-- 'tendrillaw11.ApplyFull': WHATEVER THE INPUT: true; the input reads as it did. -/
def applyFullSpec : ChangeSpec := { name := "applyFull", fn := fun _ => fun
  | [d1, d2, d3] => { results := [.lit (.bool true)], args := [d1, d2, d3] }
  | _ => none }
def applyFullRow : OpenClaim := { program := "ytiiadkjiofkonaagreat", sum := "d7f6b81385ffd2e3dffd623d89ba9937aa965572e881924b7b6b414e4b47a536", func := "tendril/tendrillaw11.ApplyFull", spec := "applyFull", unfollowed := true, recurses := true, apart := false }
def ApplyFullSaid : Prop := applyFullRow.holds Tryz.pinned (OpenSpec.ofChange applyFullSpec)

/-- ITS FALSE NEIGHBOUR: 'it returns false'. Refute it at one input. -/
def applyFullWrong : ChangeSpec := { name := "applyFull", fn := fun _ => fun
  | [d1, d2, d3] => { results := [.lit (.bool false)], args := [d1, d2, d3] }
  | _ => none }
def ApplyFullWrongFalsely : Prop := applyFullRow.holds Tryz.pinned (OpenSpec.ofChange applyFullWrong)

/- THE SECOND FORM. 'bulk': how many values and letters a reading holds, each counted each time it is reached (what is shared counts as often as it is met; a slice's spare places count too). A statement '..UptoSaid' is the law's where the arguments, and the package variables that the reading takes, are together of bulk at most 1048576: NARROWER than '..Said'. Prove '..Said' where nothing that the law and all that it calls make is longer than what came in: it says more and counts as full. Else prove '..UptoSaid'. A law counts once. -/
mutual
def uptoBulk {H : Type} : DataW H → Nat
  | .lit (.string bytes) => bytes.length + 1
  | .lit _ => 1
  | .nil => 1
  | .ptr d => uptoBulk d + 1
  | .slice elems spare => uptoBulkAll elems + uptoBulkAll spare + 1
  | .agg parts => uptoBulkAll parts + 1
  | .iface _ d => uptoBulk d + 1
  | .map entries => uptoBulkEntries entries + 1
  | .held _ => 1
def uptoBulkAll {H : Type} : List (DataW H) → Nat
  | [] => 0
  | d :: r => uptoBulk d + uptoBulkAll r
def uptoBulkEntries {H : Type} : List (Lit × DataW H) → Nat
  | [] => 0
  | x :: r => uptoBulkEntry x + uptoBulkEntries r
def uptoBulkEntry {H : Type} : Lit × DataW H → Nat
  | (.string bytes, d) => bytes.length + uptoBulk d + 1
  | (_, d) => uptoBulk d + 1
 end
def uptoSmall : (H : Type) → List (DataW H) → Bool := fun _ ds => decide (uptoBulkAll ds ≤ 1048576)
def OpenSpec.upto (s : _root_.Go.ChangeSpec) : _root_.Go.OpenSpec := { _root_.Go.OpenSpec.ofChange s with cond := some uptoSmall }

/-- 'tendrillaw11.ApplyDoes', WHERE WHAT IT READS IS OF BULK AT MOST 1048576: true; the input reads as it did. -/
def applyDoesUptoRow : OpenClaim := { program := "ytiiadkjiofkonaagreat", sum := "d7f6b81385ffd2e3dffd623d89ba9937aa965572e881924b7b6b414e4b47a536", func := "tendril/tendrillaw11.ApplyDoes", spec := "applyDoes", unfollowed := true, recurses := true, apart := false, narrowed := true }
def ApplyDoesUptoSaid : Prop := applyDoesUptoRow.holds Tryz.pinned (OpenSpec.upto applyDoesSpec)

/-- 'tendrillaw11.ApplyFits', WHERE WHAT IT READS IS OF BULK AT MOST 1048576: true; the input reads as it did. -/
def applyFitsUptoRow : OpenClaim := { program := "ytiiadkjiofkonaagreat", sum := "d7f6b81385ffd2e3dffd623d89ba9937aa965572e881924b7b6b414e4b47a536", func := "tendril/tendrillaw11.ApplyFits", spec := "applyFits", unfollowed := true, recurses := true, apart := false, narrowed := true }
def ApplyFitsUptoSaid : Prop := applyFitsUptoRow.holds Tryz.pinned (OpenSpec.upto applyFitsSpec)

/-- 'tendrillaw11.ApplyAll', WHERE WHAT IT READS IS OF BULK AT MOST 1048576: true; the input reads as it did. -/
def applyAllUptoRow : OpenClaim := { program := "ytiiadkjiofkonaagreat", sum := "d7f6b81385ffd2e3dffd623d89ba9937aa965572e881924b7b6b414e4b47a536", func := "tendril/tendrillaw11.ApplyAll", spec := "applyAll", unfollowed := true, recurses := true, apart := false, narrowed := true }
def ApplyAllUptoSaid : Prop := applyAllUptoRow.holds Tryz.pinned (OpenSpec.upto applyAllSpec)

/-- 'tendrillaw11.ApplyFails', WHERE WHAT IT READS IS OF BULK AT MOST 1048576: true; the input reads as it did. -/
def applyFailsUptoRow : OpenClaim := { program := "ytiiadkjiofkonaagreat", sum := "d7f6b81385ffd2e3dffd623d89ba9937aa965572e881924b7b6b414e4b47a536", func := "tendril/tendrillaw11.ApplyFails", spec := "applyFails", unfollowed := true, recurses := true, apart := false, narrowed := true }
def ApplyFailsUptoSaid : Prop := applyFailsUptoRow.holds Tryz.pinned (OpenSpec.upto applyFailsSpec)

/-- 'tendrillaw11.ApplyFull', WHERE WHAT IT READS IS OF BULK AT MOST 1048576: true; the input reads as it did. -/
def applyFullUptoRow : OpenClaim := { program := "ytiiadkjiofkonaagreat", sum := "d7f6b81385ffd2e3dffd623d89ba9937aa965572e881924b7b6b414e4b47a536", func := "tendril/tendrillaw11.ApplyFull", spec := "applyFull", unfollowed := true, recurses := true, apart := false, narrowed := true }
def ApplyFullUptoSaid : Prop := applyFullUptoRow.holds Tryz.pinned (OpenSpec.upto applyFullSpec)

end Rows
end Go.Proofs.YtiiadkjiofkonaaGreat
