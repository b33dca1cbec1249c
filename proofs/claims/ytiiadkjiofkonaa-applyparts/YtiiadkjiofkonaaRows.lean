/-
  No cell of these rows narrows 'for every input' (looked for: loops, veiled, ifaces, maps, wideKeys, modest, calm, conditions, laid).
  DERIVED. THE GIVEN ROWS OF THIS SEAT. 7 by the template 'for every input the law returns true; each argument reads behind the call as it read before'; 0 by the template 'total and deterministic' (their statements: YtiiadkjiofkonaaTotals.lean).
  GIVEN WITH THE SEED: the statements are not yours to turn. If you find one false, say at which input.
  Laid BY PROGRAM, IN A SANDBOX (cutbox-rows.mjs): the forced cells as the released guide's own fill.sh prints them over the translation 8701484c3a21442b… (all of the seat's roots in one cut). By AI agents, Wed Nov 11 2026. No macro, syntax, notation, axiom, sorry.
-/
import Derived.Test.YtiiadkjiofkonaaChecked
import GoSem.Claim
import GoSem.ClaimJoined
import GoSem.ClaimMapViews
import Derived.JoinedTies
import Derived.KernelRfl
namespace Go.Proofs.Ytiiadkjiofkonaa
/- THE CELL 'sum', in the pinned program and in every row, IS THE sha256 OF THE DUMP (.gsa) THAT YtiiadkjiofkonaaProg.lean LOADS. Nothing in Lean hashes anything: it is a label: what it is worth is what the hold of that sum in a sandbox is worth. -/
noncomputable def Try.pinned : Pinned := { name := "ytiiadkjiofkonaa", sum := "8701484c3a21442b738c31b05d1a1891fca09164c395e3a5583b7f46f965987a", checked := Try.checked }
namespace Rows
def none {H : Type} : Left H := { results := [], args := [] }

/-- 'tendrillaw10.GraphLooks': WHATEVER THE INPUT: true; the input reads as it did. -/
def graphLooksSpec : ChangeSpec := { name := "graphLooks", fn := fun _ => fun
  | [d1, d2, d3] => { results := [.lit (.bool true)], args := [d1, d2, d3] }
  | _ => none }
def graphLooksRow : OpenClaim := { program := "ytiiadkjiofkonaa", sum := "8701484c3a21442b738c31b05d1a1891fca09164c395e3a5583b7f46f965987a", func := "tendril/tendrillaw10.GraphLooks", spec := "graphLooks", unfollowed := true, recurses := true, apart := false }
def GraphLooksSaid : Prop := graphLooksRow.holds Try.pinned (OpenSpec.ofChange graphLooksSpec)

/-- ITS FALSE NEIGHBOUR: 'it returns false'. Refute it at one input. -/
def graphLooksWrong : ChangeSpec := { name := "graphLooks", fn := fun _ => fun
  | [d1, d2, d3] => { results := [.lit (.bool false)], args := [d1, d2, d3] }
  | _ => none }
def GraphLooksWrongFalsely : Prop := graphLooksRow.holds Try.pinned (OpenSpec.ofChange graphLooksWrong)

/-- 'tendrillaw10.GraphDoes': WHATEVER THE INPUT: true; the input reads as it did. -/
def graphDoesSpec : ChangeSpec := { name := "graphDoes", fn := fun _ => fun
  | [d1, d2, d3, d4] => { results := [.lit (.bool true)], args := [d1, d2, d3, d4] }
  | _ => none }
def graphDoesRow : OpenClaim := { program := "ytiiadkjiofkonaa", sum := "8701484c3a21442b738c31b05d1a1891fca09164c395e3a5583b7f46f965987a", func := "tendril/tendrillaw10.GraphDoes", spec := "graphDoes", unfollowed := true, recurses := true, apart := false }
def GraphDoesSaid : Prop := graphDoesRow.holds Try.pinned (OpenSpec.ofChange graphDoesSpec)

/-- ITS FALSE NEIGHBOUR: 'it returns false'. Refute it at one input. -/
def graphDoesWrong : ChangeSpec := { name := "graphDoes", fn := fun _ => fun
  | [d1, d2, d3, d4] => { results := [.lit (.bool false)], args := [d1, d2, d3, d4] }
  | _ => none }
def GraphDoesWrongFalsely : Prop := graphDoesRow.holds Try.pinned (OpenSpec.ofChange graphDoesWrong)

/-- 'tendrillaw10.GraphProps': WHATEVER THE INPUT: true; the input reads as it did. -/
def graphPropsSpec : ChangeSpec := { name := "graphProps", fn := fun _ => fun
  | [d1, d2, d3, d4, d5] => { results := [.lit (.bool true)], args := [d1, d2, d3, d4, d5] }
  | _ => none }
def graphPropsRow : OpenClaim := { program := "ytiiadkjiofkonaa", sum := "8701484c3a21442b738c31b05d1a1891fca09164c395e3a5583b7f46f965987a", func := "tendril/tendrillaw10.GraphProps", spec := "graphProps", unfollowed := true, recurses := true, apart := false }
def GraphPropsSaid : Prop := graphPropsRow.holds Try.pinned (OpenSpec.ofChange graphPropsSpec)

/-- ITS FALSE NEIGHBOUR: 'it returns false'. Refute it at one input. -/
def graphPropsWrong : ChangeSpec := { name := "graphProps", fn := fun _ => fun
  | [d1, d2, d3, d4, d5] => { results := [.lit (.bool false)], args := [d1, d2, d3, d4, d5] }
  | _ => none }
def GraphPropsWrongFalsely : Prop := graphPropsRow.holds Try.pinned (OpenSpec.ofChange graphPropsWrong)

/-- 'tendrillaw10.GraphStays': WHATEVER THE INPUT: true; the input reads as it did. -/
def graphStaysSpec : ChangeSpec := { name := "graphStays", fn := fun _ => fun
  | [d1, d2, d3, d4, d5, d6] => { results := [.lit (.bool true)], args := [d1, d2, d3, d4, d5, d6] }
  | _ => none }
def graphStaysRow : OpenClaim := { program := "ytiiadkjiofkonaa", sum := "8701484c3a21442b738c31b05d1a1891fca09164c395e3a5583b7f46f965987a", func := "tendril/tendrillaw10.GraphStays", spec := "graphStays", unfollowed := true, recurses := true, apart := false }
def GraphStaysSaid : Prop := graphStaysRow.holds Try.pinned (OpenSpec.ofChange graphStaysSpec)

/-- ITS FALSE NEIGHBOUR: 'it returns false'. Refute it at one input. -/
def graphStaysWrong : ChangeSpec := { name := "graphStays", fn := fun _ => fun
  | [d1, d2, d3, d4, d5, d6] => { results := [.lit (.bool false)], args := [d1, d2, d3, d4, d5, d6] }
  | _ => none }
def GraphStaysWrongFalsely : Prop := graphStaysRow.holds Try.pinned (OpenSpec.ofChange graphStaysWrong)

/-- 'tendrillaw10.GraphFuses': WHATEVER THE INPUT: true; the input reads as it did. -/
def graphFusesSpec : ChangeSpec := { name := "graphFuses", fn := fun _ => fun
  | [d1, d2, d3, d4, d5] => { results := [.lit (.bool true)], args := [d1, d2, d3, d4, d5] }
  | _ => none }
def graphFusesRow : OpenClaim := { program := "ytiiadkjiofkonaa", sum := "8701484c3a21442b738c31b05d1a1891fca09164c395e3a5583b7f46f965987a", func := "tendril/tendrillaw10.GraphFuses", spec := "graphFuses", unfollowed := true, recurses := true, apart := false }
def GraphFusesSaid : Prop := graphFusesRow.holds Try.pinned (OpenSpec.ofChange graphFusesSpec)

/-- ITS FALSE NEIGHBOUR: 'it returns false'. Refute it at one input. -/
def graphFusesWrong : ChangeSpec := { name := "graphFuses", fn := fun _ => fun
  | [d1, d2, d3, d4, d5] => { results := [.lit (.bool false)], args := [d1, d2, d3, d4, d5] }
  | _ => none }
def GraphFusesWrongFalsely : Prop := graphFusesRow.holds Try.pinned (OpenSpec.ofChange graphFusesWrong)

/-- 'tendrillaw11.ApplyTakes': WHATEVER THE INPUT: true; the input reads as it did. -/
def applyTakesSpec : ChangeSpec := { name := "applyTakes", fn := fun _ => fun
  | [d1, d2, d3] => { results := [.lit (.bool true)], args := [d1, d2, d3] }
  | _ => none }
def applyTakesRow : OpenClaim := { program := "ytiiadkjiofkonaa", sum := "8701484c3a21442b738c31b05d1a1891fca09164c395e3a5583b7f46f965987a", func := "tendril/tendrillaw11.ApplyTakes", spec := "applyTakes", unfollowed := true, recurses := true, apart := false }
def ApplyTakesSaid : Prop := applyTakesRow.holds Try.pinned (OpenSpec.ofChange applyTakesSpec)

/-- ITS FALSE NEIGHBOUR: 'it returns false'. Refute it at one input. -/
def applyTakesWrong : ChangeSpec := { name := "applyTakes", fn := fun _ => fun
  | [d1, d2, d3] => { results := [.lit (.bool false)], args := [d1, d2, d3] }
  | _ => none }
def ApplyTakesWrongFalsely : Prop := applyTakesRow.holds Try.pinned (OpenSpec.ofChange applyTakesWrong)

/-- 'tendrillaw11.ApplyParts': WHATEVER THE INPUT: true; the input reads as it did. -/
def applyPartsSpec : ChangeSpec := { name := "applyParts", fn := fun _ => fun
  | [d1, d2, d3] => { results := [.lit (.bool true)], args := [d1, d2, d3] }
  | _ => none }
def applyPartsRow : OpenClaim := { program := "ytiiadkjiofkonaa", sum := "8701484c3a21442b738c31b05d1a1891fca09164c395e3a5583b7f46f965987a", func := "tendril/tendrillaw11.ApplyParts", spec := "applyParts", unfollowed := true, recurses := true, apart := false }
def ApplyPartsSaid : Prop := applyPartsRow.holds Try.pinned (OpenSpec.ofChange applyPartsSpec)

/-- ITS FALSE NEIGHBOUR: 'it returns false'. Refute it at one input. -/
def applyPartsWrong : ChangeSpec := { name := "applyParts", fn := fun _ => fun
  | [d1, d2, d3] => { results := [.lit (.bool false)], args := [d1, d2, d3] }
  | _ => none }
def ApplyPartsWrongFalsely : Prop := applyPartsRow.holds Try.pinned (OpenSpec.ofChange applyPartsWrong)

/- THE SECOND FORM. 'bulk': how many values and letters a reading holds, each counted each time it is reached (what is shared counts as often as it is met; a slice's spare places count too). A statement '..UptoSaid' is the law's where the arguments, and the package variables that the reading takes, are together of bulk at most 1048576: NARROWER than '..Said'. Prove '..Said' where nothing that the law and all that it calls make is longer than what came in: it says more and counts as full. Else prove '..UptoSaid'. A law counts once. -/
mutual
def uptoBulk {H : Type} : DataW H → Nat
  | .lit (.string bytes) => bytes.length + 1
  | .lit _ => 1
  | .nil => 1
  | .ptr d => uptoBulk d + 1
  | .slice elems spare => uptoBulkAll elems + uptoBulkAll spare + 1
  | .agg parts => uptoBulkAll parts + 1
  | .iface _ d => uptoBulk d + 1
  | .map entries => uptoBulkEntries entries + 1
  | .held _ => 1
def uptoBulkAll {H : Type} : List (DataW H) → Nat
  | [] => 0
  | d :: r => uptoBulk d + uptoBulkAll r
def uptoBulkEntries {H : Type} : List (Lit × DataW H) → Nat
  | [] => 0
  | x :: r => uptoBulkEntry x + uptoBulkEntries r
def uptoBulkEntry {H : Type} : Lit × DataW H → Nat
  | (.string bytes, d) => bytes.length + uptoBulk d + 1
  | (_, d) => uptoBulk d + 1
 end
def uptoSmall : (H : Type) → List (DataW H) → Bool := fun _ ds => decide (uptoBulkAll ds ≤ 1048576)
def OpenSpec.upto (s : _root_.Go.ChangeSpec) : _root_.Go.OpenSpec := { _root_.Go.OpenSpec.ofChange s with cond := some uptoSmall }

/-- 'tendrillaw10.GraphLooks', WHERE WHAT IT READS IS OF BULK AT MOST 1048576: true; the input reads as it did. -/
def graphLooksUptoRow : OpenClaim := { program := "ytiiadkjiofkonaa", sum := "8701484c3a21442b738c31b05d1a1891fca09164c395e3a5583b7f46f965987a", func := "tendril/tendrillaw10.GraphLooks", spec := "graphLooks", unfollowed := true, recurses := true, apart := false, narrowed := true }
def GraphLooksUptoSaid : Prop := graphLooksUptoRow.holds Try.pinned (OpenSpec.upto graphLooksSpec)

/-- 'tendrillaw10.GraphDoes', WHERE WHAT IT READS IS OF BULK AT MOST 1048576: true; the input reads as it did. -/
def graphDoesUptoRow : OpenClaim := { program := "ytiiadkjiofkonaa", sum := "8701484c3a21442b738c31b05d1a1891fca09164c395e3a5583b7f46f965987a", func := "tendril/tendrillaw10.GraphDoes", spec := "graphDoes", unfollowed := true, recurses := true, apart := false, narrowed := true }
def GraphDoesUptoSaid : Prop := graphDoesUptoRow.holds Try.pinned (OpenSpec.upto graphDoesSpec)

/-- 'tendrillaw10.GraphProps', WHERE WHAT IT READS IS OF BULK AT MOST 1048576: true; the input reads as it did. -/
def graphPropsUptoRow : OpenClaim := { program := "ytiiadkjiofkonaa", sum := "8701484c3a21442b738c31b05d1a1891fca09164c395e3a5583b7f46f965987a", func := "tendril/tendrillaw10.GraphProps", spec := "graphProps", unfollowed := true, recurses := true, apart := false, narrowed := true }
def GraphPropsUptoSaid : Prop := graphPropsUptoRow.holds Try.pinned (OpenSpec.upto graphPropsSpec)

/-- 'tendrillaw10.GraphStays', WHERE WHAT IT READS IS OF BULK AT MOST 1048576: true; the input reads as it did. -/
def graphStaysUptoRow : OpenClaim := { program := "ytiiadkjiofkonaa", sum := "8701484c3a21442b738c31b05d1a1891fca09164c395e3a5583b7f46f965987a", func := "tendril/tendrillaw10.GraphStays", spec := "graphStays", unfollowed := true, recurses := true, apart := false, narrowed := true }
def GraphStaysUptoSaid : Prop := graphStaysUptoRow.holds Try.pinned (OpenSpec.upto graphStaysSpec)

/-- 'tendrillaw10.GraphFuses', WHERE WHAT IT READS IS OF BULK AT MOST 1048576: true; the input reads as it did. -/
def graphFusesUptoRow : OpenClaim := { program := "ytiiadkjiofkonaa", sum := "8701484c3a21442b738c31b05d1a1891fca09164c395e3a5583b7f46f965987a", func := "tendril/tendrillaw10.GraphFuses", spec := "graphFuses", unfollowed := true, recurses := true, apart := false, narrowed := true }
def GraphFusesUptoSaid : Prop := graphFusesUptoRow.holds Try.pinned (OpenSpec.upto graphFusesSpec)

/-- 'tendrillaw11.ApplyTakes', WHERE WHAT IT READS IS OF BULK AT MOST 1048576: true; the input reads as it did. -/
def applyTakesUptoRow : OpenClaim := { program := "ytiiadkjiofkonaa", sum := "8701484c3a21442b738c31b05d1a1891fca09164c395e3a5583b7f46f965987a", func := "tendril/tendrillaw11.ApplyTakes", spec := "applyTakes", unfollowed := true, recurses := true, apart := false, narrowed := true }
def ApplyTakesUptoSaid : Prop := applyTakesUptoRow.holds Try.pinned (OpenSpec.upto applyTakesSpec)

/-- 'tendrillaw11.ApplyParts', WHERE WHAT IT READS IS OF BULK AT MOST 1048576: true; the input reads as it did. -/
def applyPartsUptoRow : OpenClaim := { program := "ytiiadkjiofkonaa", sum := "8701484c3a21442b738c31b05d1a1891fca09164c395e3a5583b7f46f965987a", func := "tendril/tendrillaw11.ApplyParts", spec := "applyParts", unfollowed := true, recurses := true, apart := false, narrowed := true }
def ApplyPartsUptoSaid : Prop := applyPartsUptoRow.holds Try.pinned (OpenSpec.upto applyPartsSpec)

end Rows
end Go.Proofs.Ytiiadkjiofkonaa
