/-
  NARROWER THAN 'FOR EVERY INPUT', by the rows' own cells (each row's printed sentence says how): PlaceMakes: laid · PlaceTells: laid · PlaceWhere: laid · PlaceBack: laid · PlaceApart: laid · PlaceSize: laid.
  DERIVED. THE GIVEN ROWS OF THIS SEAT. 6 by the template 'for every input the law returns true; each argument reads behind the call as it read before'; 0 by the template 'total and deterministic' (their statements: YtknbllhkifigbaaDoorTotals.lean).
  GIVEN WITH THE SEED: the statements are not yours to turn. If you find one false, say at which input.
  Laid BY PROGRAM, IN A SANDBOX (cutbox-rows.mjs): the forced cells as the released guide's own fill.sh prints them over the translation f8fbcaeec434b9d4… (all of the seat's roots in one cut). By AI agents, Wed Nov 11 2026. No macro, syntax, notation, axiom, sorry.
-/
import Derived.Test.YtknbllhkifigbaaDoorChecked
import GoSem.Claim
import GoSem.ClaimJoined
import GoSem.ClaimMapViews
import Derived.JoinedTies
import Derived.KernelRfl
namespace Go.Proofs.YtknbllhkifigbaaDoor
/- THE CELL 'sum', in the pinned program and in every row, IS THE sha256 OF THE DUMP (.gsa) THAT YtknbllhkifigbaaDoorProg.lean LOADS. Nothing in Lean hashes anything: it is a label: what it is worth is what the hold of that sum in a sandbox is worth. -/
noncomputable def Tryd.pinned : Pinned := { name := "ytknbllhkifigbaadoor", sum := "f8fbcaeec434b9d4d7a1a076f0a968b8d8a9ef6bf2a2d2217e96ca05d5895139", checked := Tryd.checked }
namespace Rows
def none {H : Type} : Left H := { results := [], args := [] }

/- WHAT THE LISTED PACKAGE-LEVEL VARIABLES READ AS WHEN THE CALL BEGINS. Each datum BY PROGRAM (the guide's laid-datum.mjs) off the statement by which the dump's own 'gosem.cut.vars' lays the variable. In a bare row this is a premise. The card (YtknbllhkifigbaaDoorCards.lean) ties it to the program's text. -/
def laid_tendril_place_lengths {H : Type} : DataW H := .agg [.lit (.int .i64 1), .lit (.int .i64 4), .lit (.int .i64 5), .lit (.int .i64 3), .lit (.int .i64 1), .lit (.int .i64 1)]

/-- 'tendrillaw03.PlaceMakes': WHATEVER THE INPUT: true; the input reads as it did. -/
def placeMakesSpec : ChangeSpec := { name := "placeMakes", fn := fun _ => fun
  | [d] => { results := [.lit (.bool true)], args := [d] }
  | _ => none }
def placeMakesRow : OpenClaim := { program := "ytknbllhkifigbaadoor", sum := "f8fbcaeec434b9d4d7a1a076f0a968b8d8a9ef6bf2a2d2217e96ca05d5895139", func := "tendril/tendrillaw03.PlaceMakes", spec := "placeMakes", named := ["tendril/place.lengths"], apart := false, laid := [("tendril/place.lengths", laid_tendril_place_lengths)] }
def PlaceMakesSaid : Prop := placeMakesRow.holds Tryd.pinned (OpenSpec.ofChange placeMakesSpec)

/-- ITS FALSE NEIGHBOUR: 'it returns false'. Refute it at one input. -/
def placeMakesWrong : ChangeSpec := { name := "placeMakes", fn := fun _ => fun
  | [d] => { results := [.lit (.bool false)], args := [d] }
  | _ => none }
def PlaceMakesWrongFalsely : Prop := placeMakesRow.holds Tryd.pinned (OpenSpec.ofChange placeMakesWrong)

/-- 'tendrillaw03.PlaceTells': WHATEVER THE INPUT: true; the input reads as it did. -/
def placeTellsSpec : ChangeSpec := { name := "placeTells", fn := fun _ => fun
  | [d1, d2, d3, d4, d5] => { results := [.lit (.bool true)], args := [d1, d2, d3, d4, d5] }
  | _ => none }
def placeTellsRow : OpenClaim := { program := "ytknbllhkifigbaadoor", sum := "f8fbcaeec434b9d4d7a1a076f0a968b8d8a9ef6bf2a2d2217e96ca05d5895139", func := "tendril/tendrillaw03.PlaceTells", spec := "placeTells", named := ["tendril/place.lengths"], apart := false, laid := [("tendril/place.lengths", laid_tendril_place_lengths)] }
def PlaceTellsSaid : Prop := placeTellsRow.holds Tryd.pinned (OpenSpec.ofChange placeTellsSpec)

/-- ITS FALSE NEIGHBOUR: 'it returns false'. Refute it at one input. -/
def placeTellsWrong : ChangeSpec := { name := "placeTells", fn := fun _ => fun
  | [d1, d2, d3, d4, d5] => { results := [.lit (.bool false)], args := [d1, d2, d3, d4, d5] }
  | _ => none }
def PlaceTellsWrongFalsely : Prop := placeTellsRow.holds Tryd.pinned (OpenSpec.ofChange placeTellsWrong)

/-- 'tendrillaw03.PlaceWhere': WHATEVER THE INPUT: true; the input reads as it did. -/
def placeWhereSpec : ChangeSpec := { name := "placeWhere", fn := fun _ => fun
  | [d1, d2] => { results := [.lit (.bool true)], args := [d1, d2] }
  | _ => none }
def placeWhereRow : OpenClaim := { program := "ytknbllhkifigbaadoor", sum := "f8fbcaeec434b9d4d7a1a076f0a968b8d8a9ef6bf2a2d2217e96ca05d5895139", func := "tendril/tendrillaw03.PlaceWhere", spec := "placeWhere", named := ["tendril/place.lengths"], apart := false, laid := [("tendril/place.lengths", laid_tendril_place_lengths)] }
def PlaceWhereSaid : Prop := placeWhereRow.holds Tryd.pinned (OpenSpec.ofChange placeWhereSpec)

/-- ITS FALSE NEIGHBOUR: 'it returns false'. Refute it at one input. -/
def placeWhereWrong : ChangeSpec := { name := "placeWhere", fn := fun _ => fun
  | [d1, d2] => { results := [.lit (.bool false)], args := [d1, d2] }
  | _ => none }
def PlaceWhereWrongFalsely : Prop := placeWhereRow.holds Tryd.pinned (OpenSpec.ofChange placeWhereWrong)

/-- 'tendrillaw03.PlaceBack': WHATEVER THE INPUT: true; the input reads as it did. -/
def placeBackSpec : ChangeSpec := { name := "placeBack", fn := fun _ => fun
  | [d1, d2, d3, d4, d5, d6] => { results := [.lit (.bool true)], args := [d1, d2, d3, d4, d5, d6] }
  | _ => none }
def placeBackRow : OpenClaim := { program := "ytknbllhkifigbaadoor", sum := "f8fbcaeec434b9d4d7a1a076f0a968b8d8a9ef6bf2a2d2217e96ca05d5895139", func := "tendril/tendrillaw03.PlaceBack", spec := "placeBack", named := ["tendril/place.lengths"], apart := false, laid := [("tendril/place.lengths", laid_tendril_place_lengths)] }
def PlaceBackSaid : Prop := placeBackRow.holds Tryd.pinned (OpenSpec.ofChange placeBackSpec)

/-- ITS FALSE NEIGHBOUR: 'it returns false'. Refute it at one input. -/
def placeBackWrong : ChangeSpec := { name := "placeBack", fn := fun _ => fun
  | [d1, d2, d3, d4, d5, d6] => { results := [.lit (.bool false)], args := [d1, d2, d3, d4, d5, d6] }
  | _ => none }
def PlaceBackWrongFalsely : Prop := placeBackRow.holds Tryd.pinned (OpenSpec.ofChange placeBackWrong)

/-- 'tendrillaw03.PlaceApart': WHATEVER THE INPUT: true; the input reads as it did. -/
def placeApartSpec : ChangeSpec := { name := "placeApart", fn := fun _ => fun
  | [d1, d2, d3] => { results := [.lit (.bool true)], args := [d1, d2, d3] }
  | _ => none }
def placeApartRow : OpenClaim := { program := "ytknbllhkifigbaadoor", sum := "f8fbcaeec434b9d4d7a1a076f0a968b8d8a9ef6bf2a2d2217e96ca05d5895139", func := "tendril/tendrillaw03.PlaceApart", spec := "placeApart", named := ["tendril/place.lengths"], apart := false, laid := [("tendril/place.lengths", laid_tendril_place_lengths)] }
def PlaceApartSaid : Prop := placeApartRow.holds Tryd.pinned (OpenSpec.ofChange placeApartSpec)

/-- ITS FALSE NEIGHBOUR: 'it returns false'. Refute it at one input. -/
def placeApartWrong : ChangeSpec := { name := "placeApart", fn := fun _ => fun
  | [d1, d2, d3] => { results := [.lit (.bool false)], args := [d1, d2, d3] }
  | _ => none }
def PlaceApartWrongFalsely : Prop := placeApartRow.holds Tryd.pinned (OpenSpec.ofChange placeApartWrong)

/-- 'tendrillaw03.PlaceSize': WHATEVER THE INPUT: true; the input reads as it did. -/
def placeSizeSpec : ChangeSpec := { name := "placeSize", fn := fun _ => fun
  | [d1, d2] => { results := [.lit (.bool true)], args := [d1, d2] }
  | _ => none }
def placeSizeRow : OpenClaim := { program := "ytknbllhkifigbaadoor", sum := "f8fbcaeec434b9d4d7a1a076f0a968b8d8a9ef6bf2a2d2217e96ca05d5895139", func := "tendril/tendrillaw03.PlaceSize", spec := "placeSize", named := ["tendril/place.lengths"], apart := false, laid := [("tendril/place.lengths", laid_tendril_place_lengths)] }
def PlaceSizeSaid : Prop := placeSizeRow.holds Tryd.pinned (OpenSpec.ofChange placeSizeSpec)

/-- ITS FALSE NEIGHBOUR: 'it returns false'. Refute it at one input. -/
def placeSizeWrong : ChangeSpec := { name := "placeSize", fn := fun _ => fun
  | [d1, d2] => { results := [.lit (.bool false)], args := [d1, d2] }
  | _ => none }
def PlaceSizeWrongFalsely : Prop := placeSizeRow.holds Tryd.pinned (OpenSpec.ofChange placeSizeWrong)

/- THE SECOND FORM. 'bulk': how many values and letters a reading holds, each counted each time it is reached (what is shared counts as often as it is met; a slice's spare places count too). A statement '..UptoSaid' is the law's where the arguments, and the package variables that the reading takes, are together of bulk at most 1048576: NARROWER than '..Said'. Prove '..Said' where nothing that the law and all that it calls make is longer than what came in: it says more and counts as full. Else prove '..UptoSaid'. A law counts once. -/
mutual
def uptoBulk {H : Type} : DataW H → Nat
  | .lit (.string bytes) => bytes.length + 1
  | .lit _ => 1
  | .nil => 1
  | .ptr d => uptoBulk d + 1
  | .slice elems spare => uptoBulkAll elems + uptoBulkAll spare + 1
  | .agg parts => uptoBulkAll parts + 1
  | .iface _ d => uptoBulk d + 1
  | .map entries => uptoBulkEntries entries + 1
  | .held _ => 1
def uptoBulkAll {H : Type} : List (DataW H) → Nat
  | [] => 0
  | d :: r => uptoBulk d + uptoBulkAll r
def uptoBulkEntries {H : Type} : List (Lit × DataW H) → Nat
  | [] => 0
  | x :: r => uptoBulkEntry x + uptoBulkEntries r
def uptoBulkEntry {H : Type} : Lit × DataW H → Nat
  | (.string bytes, d) => bytes.length + uptoBulk d + 1
  | (_, d) => uptoBulk d + 1
 end
def uptoSmall : (H : Type) → List (DataW H) → Bool := fun _ ds => decide (uptoBulkAll ds ≤ 1048576)
def OpenSpec.upto (s : _root_.Go.ChangeSpec) : _root_.Go.OpenSpec := { _root_.Go.OpenSpec.ofChange s with cond := some uptoSmall }

/-- 'tendrillaw03.PlaceMakes', WHERE WHAT IT READS IS OF BULK AT MOST 1048576: true; the input reads as it did. -/
def placeMakesUptoRow : OpenClaim := { program := "ytknbllhkifigbaadoor", sum := "f8fbcaeec434b9d4d7a1a076f0a968b8d8a9ef6bf2a2d2217e96ca05d5895139", func := "tendril/tendrillaw03.PlaceMakes", spec := "placeMakes", named := ["tendril/place.lengths"], apart := false, laid := [("tendril/place.lengths", laid_tendril_place_lengths)], narrowed := true }
def PlaceMakesUptoSaid : Prop := placeMakesUptoRow.holds Tryd.pinned (OpenSpec.upto placeMakesSpec)

/-- 'tendrillaw03.PlaceTells', WHERE WHAT IT READS IS OF BULK AT MOST 1048576: true; the input reads as it did. -/
def placeTellsUptoRow : OpenClaim := { program := "ytknbllhkifigbaadoor", sum := "f8fbcaeec434b9d4d7a1a076f0a968b8d8a9ef6bf2a2d2217e96ca05d5895139", func := "tendril/tendrillaw03.PlaceTells", spec := "placeTells", named := ["tendril/place.lengths"], apart := false, laid := [("tendril/place.lengths", laid_tendril_place_lengths)], narrowed := true }
def PlaceTellsUptoSaid : Prop := placeTellsUptoRow.holds Tryd.pinned (OpenSpec.upto placeTellsSpec)

/-- 'tendrillaw03.PlaceWhere', WHERE WHAT IT READS IS OF BULK AT MOST 1048576: true; the input reads as it did. -/
def placeWhereUptoRow : OpenClaim := { program := "ytknbllhkifigbaadoor", sum := "f8fbcaeec434b9d4d7a1a076f0a968b8d8a9ef6bf2a2d2217e96ca05d5895139", func := "tendril/tendrillaw03.PlaceWhere", spec := "placeWhere", named := ["tendril/place.lengths"], apart := false, laid := [("tendril/place.lengths", laid_tendril_place_lengths)], narrowed := true }
def PlaceWhereUptoSaid : Prop := placeWhereUptoRow.holds Tryd.pinned (OpenSpec.upto placeWhereSpec)

/-- 'tendrillaw03.PlaceBack', WHERE WHAT IT READS IS OF BULK AT MOST 1048576: true; the input reads as it did. -/
def placeBackUptoRow : OpenClaim := { program := "ytknbllhkifigbaadoor", sum := "f8fbcaeec434b9d4d7a1a076f0a968b8d8a9ef6bf2a2d2217e96ca05d5895139", func := "tendril/tendrillaw03.PlaceBack", spec := "placeBack", named := ["tendril/place.lengths"], apart := false, laid := [("tendril/place.lengths", laid_tendril_place_lengths)], narrowed := true }
def PlaceBackUptoSaid : Prop := placeBackUptoRow.holds Tryd.pinned (OpenSpec.upto placeBackSpec)

/-- 'tendrillaw03.PlaceApart', WHERE WHAT IT READS IS OF BULK AT MOST 1048576: true; the input reads as it did. -/
def placeApartUptoRow : OpenClaim := { program := "ytknbllhkifigbaadoor", sum := "f8fbcaeec434b9d4d7a1a076f0a968b8d8a9ef6bf2a2d2217e96ca05d5895139", func := "tendril/tendrillaw03.PlaceApart", spec := "placeApart", named := ["tendril/place.lengths"], apart := false, laid := [("tendril/place.lengths", laid_tendril_place_lengths)], narrowed := true }
def PlaceApartUptoSaid : Prop := placeApartUptoRow.holds Tryd.pinned (OpenSpec.upto placeApartSpec)

/-- 'tendrillaw03.PlaceSize', WHERE WHAT IT READS IS OF BULK AT MOST 1048576: true; the input reads as it did. -/
def placeSizeUptoRow : OpenClaim := { program := "ytknbllhkifigbaadoor", sum := "f8fbcaeec434b9d4d7a1a076f0a968b8d8a9ef6bf2a2d2217e96ca05d5895139", func := "tendril/tendrillaw03.PlaceSize", spec := "placeSize", named := ["tendril/place.lengths"], apart := false, laid := [("tendril/place.lengths", laid_tendril_place_lengths)], narrowed := true }
def PlaceSizeUptoSaid : Prop := placeSizeUptoRow.holds Tryd.pinned (OpenSpec.upto placeSizeSpec)

end Rows
end Go.Proofs.YtknbllhkifigbaaDoor
