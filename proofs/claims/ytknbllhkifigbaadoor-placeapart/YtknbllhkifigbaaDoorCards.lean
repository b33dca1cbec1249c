/-
  DERIVED. GIVEN WITH THE SEED: THE CARDS: each row of YtknbllhkifigbaaDoorRows.lean that lists a variable, with what it lists TIED to the program's text (the seventh form; the later family's looks); each row that meets fmt, with fmt's text TOLD by the authors' own Lean function (tested against real Go, not proved from fmt's source: count such statements apart). THE CARD IS WHAT COUNTS. Prove the row's statement (the work); the ties are given (YtknbllhkifigbaaDoorTie.lean); close each card by the builder's one call (the guide's Derived/Test/ToyasCard.lean, 'card_holds'). Laid BY PROGRAM, IN A SANDBOX (cutbox-door.mjs). By AI agents, Wed Nov 11 2026. No macro, syntax, notation, axiom, sorry.
-/
import Derived.Test.YtknbllhkifigbaaDoorRows
import GoSem.ClaimSeven
namespace Go.Proofs.YtknbllhkifigbaaDoor
namespace Rows

/-- THE TIED CARD OF 'tendrillaw03.PlaceMakes'. -/
def placeMakesCard : Claim7 := { stood := { row := placeMakesRow, standIns := [], harness := (true, "442dd6be2436c956687250717f12b8bfee1fcf7e0386f11ce72f4eac86cb00ed"), looks := false }, kinds := [], alts := [], laidByText := true, laidKinds := [.data], laidTests := true, laidLooks := .later }
def PlaceMakesCardSaid : Prop := Claim7.holds Tryd.pinned (.plain (OpenSpec.ofChange placeMakesSpec)) placeMakesCard

/-- THE TIED CARD OF 'tendrillaw03.PlaceTells'. -/
def placeTellsCard : Claim7 := { stood := { row := placeTellsRow, standIns := [], harness := (true, "442dd6be2436c956687250717f12b8bfee1fcf7e0386f11ce72f4eac86cb00ed"), looks := false }, kinds := [], alts := [], laidByText := true, laidKinds := [.data], laidTests := true, laidLooks := .later }
def PlaceTellsCardSaid : Prop := Claim7.holds Tryd.pinned (.plain (OpenSpec.ofChange placeTellsSpec)) placeTellsCard

/-- THE TIED CARD OF 'tendrillaw03.PlaceWhere'. -/
def placeWhereCard : Claim7 := { stood := { row := placeWhereRow, standIns := [], harness := (true, "442dd6be2436c956687250717f12b8bfee1fcf7e0386f11ce72f4eac86cb00ed"), looks := false }, kinds := [], alts := [], laidByText := true, laidKinds := [.data], laidTests := true, laidLooks := .later }
def PlaceWhereCardSaid : Prop := Claim7.holds Tryd.pinned (.plain (OpenSpec.ofChange placeWhereSpec)) placeWhereCard

/-- THE TIED CARD OF 'tendrillaw03.PlaceBack'. -/
def placeBackCard : Claim7 := { stood := { row := placeBackRow, standIns := [], harness := (true, "442dd6be2436c956687250717f12b8bfee1fcf7e0386f11ce72f4eac86cb00ed"), looks := false }, kinds := [], alts := [], laidByText := true, laidKinds := [.data], laidTests := true, laidLooks := .later }
def PlaceBackCardSaid : Prop := Claim7.holds Tryd.pinned (.plain (OpenSpec.ofChange placeBackSpec)) placeBackCard

/-- THE TIED CARD OF 'tendrillaw03.PlaceApart'. -/
def placeApartCard : Claim7 := { stood := { row := placeApartRow, standIns := [], harness := (true, "442dd6be2436c956687250717f12b8bfee1fcf7e0386f11ce72f4eac86cb00ed"), looks := false }, kinds := [], alts := [], laidByText := true, laidKinds := [.data], laidTests := true, laidLooks := .later }
def PlaceApartCardSaid : Prop := Claim7.holds Tryd.pinned (.plain (OpenSpec.ofChange placeApartSpec)) placeApartCard

/-- THE TIED CARD OF 'tendrillaw03.PlaceSize'. -/
def placeSizeCard : Claim7 := { stood := { row := placeSizeRow, standIns := [], harness := (true, "442dd6be2436c956687250717f12b8bfee1fcf7e0386f11ce72f4eac86cb00ed"), looks := false }, kinds := [], alts := [], laidByText := true, laidKinds := [.data], laidTests := true, laidLooks := .later }
def PlaceSizeCardSaid : Prop := Claim7.holds Tryd.pinned (.plain (OpenSpec.ofChange placeSizeSpec)) placeSizeCard

/-- THE SECOND FORM's CARD OF 'tendrillaw03.PlaceMakes'. -/
def placeMakesUptoCard : Claim7 := { stood := { row := placeMakesUptoRow, standIns := [], harness := (true, "442dd6be2436c956687250717f12b8bfee1fcf7e0386f11ce72f4eac86cb00ed"), looks := false }, kinds := [], alts := [], laidByText := true, laidKinds := [.data], laidTests := true, laidLooks := .later }
def PlaceMakesUptoCardSaid : Prop := Claim7.holds Tryd.pinned (.plain (OpenSpec.upto placeMakesSpec)) placeMakesUptoCard

/-- THE SECOND FORM's CARD OF 'tendrillaw03.PlaceTells'. -/
def placeTellsUptoCard : Claim7 := { stood := { row := placeTellsUptoRow, standIns := [], harness := (true, "442dd6be2436c956687250717f12b8bfee1fcf7e0386f11ce72f4eac86cb00ed"), looks := false }, kinds := [], alts := [], laidByText := true, laidKinds := [.data], laidTests := true, laidLooks := .later }
def PlaceTellsUptoCardSaid : Prop := Claim7.holds Tryd.pinned (.plain (OpenSpec.upto placeTellsSpec)) placeTellsUptoCard

/-- THE SECOND FORM's CARD OF 'tendrillaw03.PlaceWhere'. -/
def placeWhereUptoCard : Claim7 := { stood := { row := placeWhereUptoRow, standIns := [], harness := (true, "442dd6be2436c956687250717f12b8bfee1fcf7e0386f11ce72f4eac86cb00ed"), looks := false }, kinds := [], alts := [], laidByText := true, laidKinds := [.data], laidTests := true, laidLooks := .later }
def PlaceWhereUptoCardSaid : Prop := Claim7.holds Tryd.pinned (.plain (OpenSpec.upto placeWhereSpec)) placeWhereUptoCard

/-- THE SECOND FORM's CARD OF 'tendrillaw03.PlaceBack'. -/
def placeBackUptoCard : Claim7 := { stood := { row := placeBackUptoRow, standIns := [], harness := (true, "442dd6be2436c956687250717f12b8bfee1fcf7e0386f11ce72f4eac86cb00ed"), looks := false }, kinds := [], alts := [], laidByText := true, laidKinds := [.data], laidTests := true, laidLooks := .later }
def PlaceBackUptoCardSaid : Prop := Claim7.holds Tryd.pinned (.plain (OpenSpec.upto placeBackSpec)) placeBackUptoCard

/-- THE SECOND FORM's CARD OF 'tendrillaw03.PlaceApart'. -/
def placeApartUptoCard : Claim7 := { stood := { row := placeApartUptoRow, standIns := [], harness := (true, "442dd6be2436c956687250717f12b8bfee1fcf7e0386f11ce72f4eac86cb00ed"), looks := false }, kinds := [], alts := [], laidByText := true, laidKinds := [.data], laidTests := true, laidLooks := .later }
def PlaceApartUptoCardSaid : Prop := Claim7.holds Tryd.pinned (.plain (OpenSpec.upto placeApartSpec)) placeApartUptoCard

/-- THE SECOND FORM's CARD OF 'tendrillaw03.PlaceSize'. -/
def placeSizeUptoCard : Claim7 := { stood := { row := placeSizeUptoRow, standIns := [], harness := (true, "442dd6be2436c956687250717f12b8bfee1fcf7e0386f11ce72f4eac86cb00ed"), looks := false }, kinds := [], alts := [], laidByText := true, laidKinds := [.data], laidTests := true, laidLooks := .later }
def PlaceSizeUptoCardSaid : Prop := Claim7.holds Tryd.pinned (.plain (OpenSpec.upto placeSizeSpec)) placeSizeUptoCard
end Rows
end Go.Proofs.YtknbllhkifigbaaDoor
