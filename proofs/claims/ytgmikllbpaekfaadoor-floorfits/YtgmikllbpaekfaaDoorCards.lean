/-
  DERIVED. GIVEN WITH THE SEED: THE CARDS: each row of YtgmikllbpaekfaaDoorRows.lean that lists a variable, with what it lists TIED to the program's text (the seventh form; the later family's looks); each row that meets fmt, with fmt's text TOLD by the authors' own Lean function (tested against real Go, not proved from fmt's source: count such statements apart). THE CARD IS WHAT COUNTS. Prove the row's statement (the work); the ties are given (YtgmikllbpaekfaaDoorTie.lean); close each card by the builder's one call (the guide's Derived/Test/ToyasCard.lean, 'card_holds'). Laid BY PROGRAM, IN A SANDBOX (cutbox-door.mjs). By AI agents, Wed Nov 11 2026. No macro, syntax, notation, axiom, sorry.
-/
import Derived.Test.YtgmikllbpaekfaaDoorRows
import GoSem.ClaimSeven
namespace Go.Proofs.YtgmikllbpaekfaaDoor
namespace Rows

/-- THE TIED CARD OF 'psalterylaw14.FloorPlaces'. -/
def floorPlacesCard : Claim7 := { stood := { row := floorPlacesRow, standIns := [], harness := (true, "5f5139c8d220193f437a2cd2ffaec1b4e19aa1dc59a741194b095f4b137c78d1"), looks := false }, kinds := [], alts := [], laidByText := true, laidKinds := [.data], laidTests := true, laidLooks := .later }
def FloorPlacesCardSaid : Prop := Claim7.holds Tryd.pinned (.plain (OpenSpec.ofChange floorPlacesSpec)) floorPlacesCard

/-- THE TIED CARD OF 'psalterylaw14.FloorLines'. -/
def floorLinesCard : Claim7 := { stood := { row := floorLinesRow, standIns := [], harness := (true, "5f5139c8d220193f437a2cd2ffaec1b4e19aa1dc59a741194b095f4b137c78d1"), looks := false }, kinds := [], alts := [], laidByText := true, laidKinds := [.data], laidTests := true, laidLooks := .later }
def FloorLinesCardSaid : Prop := Claim7.holds Tryd.pinned (.plain (OpenSpec.ofChange floorLinesSpec)) floorLinesCard

/-- THE TIED CARD OF 'psalterylaw14.FloorFits'. -/
def floorFitsCard : Claim7 := { stood := { row := floorFitsRow, standIns := [], harness := (true, "5f5139c8d220193f437a2cd2ffaec1b4e19aa1dc59a741194b095f4b137c78d1"), looks := false }, kinds := [], alts := [], laidByText := true, laidKinds := [.data], laidTests := true, laidLooks := .later }
def FloorFitsCardSaid : Prop := Claim7.holds Tryd.pinned (.plain (OpenSpec.ofChange floorFitsSpec)) floorFitsCard

/-- THE TIED CARD OF 'psalterylaw14.FloorThrough'. -/
def floorThroughCard : Claim7 := { stood := { row := floorThroughRow, standIns := [], harness := (true, "5f5139c8d220193f437a2cd2ffaec1b4e19aa1dc59a741194b095f4b137c78d1"), looks := false }, kinds := [], alts := [], laidByText := true, laidKinds := [.data], laidTests := true, laidLooks := .later }
def FloorThroughCardSaid : Prop := Claim7.holds Tryd.pinned (.plain (OpenSpec.ofChange floorThroughSpec)) floorThroughCard

/-- THE TIED CARD OF 'psalterylaw14.FloorBounds'. -/
def floorBoundsCard : Claim7 := { stood := { row := floorBoundsRow, standIns := [], harness := (true, "5f5139c8d220193f437a2cd2ffaec1b4e19aa1dc59a741194b095f4b137c78d1"), looks := false }, kinds := [], alts := [], laidByText := true, laidKinds := [.data], laidTests := true, laidLooks := .later }
def FloorBoundsCardSaid : Prop := Claim7.holds Tryd.pinned (.plain (OpenSpec.ofChange floorBoundsSpec)) floorBoundsCard

/-- THE TIED CARD OF 'psalterylaw14.FloorBest'. -/
def floorBestCard : Claim7 := { stood := { row := floorBestRow, standIns := [], harness := (true, "5f5139c8d220193f437a2cd2ffaec1b4e19aa1dc59a741194b095f4b137c78d1"), looks := false }, kinds := [], alts := [], laidByText := true, laidKinds := [.data], laidTests := true, laidLooks := .later }
def FloorBestCardSaid : Prop := Claim7.holds Tryd.pinned (.plain (OpenSpec.ofChange floorBestSpec)) floorBestCard

/-- THE SECOND FORM's CARD OF 'psalterylaw14.FloorPlaces'. -/
def floorPlacesUptoCard : Claim7 := { stood := { row := floorPlacesUptoRow, standIns := [], harness := (true, "5f5139c8d220193f437a2cd2ffaec1b4e19aa1dc59a741194b095f4b137c78d1"), looks := false }, kinds := [], alts := [], laidByText := true, laidKinds := [.data], laidTests := true, laidLooks := .later }
def FloorPlacesUptoCardSaid : Prop := Claim7.holds Tryd.pinned (.plain (OpenSpec.upto floorPlacesSpec)) floorPlacesUptoCard

/-- THE SECOND FORM's CARD OF 'psalterylaw14.FloorLines'. -/
def floorLinesUptoCard : Claim7 := { stood := { row := floorLinesUptoRow, standIns := [], harness := (true, "5f5139c8d220193f437a2cd2ffaec1b4e19aa1dc59a741194b095f4b137c78d1"), looks := false }, kinds := [], alts := [], laidByText := true, laidKinds := [.data], laidTests := true, laidLooks := .later }
def FloorLinesUptoCardSaid : Prop := Claim7.holds Tryd.pinned (.plain (OpenSpec.upto floorLinesSpec)) floorLinesUptoCard

/-- THE SECOND FORM's CARD OF 'psalterylaw14.FloorFits'. -/
def floorFitsUptoCard : Claim7 := { stood := { row := floorFitsUptoRow, standIns := [], harness := (true, "5f5139c8d220193f437a2cd2ffaec1b4e19aa1dc59a741194b095f4b137c78d1"), looks := false }, kinds := [], alts := [], laidByText := true, laidKinds := [.data], laidTests := true, laidLooks := .later }
def FloorFitsUptoCardSaid : Prop := Claim7.holds Tryd.pinned (.plain (OpenSpec.upto floorFitsSpec)) floorFitsUptoCard

/-- THE SECOND FORM's CARD OF 'psalterylaw14.FloorThrough'. -/
def floorThroughUptoCard : Claim7 := { stood := { row := floorThroughUptoRow, standIns := [], harness := (true, "5f5139c8d220193f437a2cd2ffaec1b4e19aa1dc59a741194b095f4b137c78d1"), looks := false }, kinds := [], alts := [], laidByText := true, laidKinds := [.data], laidTests := true, laidLooks := .later }
def FloorThroughUptoCardSaid : Prop := Claim7.holds Tryd.pinned (.plain (OpenSpec.upto floorThroughSpec)) floorThroughUptoCard

/-- THE SECOND FORM's CARD OF 'psalterylaw14.FloorBounds'. -/
def floorBoundsUptoCard : Claim7 := { stood := { row := floorBoundsUptoRow, standIns := [], harness := (true, "5f5139c8d220193f437a2cd2ffaec1b4e19aa1dc59a741194b095f4b137c78d1"), looks := false }, kinds := [], alts := [], laidByText := true, laidKinds := [.data], laidTests := true, laidLooks := .later }
def FloorBoundsUptoCardSaid : Prop := Claim7.holds Tryd.pinned (.plain (OpenSpec.upto floorBoundsSpec)) floorBoundsUptoCard

/-- THE SECOND FORM's CARD OF 'psalterylaw14.FloorBest'. -/
def floorBestUptoCard : Claim7 := { stood := { row := floorBestUptoRow, standIns := [], harness := (true, "5f5139c8d220193f437a2cd2ffaec1b4e19aa1dc59a741194b095f4b137c78d1"), looks := false }, kinds := [], alts := [], laidByText := true, laidKinds := [.data], laidTests := true, laidLooks := .later }
def FloorBestUptoCardSaid : Prop := Claim7.holds Tryd.pinned (.plain (OpenSpec.upto floorBestSpec)) floorBestUptoCard
end Rows
end Go.Proofs.YtgmikllbpaekfaaDoor
