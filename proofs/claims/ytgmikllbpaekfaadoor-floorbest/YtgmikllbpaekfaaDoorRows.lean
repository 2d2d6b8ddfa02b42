/-
  NARROWER THAN 'FOR EVERY INPUT', by the rows' own cells (each row's printed sentence says how): FloorPlaces: laid · FloorLines: laid · FloorFits: laid · FloorThrough: laid · FloorBounds: laid · FloorBest: laid.
  DERIVED. THE GIVEN ROWS OF THIS SEAT. 6 by the template 'for every input the law returns true; each argument reads behind the call as it read before'; 0 by the template 'total and deterministic' (their statements: YtgmikllbpaekfaaDoorTotals.lean).
  GIVEN WITH THE SEED: the statements are not yours to turn. If you find one false, say at which input.
  Laid BY PROGRAM, IN A SANDBOX (cutbox-rows.mjs): the forced cells as the released guide's own fill.sh prints them over the translation c68e4824d279845e… (all of the seat's roots in one cut). By AI agents, Wed Nov 11 2026. No macro, syntax, notation, axiom, sorry.
-/
import Derived.Test.YtgmikllbpaekfaaDoorChecked
import GoSem.Claim
import GoSem.ClaimJoined
import GoSem.ClaimMapViews
import Derived.JoinedTies
import Derived.KernelRfl
namespace Go.Proofs.YtgmikllbpaekfaaDoor
/- THE CELL 'sum', in the pinned program and in every row, IS THE sha256 OF THE DUMP (.gsa) THAT YtgmikllbpaekfaaDoorProg.lean LOADS. Nothing in Lean hashes anything: it is a label: what it is worth is what the hold of that sum in a sandbox is worth. -/
noncomputable def Tryd.pinned : Pinned := { name := "ytgmikllbpaekfaadoor", sum := "c68e4824d279845e7c05677c73b50c64da4f1ee9716a7899875f9ec6518db2d0", checked := Tryd.checked }
namespace Rows
def none {H : Type} : Left H := { results := [], args := [] }

/- WHAT THE LISTED PACKAGE-LEVEL VARIABLES READ AS WHEN THE CALL BEGINS. Each datum BY PROGRAM (the guide's laid-datum.mjs) off the statement by which the dump's own 'gosem.cut.vars' lays the variable. In a bare row this is a premise. The card (YtgmikllbpaekfaaDoorCards.lean) ties it to the program's text. -/
def laid_psaltery_floor_places {H : Type} : DataW H := .agg [.lit (.int .i64 0), .lit (.int .i64 1), .lit (.int .i64 2), .lit (.int .i64 4), .lit (.int .i64 8), .lit (.int .i64 15)]

/-- 'psalterylaw14.FloorPlaces': WHATEVER THE INPUT: true; the input reads as it did. -/
def floorPlacesSpec : ChangeSpec := { name := "floorPlaces", fn := fun _ => fun
  | [d1, d2] => { results := [.lit (.bool true)], args := [d1, d2] }
  | _ => none }
def floorPlacesRow : OpenClaim := { program := "ytgmikllbpaekfaadoor", sum := "c68e4824d279845e7c05677c73b50c64da4f1ee9716a7899875f9ec6518db2d0", func := "psaltery/psalterylaw14.FloorPlaces", spec := "floorPlaces", named := ["psaltery/floor.places"], apart := false, laid := [("psaltery/floor.places", laid_psaltery_floor_places)] }
def FloorPlacesSaid : Prop := floorPlacesRow.holds Tryd.pinned (OpenSpec.ofChange floorPlacesSpec)

/-- ITS FALSE NEIGHBOUR: 'it returns false'. Refute it at one input. -/
def floorPlacesWrong : ChangeSpec := { name := "floorPlaces", fn := fun _ => fun
  | [d1, d2] => { results := [.lit (.bool false)], args := [d1, d2] }
  | _ => none }
def FloorPlacesWrongFalsely : Prop := floorPlacesRow.holds Tryd.pinned (OpenSpec.ofChange floorPlacesWrong)

/-- 'psalterylaw14.FloorLines': WHATEVER THE INPUT: true; the input reads as it did. -/
def floorLinesSpec : ChangeSpec := { name := "floorLines", fn := fun _ => fun
  | [d] => { results := [.lit (.bool true)], args := [d] }
  | _ => none }
def floorLinesRow : OpenClaim := { program := "ytgmikllbpaekfaadoor", sum := "c68e4824d279845e7c05677c73b50c64da4f1ee9716a7899875f9ec6518db2d0", func := "psaltery/psalterylaw14.FloorLines", spec := "floorLines", named := ["psaltery/floor.places"], apart := false, laid := [("psaltery/floor.places", laid_psaltery_floor_places)] }
def FloorLinesSaid : Prop := floorLinesRow.holds Tryd.pinned (OpenSpec.ofChange floorLinesSpec)

/-- ITS FALSE NEIGHBOUR: 'it returns false'. Refute it at one input. -/
def floorLinesWrong : ChangeSpec := { name := "floorLines", fn := fun _ => fun
  | [d] => { results := [.lit (.bool false)], args := [d] }
  | _ => none }
def FloorLinesWrongFalsely : Prop := floorLinesRow.holds Tryd.pinned (OpenSpec.ofChange floorLinesWrong)

/-- 'psalterylaw14.FloorFits': WHATEVER THE INPUT: true; the input reads as it did. -/
def floorFitsSpec : ChangeSpec := { name := "floorFits", fn := fun _ => fun
  | [d1, d2] => { results := [.lit (.bool true)], args := [d1, d2] }
  | _ => none }
def floorFitsRow : OpenClaim := { program := "ytgmikllbpaekfaadoor", sum := "c68e4824d279845e7c05677c73b50c64da4f1ee9716a7899875f9ec6518db2d0", func := "psaltery/psalterylaw14.FloorFits", spec := "floorFits", named := ["psaltery/floor.places"], apart := false, laid := [("psaltery/floor.places", laid_psaltery_floor_places)] }
def FloorFitsSaid : Prop := floorFitsRow.holds Tryd.pinned (OpenSpec.ofChange floorFitsSpec)

/-- ITS FALSE NEIGHBOUR: 'it returns false'. Refute it at one input. -/
def floorFitsWrong : ChangeSpec := { name := "floorFits", fn := fun _ => fun
  | [d1, d2] => { results := [.lit (.bool false)], args := [d1, d2] }
  | _ => none }
def FloorFitsWrongFalsely : Prop := floorFitsRow.holds Tryd.pinned (OpenSpec.ofChange floorFitsWrong)

/-- 'psalterylaw14.FloorThrough': WHATEVER THE INPUT: true; the input reads as it did. -/
def floorThroughSpec : ChangeSpec := { name := "floorThrough", fn := fun _ => fun
  | [d] => { results := [.lit (.bool true)], args := [d] }
  | _ => none }
def floorThroughRow : OpenClaim := { program := "ytgmikllbpaekfaadoor", sum := "c68e4824d279845e7c05677c73b50c64da4f1ee9716a7899875f9ec6518db2d0", func := "psaltery/psalterylaw14.FloorThrough", spec := "floorThrough", named := ["psaltery/floor.places"], apart := false, laid := [("psaltery/floor.places", laid_psaltery_floor_places)] }
def FloorThroughSaid : Prop := floorThroughRow.holds Tryd.pinned (OpenSpec.ofChange floorThroughSpec)

/-- ITS FALSE NEIGHBOUR: 'it returns false'. Refute it at one input. -/
def floorThroughWrong : ChangeSpec := { name := "floorThrough", fn := fun _ => fun
  | [d] => { results := [.lit (.bool false)], args := [d] }
  | _ => none }
def FloorThroughWrongFalsely : Prop := floorThroughRow.holds Tryd.pinned (OpenSpec.ofChange floorThroughWrong)

/-- 'psalterylaw14.FloorBounds': WHATEVER THE INPUT: true; the input reads as it did. -/
def floorBoundsSpec : ChangeSpec := { name := "floorBounds", fn := fun _ => fun
  | [d] => { results := [.lit (.bool true)], args := [d] }
  | _ => none }
def floorBoundsRow : OpenClaim := { program := "ytgmikllbpaekfaadoor", sum := "c68e4824d279845e7c05677c73b50c64da4f1ee9716a7899875f9ec6518db2d0", func := "psaltery/psalterylaw14.FloorBounds", spec := "floorBounds", named := ["psaltery/floor.places"], apart := false, laid := [("psaltery/floor.places", laid_psaltery_floor_places)] }
def FloorBoundsSaid : Prop := floorBoundsRow.holds Tryd.pinned (OpenSpec.ofChange floorBoundsSpec)

/-- ITS FALSE NEIGHBOUR: 'it returns false'. Refute it at one input. -/
def floorBoundsWrong : ChangeSpec := { name := "floorBounds", fn := fun _ => fun
  | [d] => { results := [.lit (.bool false)], args := [d] }
  | _ => none }
def FloorBoundsWrongFalsely : Prop := floorBoundsRow.holds Tryd.pinned (OpenSpec.ofChange floorBoundsWrong)

/-- 'psalterylaw14.FloorBest': WHATEVER THE INPUT: true; the input reads as it did. -/
def floorBestSpec : ChangeSpec := { name := "floorBest", fn := fun _ => fun
  | [d1, d2, d3] => { results := [.lit (.bool true)], args := [d1, d2, d3] }
  | _ => none }
def floorBestRow : OpenClaim := { program := "ytgmikllbpaekfaadoor", sum := "c68e4824d279845e7c05677c73b50c64da4f1ee9716a7899875f9ec6518db2d0", func := "psaltery/psalterylaw14.FloorBest", spec := "floorBest", named := ["psaltery/floor.places"], apart := false, laid := [("psaltery/floor.places", laid_psaltery_floor_places)] }
def FloorBestSaid : Prop := floorBestRow.holds Tryd.pinned (OpenSpec.ofChange floorBestSpec)

/-- ITS FALSE NEIGHBOUR: 'it returns false'. Refute it at one input. -/
def floorBestWrong : ChangeSpec := { name := "floorBest", fn := fun _ => fun
  | [d1, d2, d3] => { results := [.lit (.bool false)], args := [d1, d2, d3] }
  | _ => none }
def FloorBestWrongFalsely : Prop := floorBestRow.holds Tryd.pinned (OpenSpec.ofChange floorBestWrong)

/- THE SECOND FORM. 'bulk': how many values and letters a reading holds, each counted each time it is reached (what is shared counts as often as it is met; a slice's spare places count too). A statement '..UptoSaid' is the law's where the arguments, and the package variables that the reading takes, are together of bulk at most 1048576: NARROWER than '..Said'. Prove '..Said' where nothing that the law and all that it calls make is longer than what came in: it says more and counts as full. Else prove '..UptoSaid'. A law counts once. -/
mutual
def uptoBulk {H : Type} : DataW H → Nat
  | .lit (.string bytes) => bytes.length + 1
  | .lit _ => 1
  | .nil => 1
  | .ptr d => uptoBulk d + 1
  | .slice elems spare => uptoBulkAll elems + uptoBulkAll spare + 1
  | .agg parts => uptoBulkAll parts + 1
  | .iface _ d => uptoBulk d + 1
  | .map entries => uptoBulkEntries entries + 1
  | .held _ => 1
def uptoBulkAll {H : Type} : List (DataW H) → Nat
  | [] => 0
  | d :: r => uptoBulk d + uptoBulkAll r
def uptoBulkEntries {H : Type} : List (Lit × DataW H) → Nat
  | [] => 0
  | x :: r => uptoBulkEntry x + uptoBulkEntries r
def uptoBulkEntry {H : Type} : Lit × DataW H → Nat
  | (.string bytes, d) => bytes.length + uptoBulk d + 1
  | (_, d) => uptoBulk d + 1
 end
def uptoSmall : (H : Type) → List (DataW H) → Bool := fun _ ds => decide (uptoBulkAll ds ≤ 1048576)
def OpenSpec.upto (s : _root_.Go.ChangeSpec) : _root_.Go.OpenSpec := { _root_.Go.OpenSpec.ofChange s with cond := some uptoSmall }

/-- 'psalterylaw14.FloorPlaces', WHERE WHAT IT READS IS OF BULK AT MOST 1048576: true; the input reads as it did. -/
def floorPlacesUptoRow : OpenClaim := { program := "ytgmikllbpaekfaadoor", sum := "c68e4824d279845e7c05677c73b50c64da4f1ee9716a7899875f9ec6518db2d0", func := "psaltery/psalterylaw14.FloorPlaces", spec := "floorPlaces", named := ["psaltery/floor.places"], apart := false, laid := [("psaltery/floor.places", laid_psaltery_floor_places)], narrowed := true }
def FloorPlacesUptoSaid : Prop := floorPlacesUptoRow.holds Tryd.pinned (OpenSpec.upto floorPlacesSpec)

/-- 'psalterylaw14.FloorLines', WHERE WHAT IT READS IS OF BULK AT MOST 1048576: true; the input reads as it did. -/
def floorLinesUptoRow : OpenClaim := { program := "ytgmikllbpaekfaadoor", sum := "c68e4824d279845e7c05677c73b50c64da4f1ee9716a7899875f9ec6518db2d0", func := "psaltery/psalterylaw14.FloorLines", spec := "floorLines", named := ["psaltery/floor.places"], apart := false, laid := [("psaltery/floor.places", laid_psaltery_floor_places)], narrowed := true }
def FloorLinesUptoSaid : Prop := floorLinesUptoRow.holds Tryd.pinned (OpenSpec.upto floorLinesSpec)

/-- 'psalterylaw14.FloorFits', WHERE WHAT IT READS IS OF BULK AT MOST 1048576: true; the input reads as it did. -/
def floorFitsUptoRow : OpenClaim := { program := "ytgmikllbpaekfaadoor", sum := "c68e4824d279845e7c05677c73b50c64da4f1ee9716a7899875f9ec6518db2d0", func := "psaltery/psalterylaw14.FloorFits", spec := "floorFits", named := ["psaltery/floor.places"], apart := false, laid := [("psaltery/floor.places", laid_psaltery_floor_places)], narrowed := true }
def FloorFitsUptoSaid : Prop := floorFitsUptoRow.holds Tryd.pinned (OpenSpec.upto floorFitsSpec)

/-- 'psalterylaw14.FloorThrough', WHERE WHAT IT READS IS OF BULK AT MOST 1048576: true; the input reads as it did. -/
def floorThroughUptoRow : OpenClaim := { program := "ytgmikllbpaekfaadoor", sum := "c68e4824d279845e7c05677c73b50c64da4f1ee9716a7899875f9ec6518db2d0", func := "psaltery/psalterylaw14.FloorThrough", spec := "floorThrough", named := ["psaltery/floor.places"], apart := false, laid := [("psaltery/floor.places", laid_psaltery_floor_places)], narrowed := true }
def FloorThroughUptoSaid : Prop := floorThroughUptoRow.holds Tryd.pinned (OpenSpec.upto floorThroughSpec)

/-- 'psalterylaw14.FloorBounds', WHERE WHAT IT READS IS OF BULK AT MOST 1048576: true; the input reads as it did. -/
def floorBoundsUptoRow : OpenClaim := { program := "ytgmikllbpaekfaadoor", sum := "c68e4824d279845e7c05677c73b50c64da4f1ee9716a7899875f9ec6518db2d0", func := "psaltery/psalterylaw14.FloorBounds", spec := "floorBounds", named := ["psaltery/floor.places"], apart := false, laid := [("psaltery/floor.places", laid_psaltery_floor_places)], narrowed := true }
def FloorBoundsUptoSaid : Prop := floorBoundsUptoRow.holds Tryd.pinned (OpenSpec.upto floorBoundsSpec)

/-- 'psalterylaw14.FloorBest', WHERE WHAT IT READS IS OF BULK AT MOST 1048576: true; the input reads as it did. -/
def floorBestUptoRow : OpenClaim := { program := "ytgmikllbpaekfaadoor", sum := "c68e4824d279845e7c05677c73b50c64da4f1ee9716a7899875f9ec6518db2d0", func := "psaltery/psalterylaw14.FloorBest", spec := "floorBest", named := ["psaltery/floor.places"], apart := false, laid := [("psaltery/floor.places", laid_psaltery_floor_places)], narrowed := true }
def FloorBestUptoSaid : Prop := floorBestUptoRow.holds Tryd.pinned (OpenSpec.upto floorBestSpec)

end Rows
end Go.Proofs.YtgmikllbpaekfaaDoor
