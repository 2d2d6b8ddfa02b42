/-
  No cell of these rows narrows 'for every input' (looked for: loops, veiled, ifaces, maps, wideKeys, modest, calm, conditions, laid).
  DERIVED. THE GIVEN ROWS OF THIS SEAT. 6 by the template 'for every input the law returns true; each argument reads behind the call as it read before'; 0 by the template 'total and deterministic' (their statements: YtpmpdikabdaagaaTotals.lean).
  GIVEN WITH THE SEED: the statements are not yours to turn. If you find one false, say at which input.
  Laid BY PROGRAM, IN A SANDBOX (cutbox-rows.mjs): the forced cells as the released guide's own fill.sh prints them over the translation b318a5714b92f73b… (all of the seat's roots in one cut). By AI agents, Wed Nov 11 2026. No macro, syntax, notation, axiom, sorry.
-/
import Derived.Test.YtpmpdikabdaagaaChecked
import GoSem.Claim
import GoSem.ClaimJoined
import GoSem.ClaimMapViews
import Derived.JoinedTies
import Derived.KernelRfl
namespace Go.Proofs.Ytpmpdikabdaagaa
/- THE CELL 'sum', in the pinned program and in every row, IS THE sha256 OF THE DUMP (.gsa) THAT YtpmpdikabdaagaaProg.lean LOADS. Nothing in Lean hashes anything: it is a label: what it is worth is what the hold of that sum in a sandbox is worth. -/
noncomputable def Try.pinned : Pinned := { name := "ytpmpdikabdaagaa", sum := "b318a5714b92f73b4de8715f4fc7be2176a11019b6a8acfc385743a58e2c9b00", checked := Try.checked }
namespace Rows
def none {H : Type} : Left H := { results := [], args := [] }

/-- 'psalterylaw10.BandPlaces': WHATEVER THE INPUT: true; the input reads as it did. -/
def bandPlacesSpec : ChangeSpec := { name := "bandPlaces", fn := fun _ => fun
  | [d1, d2] => { results := [.lit (.bool true)], args := [d1, d2] }
  | _ => none }
def bandPlacesRow : OpenClaim := { program := "ytpmpdikabdaagaa", sum := "b318a5714b92f73b4de8715f4fc7be2176a11019b6a8acfc385743a58e2c9b00", func := "psaltery/psalterylaw10.BandPlaces", spec := "bandPlaces", apart := false }
def BandPlacesSaid : Prop := bandPlacesRow.holds Try.pinned (OpenSpec.ofChange bandPlacesSpec)

/-- ITS FALSE NEIGHBOUR: 'it returns false'. Refute it at one input. -/
def bandPlacesWrong : ChangeSpec := { name := "bandPlaces", fn := fun _ => fun
  | [d1, d2] => { results := [.lit (.bool false)], args := [d1, d2] }
  | _ => none }
def BandPlacesWrongFalsely : Prop := bandPlacesRow.holds Try.pinned (OpenSpec.ofChange bandPlacesWrong)

/-- 'psalterylaw10.BandGains': WHATEVER THE INPUT: true; the input reads as it did. -/
def bandGainsSpec : ChangeSpec := { name := "bandGains", fn := fun _ => fun
  | [d] => { results := [.lit (.bool true)], args := [d] }
  | _ => none }
def bandGainsRow : OpenClaim := { program := "ytpmpdikabdaagaa", sum := "b318a5714b92f73b4de8715f4fc7be2176a11019b6a8acfc385743a58e2c9b00", func := "psaltery/psalterylaw10.BandGains", spec := "bandGains", apart := false }
def BandGainsSaid : Prop := bandGainsRow.holds Try.pinned (OpenSpec.ofChange bandGainsSpec)

/-- ITS FALSE NEIGHBOUR: 'it returns false'. Refute it at one input. -/
def bandGainsWrong : ChangeSpec := { name := "bandGains", fn := fun _ => fun
  | [d] => { results := [.lit (.bool false)], args := [d] }
  | _ => none }
def BandGainsWrongFalsely : Prop := bandGainsRow.holds Try.pinned (OpenSpec.ofChange bandGainsWrong)

/-- 'psalterylaw10.BandSplits': WHATEVER THE INPUT: true; the input reads as it did. -/
def bandSplitsSpec : ChangeSpec := { name := "bandSplits", fn := fun _ => fun
  | [d] => { results := [.lit (.bool true)], args := [d] }
  | _ => none }
def bandSplitsRow : OpenClaim := { program := "ytpmpdikabdaagaa", sum := "b318a5714b92f73b4de8715f4fc7be2176a11019b6a8acfc385743a58e2c9b00", func := "psaltery/psalterylaw10.BandSplits", spec := "bandSplits", apart := false }
def BandSplitsSaid : Prop := bandSplitsRow.holds Try.pinned (OpenSpec.ofChange bandSplitsSpec)

/-- ITS FALSE NEIGHBOUR: 'it returns false'. Refute it at one input. -/
def bandSplitsWrong : ChangeSpec := { name := "bandSplits", fn := fun _ => fun
  | [d] => { results := [.lit (.bool false)], args := [d] }
  | _ => none }
def BandSplitsWrongFalsely : Prop := bandSplitsRow.holds Try.pinned (OpenSpec.ofChange bandSplitsWrong)

/-- 'psalterylaw10.BandNear': WHATEVER THE INPUT: true; the input reads as it did. -/
def bandNearSpec : ChangeSpec := { name := "bandNear", fn := fun _ => fun
  | [d] => { results := [.lit (.bool true)], args := [d] }
  | _ => none }
def bandNearRow : OpenClaim := { program := "ytpmpdikabdaagaa", sum := "b318a5714b92f73b4de8715f4fc7be2176a11019b6a8acfc385743a58e2c9b00", func := "psaltery/psalterylaw10.BandNear", spec := "bandNear", apart := false }
def BandNearSaid : Prop := bandNearRow.holds Try.pinned (OpenSpec.ofChange bandNearSpec)

/-- ITS FALSE NEIGHBOUR: 'it returns false'. Refute it at one input. -/
def bandNearWrong : ChangeSpec := { name := "bandNear", fn := fun _ => fun
  | [d] => { results := [.lit (.bool false)], args := [d] }
  | _ => none }
def BandNearWrongFalsely : Prop := bandNearRow.holds Try.pinned (OpenSpec.ofChange bandNearWrong)

/-- 'psalterylaw10.BandRises': WHATEVER THE INPUT: true; the input reads as it did. -/
def bandRisesSpec : ChangeSpec := { name := "bandRises", fn := fun _ => fun
  | [d1, d2] => { results := [.lit (.bool true)], args := [d1, d2] }
  | _ => none }
def bandRisesRow : OpenClaim := { program := "ytpmpdikabdaagaa", sum := "b318a5714b92f73b4de8715f4fc7be2176a11019b6a8acfc385743a58e2c9b00", func := "psaltery/psalterylaw10.BandRises", spec := "bandRises", apart := false }
def BandRisesSaid : Prop := bandRisesRow.holds Try.pinned (OpenSpec.ofChange bandRisesSpec)

/-- ITS FALSE NEIGHBOUR: 'it returns false'. Refute it at one input. -/
def bandRisesWrong : ChangeSpec := { name := "bandRises", fn := fun _ => fun
  | [d1, d2] => { results := [.lit (.bool false)], args := [d1, d2] }
  | _ => none }
def BandRisesWrongFalsely : Prop := bandRisesRow.holds Try.pinned (OpenSpec.ofChange bandRisesWrong)

/-- 'psalterylaw10.BandOwn': WHATEVER THE INPUT: true; the input reads as it did. -/
def bandOwnSpec : ChangeSpec := { name := "bandOwn", fn := fun _ => fun
  | [d] => { results := [.lit (.bool true)], args := [d] }
  | _ => none }
def bandOwnRow : OpenClaim := { program := "ytpmpdikabdaagaa", sum := "b318a5714b92f73b4de8715f4fc7be2176a11019b6a8acfc385743a58e2c9b00", func := "psaltery/psalterylaw10.BandOwn", spec := "bandOwn", apart := false }
def BandOwnSaid : Prop := bandOwnRow.holds Try.pinned (OpenSpec.ofChange bandOwnSpec)

/-- ITS FALSE NEIGHBOUR: 'it returns false'. Refute it at one input. -/
def bandOwnWrong : ChangeSpec := { name := "bandOwn", fn := fun _ => fun
  | [d] => { results := [.lit (.bool false)], args := [d] }
  | _ => none }
def BandOwnWrongFalsely : Prop := bandOwnRow.holds Try.pinned (OpenSpec.ofChange bandOwnWrong)

/- THE SECOND FORM. 'bulk': how many values and letters a reading holds, each counted each time it is reached (what is shared counts as often as it is met; a slice's spare places count too). A statement '..UptoSaid' is the law's where the arguments, and the package variables that the reading takes, are together of bulk at most 1048576: NARROWER than '..Said'. Prove '..Said' where nothing that the law and all that it calls make is longer than what came in: it says more and counts as full. Else prove '..UptoSaid'. A law counts once. -/
mutual
def uptoBulk {H : Type} : DataW H → Nat
  | .lit (.string bytes) => bytes.length + 1
  | .lit _ => 1
  | .nil => 1
  | .ptr d => uptoBulk d + 1
  | .slice elems spare => uptoBulkAll elems + uptoBulkAll spare + 1
  | .agg parts => uptoBulkAll parts + 1
  | .iface _ d => uptoBulk d + 1
  | .map entries => uptoBulkEntries entries + 1
  | .held _ => 1
def uptoBulkAll {H : Type} : List (DataW H) → Nat
  | [] => 0
  | d :: r => uptoBulk d + uptoBulkAll r
def uptoBulkEntries {H : Type} : List (Lit × DataW H) → Nat
  | [] => 0
  | x :: r => uptoBulkEntry x + uptoBulkEntries r
def uptoBulkEntry {H : Type} : Lit × DataW H → Nat
  | (.string bytes, d) => bytes.length + uptoBulk d + 1
  | (_, d) => uptoBulk d + 1
 end
def uptoSmall : (H : Type) → List (DataW H) → Bool := fun _ ds => decide (uptoBulkAll ds ≤ 1048576)
def OpenSpec.upto (s : _root_.Go.ChangeSpec) : _root_.Go.OpenSpec := { _root_.Go.OpenSpec.ofChange s with cond := some uptoSmall }

/-- 'psalterylaw10.BandPlaces', WHERE WHAT IT READS IS OF BULK AT MOST 1048576: true; the input reads as it did. -/
def bandPlacesUptoRow : OpenClaim := { program := "ytpmpdikabdaagaa", sum := "b318a5714b92f73b4de8715f4fc7be2176a11019b6a8acfc385743a58e2c9b00", func := "psaltery/psalterylaw10.BandPlaces", spec := "bandPlaces", apart := false, narrowed := true }
def BandPlacesUptoSaid : Prop := bandPlacesUptoRow.holds Try.pinned (OpenSpec.upto bandPlacesSpec)

/-- 'psalterylaw10.BandGains', WHERE WHAT IT READS IS OF BULK AT MOST 1048576: true; the input reads as it did. -/
def bandGainsUptoRow : OpenClaim := { program := "ytpmpdikabdaagaa", sum := "b318a5714b92f73b4de8715f4fc7be2176a11019b6a8acfc385743a58e2c9b00", func := "psaltery/psalterylaw10.BandGains", spec := "bandGains", apart := false, narrowed := true }
def BandGainsUptoSaid : Prop := bandGainsUptoRow.holds Try.pinned (OpenSpec.upto bandGainsSpec)

/-- 'psalterylaw10.BandSplits', WHERE WHAT IT READS IS OF BULK AT MOST 1048576: true; the input reads as it did. -/
def bandSplitsUptoRow : OpenClaim := { program := "ytpmpdikabdaagaa", sum := "b318a5714b92f73b4de8715f4fc7be2176a11019b6a8acfc385743a58e2c9b00", func := "psaltery/psalterylaw10.BandSplits", spec := "bandSplits", apart := false, narrowed := true }
def BandSplitsUptoSaid : Prop := bandSplitsUptoRow.holds Try.pinned (OpenSpec.upto bandSplitsSpec)

/-- 'psalterylaw10.BandNear', WHERE WHAT IT READS IS OF BULK AT MOST 1048576: true; the input reads as it did. -/
def bandNearUptoRow : OpenClaim := { program := "ytpmpdikabdaagaa", sum := "b318a5714b92f73b4de8715f4fc7be2176a11019b6a8acfc385743a58e2c9b00", func := "psaltery/psalterylaw10.BandNear", spec := "bandNear", apart := false, narrowed := true }
def BandNearUptoSaid : Prop := bandNearUptoRow.holds Try.pinned (OpenSpec.upto bandNearSpec)

/-- 'psalterylaw10.BandRises', WHERE WHAT IT READS IS OF BULK AT MOST 1048576: true; the input reads as it did. -/
def bandRisesUptoRow : OpenClaim := { program := "ytpmpdikabdaagaa", sum := "b318a5714b92f73b4de8715f4fc7be2176a11019b6a8acfc385743a58e2c9b00", func := "psaltery/psalterylaw10.BandRises", spec := "bandRises", apart := false, narrowed := true }
def BandRisesUptoSaid : Prop := bandRisesUptoRow.holds Try.pinned (OpenSpec.upto bandRisesSpec)

/-- 'psalterylaw10.BandOwn', WHERE WHAT IT READS IS OF BULK AT MOST 1048576: true; the input reads as it did. -/
def bandOwnUptoRow : OpenClaim := { program := "ytpmpdikabdaagaa", sum := "b318a5714b92f73b4de8715f4fc7be2176a11019b6a8acfc385743a58e2c9b00", func := "psaltery/psalterylaw10.BandOwn", spec := "bandOwn", apart := false, narrowed := true }
def BandOwnUptoSaid : Prop := bandOwnUptoRow.holds Try.pinned (OpenSpec.upto bandOwnSpec)

end Rows
end Go.Proofs.Ytpmpdikabdaagaa
