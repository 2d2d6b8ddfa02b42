/-
  No cell of these rows narrows 'for every input' (looked for: loops, veiled, ifaces, maps, wideKeys, modest, calm, conditions, laid).
  DERIVED. THE GIVEN ROWS OF THIS SEAT. 7 by the template 'for every input the law returns true; each argument reads behind the call as it read before'; 0 by the template 'total and deterministic' (their statements: YtfaoiophphofjaaTotals.lean).
  GIVEN WITH THE SEED: the statements are not yours to turn. If you find one false, say at which input.
  Laid BY PROGRAM, IN A SANDBOX (cutbox-rows.mjs): the forced cells as the released guide's own fill.sh prints them over the translation 52dd872996978306… (all of the seat's roots in one cut). By AI agents, Wed Nov 11 2026. No macro, syntax, notation, axiom, sorry.
-/
import Derived.Test.YtfaoiophphofjaaChecked
import GoSem.Claim
import GoSem.ClaimJoined
import GoSem.ClaimMapViews
import Derived.JoinedTies
import Derived.KernelRfl
namespace Go.Proofs.Ytfaoiophphofjaa
/- THE CELL 'sum', in the pinned program and in every row, IS THE sha256 OF THE DUMP (.gsa) THAT YtfaoiophphofjaaProg.lean LOADS. Nothing in Lean hashes anything: it is a label: what it is worth is what the hold of that sum in a sandbox is worth. -/
noncomputable def Try.pinned : Pinned := { name := "ytfaoiophphofjaa", sum := "52dd8729969783063d9d1c7f7bc122383f87b50bd0c9904f63e3ce744b8a9688", checked := Try.checked }
namespace Rows
def none {H : Type} : Left H := { results := [], args := [] }

/-- 'psalterylaw06.CombCounts': WHATEVER THE INPUT: true; the input reads as it did. -/
def combCountsSpec : ChangeSpec := { name := "combCounts", fn := fun _ => fun
  | [d1, d2] => { results := [.lit (.bool true)], args := [d1, d2] }
  | _ => none }
def combCountsRow : OpenClaim := { program := "ytfaoiophphofjaa", sum := "52dd8729969783063d9d1c7f7bc122383f87b50bd0c9904f63e3ce744b8a9688", func := "psaltery/psalterylaw06.CombCounts", spec := "combCounts", recurses := true, apart := false }
def CombCountsSaid : Prop := combCountsRow.holds Try.pinned (OpenSpec.ofChange combCountsSpec)

/-- ITS FALSE NEIGHBOUR: 'it returns false'. Refute it at one input. -/
def combCountsWrong : ChangeSpec := { name := "combCounts", fn := fun _ => fun
  | [d1, d2] => { results := [.lit (.bool false)], args := [d1, d2] }
  | _ => none }
def CombCountsWrongFalsely : Prop := combCountsRow.holds Try.pinned (OpenSpec.ofChange combCountsWrong)

/-- 'psalterylaw06.CombIndexes': WHATEVER THE INPUT: true; the input reads as it did. -/
def combIndexesSpec : ChangeSpec := { name := "combIndexes", fn := fun _ => fun
  | [d] => { results := [.lit (.bool true)], args := [d] }
  | _ => none }
def combIndexesRow : OpenClaim := { program := "ytfaoiophphofjaa", sum := "52dd8729969783063d9d1c7f7bc122383f87b50bd0c9904f63e3ce744b8a9688", func := "psaltery/psalterylaw06.CombIndexes", spec := "combIndexes", apart := false }
def CombIndexesSaid : Prop := combIndexesRow.holds Try.pinned (OpenSpec.ofChange combIndexesSpec)

/-- ITS FALSE NEIGHBOUR: 'it returns false'. Refute it at one input. -/
def combIndexesWrong : ChangeSpec := { name := "combIndexes", fn := fun _ => fun
  | [d] => { results := [.lit (.bool false)], args := [d] }
  | _ => none }
def CombIndexesWrongFalsely : Prop := combIndexesRow.holds Try.pinned (OpenSpec.ofChange combIndexesWrong)

/-- 'psalterylaw06.CombVectors': WHATEVER THE INPUT: true; the input reads as it did. -/
def combVectorsSpec : ChangeSpec := { name := "combVectors", fn := fun _ => fun
  | [d1, d2, d3] => { results := [.lit (.bool true)], args := [d1, d2, d3] }
  | _ => none }
def combVectorsRow : OpenClaim := { program := "ytfaoiophphofjaa", sum := "52dd8729969783063d9d1c7f7bc122383f87b50bd0c9904f63e3ce744b8a9688", func := "psaltery/psalterylaw06.CombVectors", spec := "combVectors", apart := false }
def CombVectorsSaid : Prop := combVectorsRow.holds Try.pinned (OpenSpec.ofChange combVectorsSpec)

/-- ITS FALSE NEIGHBOUR: 'it returns false'. Refute it at one input. -/
def combVectorsWrong : ChangeSpec := { name := "combVectors", fn := fun _ => fun
  | [d1, d2, d3] => { results := [.lit (.bool false)], args := [d1, d2, d3] }
  | _ => none }
def CombVectorsWrongFalsely : Prop := combVectorsRow.holds Try.pinned (OpenSpec.ofChange combVectorsWrong)

/-- 'psalterylaw06.CombBack': WHATEVER THE INPUT: true; the input reads as it did. -/
def combBackSpec : ChangeSpec := { name := "combBack", fn := fun _ => fun
  | [d1, d2, d3] => { results := [.lit (.bool true)], args := [d1, d2, d3] }
  | _ => none }
def combBackRow : OpenClaim := { program := "ytfaoiophphofjaa", sum := "52dd8729969783063d9d1c7f7bc122383f87b50bd0c9904f63e3ce744b8a9688", func := "psaltery/psalterylaw06.CombBack", spec := "combBack", apart := false }
def CombBackSaid : Prop := combBackRow.holds Try.pinned (OpenSpec.ofChange combBackSpec)

/-- ITS FALSE NEIGHBOUR: 'it returns false'. Refute it at one input. -/
def combBackWrong : ChangeSpec := { name := "combBack", fn := fun _ => fun
  | [d1, d2, d3] => { results := [.lit (.bool false)], args := [d1, d2, d3] }
  | _ => none }
def CombBackWrongFalsely : Prop := combBackRow.holds Try.pinned (OpenSpec.ofChange combBackWrong)

/-- 'psalterylaw06.CombAgain': WHATEVER THE INPUT: true; the input reads as it did. -/
def combAgainSpec : ChangeSpec := { name := "combAgain", fn := fun _ => fun
  | [d] => { results := [.lit (.bool true)], args := [d] }
  | _ => none }
def combAgainRow : OpenClaim := { program := "ytfaoiophphofjaa", sum := "52dd8729969783063d9d1c7f7bc122383f87b50bd0c9904f63e3ce744b8a9688", func := "psaltery/psalterylaw06.CombAgain", spec := "combAgain", apart := false }
def CombAgainSaid : Prop := combAgainRow.holds Try.pinned (OpenSpec.ofChange combAgainSpec)

/-- ITS FALSE NEIGHBOUR: 'it returns false'. Refute it at one input. -/
def combAgainWrong : ChangeSpec := { name := "combAgain", fn := fun _ => fun
  | [d] => { results := [.lit (.bool false)], args := [d] }
  | _ => none }
def CombAgainWrongFalsely : Prop := combAgainRow.holds Try.pinned (OpenSpec.ofChange combAgainWrong)

/-- 'psalterylaw06.CombSums': WHATEVER THE INPUT: true; the input reads as it did. -/
def combSumsSpec : ChangeSpec := { name := "combSums", fn := fun _ => fun
  | [d1, d2] => { results := [.lit (.bool true)], args := [d1, d2] }
  | _ => none }
def combSumsRow : OpenClaim := { program := "ytfaoiophphofjaa", sum := "52dd8729969783063d9d1c7f7bc122383f87b50bd0c9904f63e3ce744b8a9688", func := "psaltery/psalterylaw06.CombSums", spec := "combSums", apart := false }
def CombSumsSaid : Prop := combSumsRow.holds Try.pinned (OpenSpec.ofChange combSumsSpec)

/-- ITS FALSE NEIGHBOUR: 'it returns false'. Refute it at one input. -/
def combSumsWrong : ChangeSpec := { name := "combSums", fn := fun _ => fun
  | [d1, d2] => { results := [.lit (.bool false)], args := [d1, d2] }
  | _ => none }
def CombSumsWrongFalsely : Prop := combSumsRow.holds Try.pinned (OpenSpec.ofChange combSumsWrong)

/-- 'psalterylaw06.CombOrders': WHATEVER THE INPUT: true; the input reads as it did. -/
def combOrdersSpec : ChangeSpec := { name := "combOrders", fn := fun _ => fun
  | [d1, d2, d3, d4] => { results := [.lit (.bool true)], args := [d1, d2, d3, d4] }
  | _ => none }
def combOrdersRow : OpenClaim := { program := "ytfaoiophphofjaa", sum := "52dd8729969783063d9d1c7f7bc122383f87b50bd0c9904f63e3ce744b8a9688", func := "psaltery/psalterylaw06.CombOrders", spec := "combOrders", apart := false }
def CombOrdersSaid : Prop := combOrdersRow.holds Try.pinned (OpenSpec.ofChange combOrdersSpec)

/-- ITS FALSE NEIGHBOUR: 'it returns false'. Refute it at one input. -/
def combOrdersWrong : ChangeSpec := { name := "combOrders", fn := fun _ => fun
  | [d1, d2, d3, d4] => { results := [.lit (.bool false)], args := [d1, d2, d3, d4] }
  | _ => none }
def CombOrdersWrongFalsely : Prop := combOrdersRow.holds Try.pinned (OpenSpec.ofChange combOrdersWrong)

/- THE SECOND FORM. 'bulk': how many values and letters a reading holds, each counted each time it is reached (what is shared counts as often as it is met; a slice's spare places count too). A statement '..UptoSaid' is the law's where the arguments, and the package variables that the reading takes, are together of bulk at most 1048576: NARROWER than '..Said'. Prove '..Said' where nothing that the law and all that it calls make is longer than what came in: it says more and counts as full. Else prove '..UptoSaid'. A law counts once. -/
mutual
def uptoBulk {H : Type} : DataW H → Nat
  | .lit (.string bytes) => bytes.length + 1
  | .lit _ => 1
  | .nil => 1
  | .ptr d => uptoBulk d + 1
  | .slice elems spare => uptoBulkAll elems + uptoBulkAll spare + 1
  | .agg parts => uptoBulkAll parts + 1
  | .iface _ d => uptoBulk d + 1
  | .map entries => uptoBulkEntries entries + 1
  | .held _ => 1
def uptoBulkAll {H : Type} : List (DataW H) → Nat
  | [] => 0
  | d :: r => uptoBulk d + uptoBulkAll r
def uptoBulkEntries {H : Type} : List (Lit × DataW H) → Nat
  | [] => 0
  | x :: r => uptoBulkEntry x + uptoBulkEntries r
def uptoBulkEntry {H : Type} : Lit × DataW H → Nat
  | (.string bytes, d) => bytes.length + uptoBulk d + 1
  | (_, d) => uptoBulk d + 1
 end
def uptoSmall : (H : Type) → List (DataW H) → Bool := fun _ ds => decide (uptoBulkAll ds ≤ 1048576)
def OpenSpec.upto (s : _root_.Go.ChangeSpec) : _root_.Go.OpenSpec := { _root_.Go.OpenSpec.ofChange s with cond := some uptoSmall }

/-- 'psalterylaw06.CombCounts', WHERE WHAT IT READS IS OF BULK AT MOST 1048576: true; the input reads as it did. -/
def combCountsUptoRow : OpenClaim := { program := "ytfaoiophphofjaa", sum := "52dd8729969783063d9d1c7f7bc122383f87b50bd0c9904f63e3ce744b8a9688", func := "psaltery/psalterylaw06.CombCounts", spec := "combCounts", recurses := true, apart := false, narrowed := true }
def CombCountsUptoSaid : Prop := combCountsUptoRow.holds Try.pinned (OpenSpec.upto combCountsSpec)

/-- 'psalterylaw06.CombIndexes', WHERE WHAT IT READS IS OF BULK AT MOST 1048576: true; the input reads as it did. -/
def combIndexesUptoRow : OpenClaim := { program := "ytfaoiophphofjaa", sum := "52dd8729969783063d9d1c7f7bc122383f87b50bd0c9904f63e3ce744b8a9688", func := "psaltery/psalterylaw06.CombIndexes", spec := "combIndexes", apart := false, narrowed := true }
def CombIndexesUptoSaid : Prop := combIndexesUptoRow.holds Try.pinned (OpenSpec.upto combIndexesSpec)

/-- 'psalterylaw06.CombVectors', WHERE WHAT IT READS IS OF BULK AT MOST 1048576: true; the input reads as it did. -/
def combVectorsUptoRow : OpenClaim := { program := "ytfaoiophphofjaa", sum := "52dd8729969783063d9d1c7f7bc122383f87b50bd0c9904f63e3ce744b8a9688", func := "psaltery/psalterylaw06.CombVectors", spec := "combVectors", apart := false, narrowed := true }
def CombVectorsUptoSaid : Prop := combVectorsUptoRow.holds Try.pinned (OpenSpec.upto combVectorsSpec)

/-- 'psalterylaw06.CombBack', WHERE WHAT IT READS IS OF BULK AT MOST 1048576: true; the input reads as it did. -/
def combBackUptoRow : OpenClaim := { program := "ytfaoiophphofjaa", sum := "52dd8729969783063d9d1c7f7bc122383f87b50bd0c9904f63e3ce744b8a9688", func := "psaltery/psalterylaw06.CombBack", spec := "combBack", apart := false, narrowed := true }
def CombBackUptoSaid : Prop := combBackUptoRow.holds Try.pinned (OpenSpec.upto combBackSpec)

/-- 'psalterylaw06.CombAgain', WHERE WHAT IT READS IS OF BULK AT MOST 1048576: true; the input reads as it did. -/
def combAgainUptoRow : OpenClaim := { program := "ytfaoiophphofjaa", sum := "52dd8729969783063d9d1c7f7bc122383f87b50bd0c9904f63e3ce744b8a9688", func := "psaltery/psalterylaw06.CombAgain", spec := "combAgain", apart := false, narrowed := true }
def CombAgainUptoSaid : Prop := combAgainUptoRow.holds Try.pinned (OpenSpec.upto combAgainSpec)

/-- 'psalterylaw06.CombSums', WHERE WHAT IT READS IS OF BULK AT MOST 1048576: true; the input reads as it did. -/
def combSumsUptoRow : OpenClaim := { program := "ytfaoiophphofjaa", sum := "52dd8729969783063d9d1c7f7bc122383f87b50bd0c9904f63e3ce744b8a9688", func := "psaltery/psalterylaw06.CombSums", spec := "combSums", apart := false, narrowed := true }
def CombSumsUptoSaid : Prop := combSumsUptoRow.holds Try.pinned (OpenSpec.upto combSumsSpec)

/-- 'psalterylaw06.CombOrders', WHERE WHAT IT READS IS OF BULK AT MOST 1048576: true; the input reads as it did. -/
def combOrdersUptoRow : OpenClaim := { program := "ytfaoiophphofjaa", sum := "52dd8729969783063d9d1c7f7bc122383f87b50bd0c9904f63e3ce744b8a9688", func := "psaltery/psalterylaw06.CombOrders", spec := "combOrders", apart := false, narrowed := true }
def CombOrdersUptoSaid : Prop := combOrdersUptoRow.holds Try.pinned (OpenSpec.upto combOrdersSpec)

end Rows
end Go.Proofs.Ytfaoiophphofjaa
