/-
  No cell of these rows narrows 'for every input' (looked for: loops, veiled, ifaces, maps, wideKeys, modest, calm, conditions, laid).
  DERIVED. THE GIVEN ROWS OF THIS SEAT. 6 by the template 'for every input the law returns true; each argument reads behind the call as it read before'; 0 by the template 'total and deterministic' (their statements: YtkfpphccpkfenaaTotals.lean).
  GIVEN WITH THE SEED: the statements are not yours to turn. If you find one false, say at which input.
  Laid BY PROGRAM, IN A SANDBOX (cutbox-rows.mjs): the forced cells as the released guide's own fill.sh prints them over the translation a9e087239d5e8e59… (all of the seat's roots in one cut). By AI agents, Wed Nov 11 2026. No macro, syntax, notation, axiom, sorry.
-/
import Derived.Test.YtkfpphccpkfenaaChecked
import GoSem.Claim
import GoSem.ClaimJoined
import GoSem.ClaimMapViews
import Derived.JoinedTies
import Derived.KernelRfl
namespace Go.Proofs.Ytkfpphccpkfenaa
/- THE CELL 'sum', in the pinned program and in every row, IS THE sha256 OF THE DUMP (.gsa) THAT YtkfpphccpkfenaaProg.lean LOADS. Nothing in Lean hashes anything: it is a label: what it is worth is what the hold of that sum in a sandbox is worth. -/
noncomputable def Try.pinned : Pinned := { name := "ytkfpphccpkfenaa", sum := "a9e087239d5e8e598c142c93baf24b7f1d78190ac37a58f5c738472d367a7d20", checked := Try.checked }
namespace Rows
def none {H : Type} : Left H := { results := [], args := [] }

/-- 'psalterylaw11.GainPuts': WHATEVER THE INPUT: true; the input reads as it did. -/
def gainPutsSpec : ChangeSpec := { name := "gainPuts", fn := fun _ => fun
  | [d1, d2, d3, d4] => { results := [.lit (.bool true)], args := [d1, d2, d3, d4] }
  | _ => none }
def gainPutsRow : OpenClaim := { program := "ytkfpphccpkfenaa", sum := "a9e087239d5e8e598c142c93baf24b7f1d78190ac37a58f5c738472d367a7d20", func := "psaltery/psalterylaw11.GainPuts", spec := "gainPuts", apart := false }
def GainPutsSaid : Prop := gainPutsRow.holds Try.pinned (OpenSpec.ofChange gainPutsSpec)

/-- ITS FALSE NEIGHBOUR: 'it returns false'. Refute it at one input. -/
def gainPutsWrong : ChangeSpec := { name := "gainPuts", fn := fun _ => fun
  | [d1, d2, d3, d4] => { results := [.lit (.bool false)], args := [d1, d2, d3, d4] }
  | _ => none }
def GainPutsWrongFalsely : Prop := gainPutsRow.holds Try.pinned (OpenSpec.ofChange gainPutsWrong)

/-- 'psalterylaw11.GainTakes': WHATEVER THE INPUT: true; the input reads as it did. -/
def gainTakesSpec : ChangeSpec := { name := "gainTakes", fn := fun _ => fun
  | [d1, d2, d3] => { results := [.lit (.bool true)], args := [d1, d2, d3] }
  | _ => none }
def gainTakesRow : OpenClaim := { program := "ytkfpphccpkfenaa", sum := "a9e087239d5e8e598c142c93baf24b7f1d78190ac37a58f5c738472d367a7d20", func := "psaltery/psalterylaw11.GainTakes", spec := "gainTakes", apart := false }
def GainTakesSaid : Prop := gainTakesRow.holds Try.pinned (OpenSpec.ofChange gainTakesSpec)

/-- ITS FALSE NEIGHBOUR: 'it returns false'. Refute it at one input. -/
def gainTakesWrong : ChangeSpec := { name := "gainTakes", fn := fun _ => fun
  | [d1, d2, d3] => { results := [.lit (.bool false)], args := [d1, d2, d3] }
  | _ => none }
def GainTakesWrongFalsely : Prop := gainTakesRow.holds Try.pinned (OpenSpec.ofChange gainTakesWrong)

/-- 'psalterylaw11.GainBack': WHATEVER THE INPUT: true; the input reads as it did. -/
def gainBackSpec : ChangeSpec := { name := "gainBack", fn := fun _ => fun
  | [d] => { results := [.lit (.bool true)], args := [d] }
  | _ => none }
def gainBackRow : OpenClaim := { program := "ytkfpphccpkfenaa", sum := "a9e087239d5e8e598c142c93baf24b7f1d78190ac37a58f5c738472d367a7d20", func := "psaltery/psalterylaw11.GainBack", spec := "gainBack", apart := false }
def GainBackSaid : Prop := gainBackRow.holds Try.pinned (OpenSpec.ofChange gainBackSpec)

/-- ITS FALSE NEIGHBOUR: 'it returns false'. Refute it at one input. -/
def gainBackWrong : ChangeSpec := { name := "gainBack", fn := fun _ => fun
  | [d] => { results := [.lit (.bool false)], args := [d] }
  | _ => none }
def GainBackWrongFalsely : Prop := gainBackRow.holds Try.pinned (OpenSpec.ofChange gainBackWrong)

/-- 'psalterylaw11.GainAny': WHATEVER THE INPUT: true; the input reads as it did. -/
def gainAnySpec : ChangeSpec := { name := "gainAny", fn := fun _ => fun
  | [d1, d2, d3] => { results := [.lit (.bool true)], args := [d1, d2, d3] }
  | _ => none }
def gainAnyRow : OpenClaim := { program := "ytkfpphccpkfenaa", sum := "a9e087239d5e8e598c142c93baf24b7f1d78190ac37a58f5c738472d367a7d20", func := "psaltery/psalterylaw11.GainAny", spec := "gainAny", apart := false }
def GainAnySaid : Prop := gainAnyRow.holds Try.pinned (OpenSpec.ofChange gainAnySpec)

/-- ITS FALSE NEIGHBOUR: 'it returns false'. Refute it at one input. -/
def gainAnyWrong : ChangeSpec := { name := "gainAny", fn := fun _ => fun
  | [d1, d2, d3] => { results := [.lit (.bool false)], args := [d1, d2, d3] }
  | _ => none }
def GainAnyWrongFalsely : Prop := gainAnyRow.holds Try.pinned (OpenSpec.ofChange gainAnyWrong)

/-- 'psalterylaw11.GainAlone': WHATEVER THE INPUT: true; the input reads as it did. -/
def gainAloneSpec : ChangeSpec := { name := "gainAlone", fn := fun _ => fun
  | [d1, d2, d3, d4, d5] => { results := [.lit (.bool true)], args := [d1, d2, d3, d4, d5] }
  | _ => none }
def gainAloneRow : OpenClaim := { program := "ytkfpphccpkfenaa", sum := "a9e087239d5e8e598c142c93baf24b7f1d78190ac37a58f5c738472d367a7d20", func := "psaltery/psalterylaw11.GainAlone", spec := "gainAlone", apart := false }
def GainAloneSaid : Prop := gainAloneRow.holds Try.pinned (OpenSpec.ofChange gainAloneSpec)

/-- ITS FALSE NEIGHBOUR: 'it returns false'. Refute it at one input. -/
def gainAloneWrong : ChangeSpec := { name := "gainAlone", fn := fun _ => fun
  | [d1, d2, d3, d4, d5] => { results := [.lit (.bool false)], args := [d1, d2, d3, d4, d5] }
  | _ => none }
def GainAloneWrongFalsely : Prop := gainAloneRow.holds Try.pinned (OpenSpec.ofChange gainAloneWrong)

/-- 'psalterylaw11.GainShort': WHATEVER THE INPUT: true; the input reads as it did. -/
def gainShortSpec : ChangeSpec := { name := "gainShort", fn := fun _ => fun
  | [d] => { results := [.lit (.bool true)], args := [d] }
  | _ => none }
def gainShortRow : OpenClaim := { program := "ytkfpphccpkfenaa", sum := "a9e087239d5e8e598c142c93baf24b7f1d78190ac37a58f5c738472d367a7d20", func := "psaltery/psalterylaw11.GainShort", spec := "gainShort", apart := false }
def GainShortSaid : Prop := gainShortRow.holds Try.pinned (OpenSpec.ofChange gainShortSpec)

/-- ITS FALSE NEIGHBOUR: 'it returns false'. Refute it at one input. -/
def gainShortWrong : ChangeSpec := { name := "gainShort", fn := fun _ => fun
  | [d] => { results := [.lit (.bool false)], args := [d] }
  | _ => none }
def GainShortWrongFalsely : Prop := gainShortRow.holds Try.pinned (OpenSpec.ofChange gainShortWrong)

/- THE SECOND FORM. 'bulk': how many values and letters a reading holds, each counted each time it is reached (what is shared counts as often as it is met; a slice's spare places count too). A statement '..UptoSaid' is the law's where the arguments, and the package variables that the reading takes, are together of bulk at most 1048576: NARROWER than '..Said'. Prove '..Said' where nothing that the law and all that it calls make is longer than what came in: it says more and counts as full. Else prove '..UptoSaid'. A law counts once. -/
mutual
def uptoBulk {H : Type} : DataW H → Nat
  | .lit (.string bytes) => bytes.length + 1
  | .lit _ => 1
  | .nil => 1
  | .ptr d => uptoBulk d + 1
  | .slice elems spare => uptoBulkAll elems + uptoBulkAll spare + 1
  | .agg parts => uptoBulkAll parts + 1
  | .iface _ d => uptoBulk d + 1
  | .map entries => uptoBulkEntries entries + 1
  | .held _ => 1
def uptoBulkAll {H : Type} : List (DataW H) → Nat
  | [] => 0
  | d :: r => uptoBulk d + uptoBulkAll r
def uptoBulkEntries {H : Type} : List (Lit × DataW H) → Nat
  | [] => 0
  | x :: r => uptoBulkEntry x + uptoBulkEntries r
def uptoBulkEntry {H : Type} : Lit × DataW H → Nat
  | (.string bytes, d) => bytes.length + uptoBulk d + 1
  | (_, d) => uptoBulk d + 1
 end
def uptoSmall : (H : Type) → List (DataW H) → Bool := fun _ ds => decide (uptoBulkAll ds ≤ 1048576)
def OpenSpec.upto (s : _root_.Go.ChangeSpec) : _root_.Go.OpenSpec := { _root_.Go.OpenSpec.ofChange s with cond := some uptoSmall }

/-- 'psalterylaw11.GainPuts', WHERE WHAT IT READS IS OF BULK AT MOST 1048576: true; the input reads as it did. -/
def gainPutsUptoRow : OpenClaim := { program := "ytkfpphccpkfenaa", sum := "a9e087239d5e8e598c142c93baf24b7f1d78190ac37a58f5c738472d367a7d20", func := "psaltery/psalterylaw11.GainPuts", spec := "gainPuts", apart := false, narrowed := true }
def GainPutsUptoSaid : Prop := gainPutsUptoRow.holds Try.pinned (OpenSpec.upto gainPutsSpec)

/-- 'psalterylaw11.GainTakes', WHERE WHAT IT READS IS OF BULK AT MOST 1048576: true; the input reads as it did. -/
def gainTakesUptoRow : OpenClaim := { program := "ytkfpphccpkfenaa", sum := "a9e087239d5e8e598c142c93baf24b7f1d78190ac37a58f5c738472d367a7d20", func := "psaltery/psalterylaw11.GainTakes", spec := "gainTakes", apart := false, narrowed := true }
def GainTakesUptoSaid : Prop := gainTakesUptoRow.holds Try.pinned (OpenSpec.upto gainTakesSpec)

/-- 'psalterylaw11.GainBack', WHERE WHAT IT READS IS OF BULK AT MOST 1048576: true; the input reads as it did. -/
def gainBackUptoRow : OpenClaim := { program := "ytkfpphccpkfenaa", sum := "a9e087239d5e8e598c142c93baf24b7f1d78190ac37a58f5c738472d367a7d20", func := "psaltery/psalterylaw11.GainBack", spec := "gainBack", apart := false, narrowed := true }
def GainBackUptoSaid : Prop := gainBackUptoRow.holds Try.pinned (OpenSpec.upto gainBackSpec)

/-- 'psalterylaw11.GainAny', WHERE WHAT IT READS IS OF BULK AT MOST 1048576: true; the input reads as it did. -/
def gainAnyUptoRow : OpenClaim := { program := "ytkfpphccpkfenaa", sum := "a9e087239d5e8e598c142c93baf24b7f1d78190ac37a58f5c738472d367a7d20", func := "psaltery/psalterylaw11.GainAny", spec := "gainAny", apart := false, narrowed := true }
def GainAnyUptoSaid : Prop := gainAnyUptoRow.holds Try.pinned (OpenSpec.upto gainAnySpec)

/-- 'psalterylaw11.GainAlone', WHERE WHAT IT READS IS OF BULK AT MOST 1048576: true; the input reads as it did. -/
def gainAloneUptoRow : OpenClaim := { program := "ytkfpphccpkfenaa", sum := "a9e087239d5e8e598c142c93baf24b7f1d78190ac37a58f5c738472d367a7d20", func := "psaltery/psalterylaw11.GainAlone", spec := "gainAlone", apart := false, narrowed := true }
def GainAloneUptoSaid : Prop := gainAloneUptoRow.holds Try.pinned (OpenSpec.upto gainAloneSpec)

/-- 'psalterylaw11.GainShort', WHERE WHAT IT READS IS OF BULK AT MOST 1048576: true; the input reads as it did. -/
def gainShortUptoRow : OpenClaim := { program := "ytkfpphccpkfenaa", sum := "a9e087239d5e8e598c142c93baf24b7f1d78190ac37a58f5c738472d367a7d20", func := "psaltery/psalterylaw11.GainShort", spec := "gainShort", apart := false, narrowed := true }
def GainShortUptoSaid : Prop := gainShortUptoRow.holds Try.pinned (OpenSpec.upto gainShortSpec)

end Rows
end Go.Proofs.Ytkfpphccpkfenaa
