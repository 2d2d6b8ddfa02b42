/-
  No cell of these rows narrows 'for every input' (looked for: loops, veiled, ifaces, maps, wideKeys, modest, calm, conditions, laid).
  DERIVED. THE GIVEN ROWS OF THIS SEAT. 6 by the template 'for every input the law returns true; each argument reads behind the call as it read before'; 0 by the template 'total and deterministic' (their statements: YtjehjpibgficcaaTotals.lean).
  GIVEN WITH THE SEED: the statements are not yours to turn. If you find one false, say at which input.
  Laid BY PROGRAM, IN A SANDBOX (cutbox-rows.mjs): the forced cells as the released guide's own fill.sh prints them over the translation 9f8aa01bff987f98… (all of the seat's roots in one cut). By AI agents, Wed Nov 11 2026. No macro, syntax, notation, axiom, sorry.
-/
import Derived.Test.YtjehjpibgficcaaChecked
import GoSem.Claim
import GoSem.ClaimJoined
import GoSem.ClaimMapViews
import Derived.JoinedTies
import Derived.KernelRfl
namespace Go.Proofs.Ytjehjpibgficcaa
/- THE CELL 'sum', in the pinned program and in every row, IS THE sha256 OF THE DUMP (.gsa) THAT YtjehjpibgficcaaProg.lean LOADS. Nothing in Lean hashes anything: it is a label: what it is worth is what the hold of that sum in a sandbox is worth. -/
noncomputable def Try.pinned : Pinned := { name := "ytjehjpibgficcaa", sum := "9f8aa01bff987f98725fa983c8cef5231e2cfd18402e16de4f298eecbbad842a", checked := Try.checked }
namespace Rows
def none {H : Type} : Left H := { results := [], args := [] }

/-- 'psalterylaw15.CoupleOnes': WHATEVER THE INPUT: true; the input reads as it did. -/
def coupleOnesSpec : ChangeSpec := { name := "coupleOnes", fn := fun _ => fun
  | [d1, d2] => { results := [.lit (.bool true)], args := [d1, d2] }
  | _ => none }
def coupleOnesRow : OpenClaim := { program := "ytjehjpibgficcaa", sum := "9f8aa01bff987f98725fa983c8cef5231e2cfd18402e16de4f298eecbbad842a", func := "psaltery/psalterylaw15.CoupleOnes", spec := "coupleOnes", unfollowed := true, recurses := true, apart := false }
def CoupleOnesSaid : Prop := coupleOnesRow.holds Try.pinned (OpenSpec.ofChange coupleOnesSpec)

/-- ITS FALSE NEIGHBOUR: 'it returns false'. Refute it at one input. -/
def coupleOnesWrong : ChangeSpec := { name := "coupleOnes", fn := fun _ => fun
  | [d1, d2] => { results := [.lit (.bool false)], args := [d1, d2] }
  | _ => none }
def CoupleOnesWrongFalsely : Prop := coupleOnesRow.holds Try.pinned (OpenSpec.ofChange coupleOnesWrong)

/-- 'psalterylaw15.CoupleLists': WHATEVER THE INPUT: true; the input reads as it did. -/
def coupleListsSpec : ChangeSpec := { name := "coupleLists", fn := fun _ => fun
  | [d1, d2] => { results := [.lit (.bool true)], args := [d1, d2] }
  | _ => none }
def coupleListsRow : OpenClaim := { program := "ytjehjpibgficcaa", sum := "9f8aa01bff987f98725fa983c8cef5231e2cfd18402e16de4f298eecbbad842a", func := "psaltery/psalterylaw15.CoupleLists", spec := "coupleLists", unfollowed := true, recurses := true, apart := false }
def CoupleListsSaid : Prop := coupleListsRow.holds Try.pinned (OpenSpec.ofChange coupleListsSpec)

/-- ITS FALSE NEIGHBOUR: 'it returns false'. Refute it at one input. -/
def coupleListsWrong : ChangeSpec := { name := "coupleLists", fn := fun _ => fun
  | [d1, d2] => { results := [.lit (.bool false)], args := [d1, d2] }
  | _ => none }
def CoupleListsWrongFalsely : Prop := coupleListsRow.holds Try.pinned (OpenSpec.ofChange coupleListsWrong)

/-- 'psalterylaw15.CoupleParts': WHATEVER THE INPUT: true; the input reads as it did. -/
def couplePartsSpec : ChangeSpec := { name := "coupleParts", fn := fun _ => fun
  | [d1, d2] => { results := [.lit (.bool true)], args := [d1, d2] }
  | _ => none }
def couplePartsRow : OpenClaim := { program := "ytjehjpibgficcaa", sum := "9f8aa01bff987f98725fa983c8cef5231e2cfd18402e16de4f298eecbbad842a", func := "psaltery/psalterylaw15.CoupleParts", spec := "coupleParts", unfollowed := true, recurses := true, apart := false }
def CouplePartsSaid : Prop := couplePartsRow.holds Try.pinned (OpenSpec.ofChange couplePartsSpec)

/-- ITS FALSE NEIGHBOUR: 'it returns false'. Refute it at one input. -/
def couplePartsWrong : ChangeSpec := { name := "coupleParts", fn := fun _ => fun
  | [d1, d2] => { results := [.lit (.bool false)], args := [d1, d2] }
  | _ => none }
def CouplePartsWrongFalsely : Prop := couplePartsRow.holds Try.pinned (OpenSpec.ofChange couplePartsWrong)

/-- 'psalterylaw15.CoupleBack': WHATEVER THE INPUT: true; the input reads as it did. -/
def coupleBackSpec : ChangeSpec := { name := "coupleBack", fn := fun _ => fun
  | [d1, d2] => { results := [.lit (.bool true)], args := [d1, d2] }
  | _ => none }
def coupleBackRow : OpenClaim := { program := "ytjehjpibgficcaa", sum := "9f8aa01bff987f98725fa983c8cef5231e2cfd18402e16de4f298eecbbad842a", func := "psaltery/psalterylaw15.CoupleBack", spec := "coupleBack", unfollowed := true, recurses := true, apart := false }
def CoupleBackSaid : Prop := coupleBackRow.holds Try.pinned (OpenSpec.ofChange coupleBackSpec)

/-- ITS FALSE NEIGHBOUR: 'it returns false'. Refute it at one input. -/
def coupleBackWrong : ChangeSpec := { name := "coupleBack", fn := fun _ => fun
  | [d1, d2] => { results := [.lit (.bool false)], args := [d1, d2] }
  | _ => none }
def CoupleBackWrongFalsely : Prop := coupleBackRow.holds Try.pinned (OpenSpec.ofChange coupleBackWrong)

/-- 'psalterylaw15.CoupleListsBack': WHATEVER THE INPUT: true; the input reads as it did. -/
def coupleListsBackSpec : ChangeSpec := { name := "coupleListsBack", fn := fun _ => fun
  | [d1, d2] => { results := [.lit (.bool true)], args := [d1, d2] }
  | _ => none }
def coupleListsBackRow : OpenClaim := { program := "ytjehjpibgficcaa", sum := "9f8aa01bff987f98725fa983c8cef5231e2cfd18402e16de4f298eecbbad842a", func := "psaltery/psalterylaw15.CoupleListsBack", spec := "coupleListsBack", unfollowed := true, recurses := true, apart := false }
def CoupleListsBackSaid : Prop := coupleListsBackRow.holds Try.pinned (OpenSpec.ofChange coupleListsBackSpec)

/-- ITS FALSE NEIGHBOUR: 'it returns false'. Refute it at one input. -/
def coupleListsBackWrong : ChangeSpec := { name := "coupleListsBack", fn := fun _ => fun
  | [d1, d2] => { results := [.lit (.bool false)], args := [d1, d2] }
  | _ => none }
def CoupleListsBackWrongFalsely : Prop := coupleListsBackRow.holds Try.pinned (OpenSpec.ofChange coupleListsBackWrong)

/-- 'psalterylaw15.CoupleSizes': WHATEVER THE INPUT: true; the input reads as it did. -/
def coupleSizesSpec : ChangeSpec := { name := "coupleSizes", fn := fun _ => fun
  | [d1, d2] => { results := [.lit (.bool true)], args := [d1, d2] }
  | _ => none }
def coupleSizesRow : OpenClaim := { program := "ytjehjpibgficcaa", sum := "9f8aa01bff987f98725fa983c8cef5231e2cfd18402e16de4f298eecbbad842a", func := "psaltery/psalterylaw15.CoupleSizes", spec := "coupleSizes", unfollowed := true, recurses := true, apart := false }
def CoupleSizesSaid : Prop := coupleSizesRow.holds Try.pinned (OpenSpec.ofChange coupleSizesSpec)

/-- ITS FALSE NEIGHBOUR: 'it returns false'. Refute it at one input. -/
def coupleSizesWrong : ChangeSpec := { name := "coupleSizes", fn := fun _ => fun
  | [d1, d2] => { results := [.lit (.bool false)], args := [d1, d2] }
  | _ => none }
def CoupleSizesWrongFalsely : Prop := coupleSizesRow.holds Try.pinned (OpenSpec.ofChange coupleSizesWrong)

/- THE SECOND FORM. 'bulk': how many values and letters a reading holds, each counted each time it is reached (what is shared counts as often as it is met; a slice's spare places count too). A statement '..UptoSaid' is the law's where the arguments, and the package variables that the reading takes, are together of bulk at most 1048576: NARROWER than '..Said'. Prove '..Said' where nothing that the law and all that it calls make is longer than what came in: it says more and counts as full. Else prove '..UptoSaid'. A law counts once. -/
mutual
def uptoBulk {H : Type} : DataW H → Nat
  | .lit (.string bytes) => bytes.length + 1
  | .lit _ => 1
  | .nil => 1
  | .ptr d => uptoBulk d + 1
  | .slice elems spare => uptoBulkAll elems + uptoBulkAll spare + 1
  | .agg parts => uptoBulkAll parts + 1
  | .iface _ d => uptoBulk d + 1
  | .map entries => uptoBulkEntries entries + 1
  | .held _ => 1
def uptoBulkAll {H : Type} : List (DataW H) → Nat
  | [] => 0
  | d :: r => uptoBulk d + uptoBulkAll r
def uptoBulkEntries {H : Type} : List (Lit × DataW H) → Nat
  | [] => 0
  | x :: r => uptoBulkEntry x + uptoBulkEntries r
def uptoBulkEntry {H : Type} : Lit × DataW H → Nat
  | (.string bytes, d) => bytes.length + uptoBulk d + 1
  | (_, d) => uptoBulk d + 1
 end
def uptoSmall : (H : Type) → List (DataW H) → Bool := fun _ ds => decide (uptoBulkAll ds ≤ 1048576)
def OpenSpec.upto (s : _root_.Go.ChangeSpec) : _root_.Go.OpenSpec := { _root_.Go.OpenSpec.ofChange s with cond := some uptoSmall }

/-- 'psalterylaw15.CoupleOnes', WHERE WHAT IT READS IS OF BULK AT MOST 1048576: true; the input reads as it did. -/
def coupleOnesUptoRow : OpenClaim := { program := "ytjehjpibgficcaa", sum := "9f8aa01bff987f98725fa983c8cef5231e2cfd18402e16de4f298eecbbad842a", func := "psaltery/psalterylaw15.CoupleOnes", spec := "coupleOnes", unfollowed := true, recurses := true, apart := false, narrowed := true }
def CoupleOnesUptoSaid : Prop := coupleOnesUptoRow.holds Try.pinned (OpenSpec.upto coupleOnesSpec)

/-- 'psalterylaw15.CoupleLists', WHERE WHAT IT READS IS OF BULK AT MOST 1048576: true; the input reads as it did. -/
def coupleListsUptoRow : OpenClaim := { program := "ytjehjpibgficcaa", sum := "9f8aa01bff987f98725fa983c8cef5231e2cfd18402e16de4f298eecbbad842a", func := "psaltery/psalterylaw15.CoupleLists", spec := "coupleLists", unfollowed := true, recurses := true, apart := false, narrowed := true }
def CoupleListsUptoSaid : Prop := coupleListsUptoRow.holds Try.pinned (OpenSpec.upto coupleListsSpec)

/-- 'psalterylaw15.CoupleParts', WHERE WHAT IT READS IS OF BULK AT MOST 1048576: true; the input reads as it did. -/
def couplePartsUptoRow : OpenClaim := { program := "ytjehjpibgficcaa", sum := "9f8aa01bff987f98725fa983c8cef5231e2cfd18402e16de4f298eecbbad842a", func := "psaltery/psalterylaw15.CoupleParts", spec := "coupleParts", unfollowed := true, recurses := true, apart := false, narrowed := true }
def CouplePartsUptoSaid : Prop := couplePartsUptoRow.holds Try.pinned (OpenSpec.upto couplePartsSpec)

/-- 'psalterylaw15.CoupleBack', WHERE WHAT IT READS IS OF BULK AT MOST 1048576: true; the input reads as it did. -/
def coupleBackUptoRow : OpenClaim := { program := "ytjehjpibgficcaa", sum := "9f8aa01bff987f98725fa983c8cef5231e2cfd18402e16de4f298eecbbad842a", func := "psaltery/psalterylaw15.CoupleBack", spec := "coupleBack", unfollowed := true, recurses := true, apart := false, narrowed := true }
def CoupleBackUptoSaid : Prop := coupleBackUptoRow.holds Try.pinned (OpenSpec.upto coupleBackSpec)

/-- 'psalterylaw15.CoupleListsBack', WHERE WHAT IT READS IS OF BULK AT MOST 1048576: true; the input reads as it did. -/
def coupleListsBackUptoRow : OpenClaim := { program := "ytjehjpibgficcaa", sum := "9f8aa01bff987f98725fa983c8cef5231e2cfd18402e16de4f298eecbbad842a", func := "psaltery/psalterylaw15.CoupleListsBack", spec := "coupleListsBack", unfollowed := true, recurses := true, apart := false, narrowed := true }
def CoupleListsBackUptoSaid : Prop := coupleListsBackUptoRow.holds Try.pinned (OpenSpec.upto coupleListsBackSpec)

/-- 'psalterylaw15.CoupleSizes', WHERE WHAT IT READS IS OF BULK AT MOST 1048576: true; the input reads as it did. -/
def coupleSizesUptoRow : OpenClaim := { program := "ytjehjpibgficcaa", sum := "9f8aa01bff987f98725fa983c8cef5231e2cfd18402e16de4f298eecbbad842a", func := "psaltery/psalterylaw15.CoupleSizes", spec := "coupleSizes", unfollowed := true, recurses := true, apart := false, narrowed := true }
def CoupleSizesUptoSaid : Prop := coupleSizesUptoRow.holds Try.pinned (OpenSpec.upto coupleSizesSpec)

end Rows
end Go.Proofs.Ytjehjpibgficcaa
