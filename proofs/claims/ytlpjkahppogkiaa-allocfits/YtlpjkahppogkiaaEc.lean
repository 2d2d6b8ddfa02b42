/- Contracts of the small functions: the next integer, sizes, which numbers are fair. -/
import Derived.Test.YtlpjkahppogkiaaRows
import Derived.Test.YtlpjkahppogkiaaEb
namespace Go.Proofs.Ytlpjkahppogkiaa
open Go.RowKit
set_option linter.unusedVariables false
set_option linter.unusedSimpArgs false

/-- The document's size: 13, if there are more pulses than may be. -/
def rsz (v : Int) : Nat := if v.natAbs ≤ 12 then v.natAbs else 13
theorem rsz_ok (v : Int) (h : v.natAbs ≤ 12) : rsz v = v.natAbs := if_pos h
theorem rsz_le (v : Int) : rsz v ≤ 13 := by unfold rsz; split <;> omega
end Go.Proofs.Ytlpjkahppogkiaa
