/- An encoder as the document's: all its bytes. -/
import Derived.Test.YtkfpphccpkfenaaCl
import Derived.Deep.RegionLaw
import Derived.Deep.DeepCutAuto
namespace Go.Proofs.Ytkfpphccpkfenaa
open Go.RowKit
set_option linter.unusedVariables false
set_option linter.unusedSimpArgs false

def refV (v : Value) (e : En) : Value := .agg #[.int .u64 e.R, v]

/-! ### The document's new one -/
theorem all_new : En.new.all = [0, 0, 0, 0] := by simp [En.all, En.new, beL]
set_option maxHeartbeats 1000000 in
theorem rnew_any (w : World) : Calls Try.prog 34 #[] w fun x w' => ∃ a cap, x = .returned (.agg #[.int .u64 4294967295, .slice a 4 cap]) ∧ RwF w.heap.size .i64 w' (.slice a 4 cap) En.new.all ∧ Below w.heap.size w w' := by
  rw [all_new]
  go_enter Try.func34, Try.ntmps34
  go_wp2
  refine bodyPost_ret (v := .agg #[.int .u64 4294967295, .slice (some ⟨w.heap.size + 1, 0, none⟩) 4 4]) (by simp [results, Try.results34, go_sem]) rfl ⟨_, _, rfl, ?_, below2 _ _ _⟩
  exact rw_lit4 _ _ _ _ _ _ _ _ _ (by simp [go_sem]) (by simp [go_sem]) (by simp [go_sem]) (by simp [go_sem]) (by simp) (by omega)

end Go.Proofs.Ytkfpphccpkfenaa
