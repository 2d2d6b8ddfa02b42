/- Whole arrays by value: a new one, one stored whole, a part of one; and the table of counts as cells. Nothing of the program is imported. -/
import Derived.Test.YtlpjkahppogkiaaEa
import Derived.Laws.Rows
import Derived.Deep.MidRow
import Derived.Deep.WholeRow
namespace Go.Proofs.Ytlpjkahppogkiaa
open Go.RowKit
set_option linter.unusedVariables false
set_option linter.unusedSimpArgs false

/-- The table of counts, its first m numbers made; a row of it. -/
def tabL (m : Nat) : List Int := (List.range 221).map fun j => if j < m then (V (j / 13) (j % 13) : Int) else 0
def rowL (n : Nat) : List Int := (List.range 13).map fun k => (V n k : Int)
def cel (l : List Int) : Array Value := (l.map (Value.int .u64)).toArray
def zer : Array Value := cel (tabL 0)
def tabC : Array Value := cel (tabL 221)
def rowC (n : Nat) : Array Value := cel (rowL n)
theorem tabL_len (m : Nat) : (tabL m).length = 221 := by simp [tabL]
theorem rowL_len (n : Nat) : (rowL n).length = 13 := by simp [rowL]
theorem cel_size (l : List Int) : (cel l).size = l.length := by simp [cel]
theorem tabC_size : tabC.size = 221 := by unfold tabC; rw [cel_size, tabL_len]
theorem zer_size : zer.size = 221 := by unfold zer; rw [cel_size, tabL_len]
theorem rowC_size (n : Nat) : (rowC n).size = 13 := by unfold rowC; rw [cel_size, rowL_len]
theorem cel_one (l : List Int) : (cel l).all (·.oneCell') = true := by
  refine Array.all_eq_true_iff_forall_mem.2 fun v hv => ?_
  simp only [cel, List.mem_toArray, List.mem_map] at hv
  obtain ⟨x, _, rfl⟩ := hv
  rfl
theorem tabL_at (m j : Nat) (h : j < m) (hj : j < 221) : (tabL m).getD j 0 = (V (j / 13) (j % 13) : Int) := by simp [tabL, hj, h]
theorem tabL_row (m n k : Nat) (h : 13 * n + k < m) (hn : n < 17) (hk : k < 13) : (tabL m).getD (13 * n + k) 0 = (V n k : Int) := by
  rw [tabL_at m _ h (by omega), show (13 * n + k) / 13 = n by omega, show (13 * n + k) % 13 = k by omega]
theorem rowL_at (n k : Nat) (h : k < 13) : (rowL n).getD k 0 = (V n k : Int) := by simp [rowL, h]
theorem rowC_at (n k : Nat) (h : k < 13) : (rowC n)[k]? = some (.int .u64 (V n k : Nat)) := by
  simp [rowC, cel, rowL, h]
theorem tabL_set (m : Nat) (h : m < 221) : (tabL m).set m (V (m / 13) (m % 13) : Nat) = tabL (m + 1) := by
  refine list_ext_getD (by simp [tabL]) fun j hj => ?_
  have hj : j < 221 := by simpa [tabL] using hj
  rw [List.getD_eq_getElem?_getD, List.getElem?_set]
  by_cases e : m = j
  · subst e
    simp [tabL, h]
  · rw [if_neg e]
    simp only [tabL, List.getElem?_map, List.getElem?_range hj, Option.map_some, Option.getD_some, List.getD_eq_getElem?_getD]
    have : (j < m) ↔ (j < m + 1) := by omega
    simp only [this]
theorem tabL_next (n k : Nat) (hn : n < 17) (hk : k < 13) : (tabL (13 * n + k)).set (13 * n + k) (V n k : Nat) = tabL (13 * n + k + 1) := by
  have := tabL_set (13 * n + k) (by omega)
  rwa [show (13 * n + k) / 13 = n by omega, show (13 * n + k) % 13 = k by omega] at this
theorem tabL_start : (tabL 0).set 0 1 = tabL 13 := by
  refine list_ext_getD (by simp [tabL]) fun j hj => ?_
  have hj : j < 221 := by simpa [tabL] using hj
  rw [List.getD_eq_getElem?_getD, List.getElem?_set]
  by_cases e : j = 0
  · subst e
    simp [tabL, V]
  · rw [if_neg (Ne.symm e)]
    simp only [tabL, List.getElem?_map, List.getElem?_range hj, Option.map_some, Option.getD_some, List.getD_eq_getElem?_getD]
    rw [if_neg (by omega)]
    by_cases h13 : j < 13
    · rw [if_pos h13, show j / 13 = 0 by omega, V_zero, if_neg (by omega)]; rfl
    · rw [if_neg h13]
theorem tab_range {w : World} {g m n : Nat} {t : TypeId} (h : w.heap[g]? = some (.cells (cel (tabL m)) t (0, 0))) (hm : 13 * (n + 1) ≤ m) (hn : n < 17) : w.rangeAt g (13 * n) ((rowL n).map (Value.int .u64)) := by
  intro j v hv
  have hj : j < 13 := by
    have := (List.getElem?_eq_some_iff.1 hv).1
    simpa [rowL] using this
  have e1 := (cell_of_row h (13 * n + j) (by rw [tabL_len]; omega)).1
  rw [e1, tabL_row m n j (by omega) hn hj, ← hv]
  simp [rowL, hj]
theorem tab_part (n : Nat) (hn : n < 17) : tabC.extract (n * 13) (n * 13 + 13) = rowC n := by
  apply Array.ext_getElem?
  intro j
  by_cases hj : j < 13
  · rw [rowC_at n j hj, Array.getElem?_extract]
    have h1 : n * 13 + j < 221 := by omega
    rw [if_pos (by rw [tabC_size]; omega)]
    have := tabL_row 221 n j (by omega) hn hj
    rw [Nat.mul_comm n 13]
    simp only [tabC, cel, List.getElem?_toArray, List.getElem?_map]
    rw [List.getD_eq_getElem?_getD] at this
    rw [List.getElem?_eq_getElem (by rw [tabL_len]; omega)] at this ⊢
    simp only [Option.getD_some] at this
    simp only [Option.map_some, this]
  · rw [Array.getElem?_eq_none (by rw [Array.size_extract, tabC_size]; omega), Array.getElem?_eq_none (by rw [rowC_size]; omega)]
end Go.Proofs.Ytlpjkahppogkiaa
