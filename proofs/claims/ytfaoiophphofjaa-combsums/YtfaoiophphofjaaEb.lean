/- Whole arrays by value: a new one, one stored whole, a part of one; and the table of counts as cells. Nothing of the program is imported. -/
import Derived.Test.YtfaoiophphofjaaEa
import Derived.Test.YtfaoiophphofjaaBoxes
import Derived.Laws.Rows
import Derived.Deep.MidRow
import Derived.Deep.WholeRow
namespace Go.Proofs.Ytfaoiophphofjaa
open Go.RowKit
set_option linter.unusedVariables false
set_option linter.unusedSimpArgs false

theorem block_in {w : World} {g : Nat} {o : Obj} (h : w.heap[g]? = some o) : g < w.heap.size := by
  rcases Nat.lt_or_ge g w.heap.size with h' | h'
  · exact h'
  · rw [Array.getElem?_eq_none h'] at h; cases h

/-- A new variable of any type, its zero value as one row of cells; the world behind it by what it holds. -/
theorem wpList_alloc_zero {P : Program} {ops : Array Oper} {rest : List Oper} {o : Oper} {a : Act} {w : World} {Q : Exit → Act → World → Prop} (hgd : o.guard = none) (t : TypeId) (ho : o.op = .alloc t)
    (dst : Option Tmp) (hdst : o.dst = dst) (z : Value) (n : Nat) (hz : (P.info? t).map (fun i => (i.zero, i.size)) = some (some z, n))
    (h : ∀ w', w'.heap[w.heap.size]? = some (.cells z.cells t (0, 0)) → Below w.heap.size w w' → w'.heap.size = w.heap.size + 1 → wpList P ops Q rest (a.put dst (.pointer (some ⟨w.heap.size, 0, none⟩))) w') : wpList P ops Q (o :: rest) a w := by
  subst hdst
  refine wpList_plain hgd fun K hK => ?_
  have h1 := (zero_of_info hz).1 w
  have hr : (Instr.alloc t true (.tuple #[])).run P w = .ok (.pointer (some ⟨w.heap.size, 0, none⟩)) (w.alloc (.cells z.cells t)) := by
    simp only [Instr.alloc, Sem.run_bind, h1, newVar, newRow, run_newObj_alloc, Result.andThen_ok, Sem.run_pure]
  unfold Oper.wp execOp
  simp only [ho, Sem.run_bind, hr, Result.andThen_ok, Sem.run_pure]
  exact hK _ _ (h _ (heap_alloc_last w _) (below1 w _) (World.size_alloc _ _))

/-- A whole array into a variable of its own. -/
theorem wpList_store_whole {P : Program} {ops : Array Oper} {rest : List Oper} {o : Oper} {a : Act} {w : World} {Q : Exit → Act → World → Prop} (hgd : o.guard = none) (ty : TypeId) (x y : Operand) (ho : o.op = .store ty x y)
    (g B : Nat) (cells : Array Value) (hx : a.eval x = .pointer (some ⟨g, 0, none⟩)) (hy : a.eval y = .agg cells)
    (t : TypeId) (old : Array Value) (hg : w.heap[g]? = some (.cells old t (0, 0))) (hi : (P.info? ty).map (·.size) = some cells.size)
    (hold : old.size = cells.size) (h1 : cells.all (·.oneCell') = true) (hB : B ≤ g)
    (h : ∀ w', w'.heap[g]? = some (.cells cells t (0, 0)) → Below B w w' → w'.heap.size = w.heap.size → (∀ i, i ≠ g → w'.heap[i]? = w.heap[i]?) → wpList P ops Q rest (a.put o.dst undef) w') : wpList P ops Q (o :: rest) a w := by
  refine wpList_store_row hgd ty x y ho g cells hx hy t old hg hi hold h1 ?_
  have ho : ∀ i, i ≠ g → (w.setRow g cells).heap[i]? = w.heap[i]? := fun i hi => setRow_other w g i cells hi
  exact h _ (setRow_heap w g old cells t (0, 0) hg) ⟨rfl, rfl, rfl, by simp, fun i hi => ho i (by omega)⟩ (by simp) ho

/-- A whole array out of the middle of a block. -/
theorem wpList_load_part {P : Program} {ops : Array Oper} {rest : List Oper} {op : Oper} {a : Act} {w : World} {Q : Exit → Act → World → Prop} (hgd : op.guard = none) (ty : TypeId) (x : Operand) (ho : op.op = .load ty x)
    (b o : Nat) (hx : a.eval x = .pointer (some ⟨b, o, none⟩)) (cs : List Value) (cs' : Array Value) (hcs : cs.toArray = cs') (n : Nat) (e : TypeId) (hc : w.rangeAt b o cs)
    (hu : P.underlying ty = some (.array n e)) (hi : (P.info? ty).map (·.size) = some cs.length)
    (h : wpList P ops Q rest (a.put op.dst (.agg cs')) w) : wpList P ops Q (op :: rest) a w := by
  subst hcs
  exact wpList_load_mid hgd ty x ho b o hx cs _ hc hu rfl hi h

/-- An element of an array by value: one cell. -/
theorem wpList_index_one {P : Program} {ops : Array Oper} {rest : List Oper} {o : Oper} {a : Act} {w : World} {Q : Exit → Act → World → Prop} (hgd : o.guard = none) (t : TypeId) (x ix : Operand) (ho : o.op = .index t x ix)
    (len : Nat) (e : TypeId) (k2 : IntKind) (cs : Array Value) (kd : IntKind) (i : Int) (v : Value) (hx : a.eval x = .agg cs) (hix : a.eval ix = .int kd i) (h0 : 0 ≤ i) (h1 : i < len)
    (hu : P.underlying t = some (.array len e)) (hue : P.underlying e = some (.int k2)) (hs : (P.info? e).map (·.size) = some 1) (hv : cs[i.toNat]? = some v)
    (h : wpList P ops Q rest (a.put o.dst v) w) : wpList P ops Q (o :: rest) a w := by
  refine wpList_plain hgd fun K hK => ?_
  have hagg : (isAgg e).run P w = .ok false w := by
    unfold isAgg
    rw [Sem.run_bind, run_underlying hue w]
    simp
  have hr : (Instr.index t (.agg cs) (.int kd i)).run P w = .ok v w := by
    cases hq : P.info? e with
    | none => simp [hq] at hs
    | some inf =>
      have hsz : inf.size = 1 := by simpa [hq] using hs
      have hso : (sizeOf e).run P w = .ok 1 w := by simp [sizeOf, typeInfo, hq, hsz]
      simp [Instr.index, Sem.run_bind, run_underlying hu w, asIntOf, h0, h1, hso, part, hagg, hv]
  unfold Oper.wp execOp
  simp only [ho, hx, hix, Sem.run_bind, hr, Result.andThen_ok, Sem.run_pure]
  exact hK _ _ h

/-- An element of an array of arrays by value: a row of cells. -/
theorem wpList_index_part {P : Program} {ops : Array Oper} {rest : List Oper} {o : Oper} {a : Act} {w : World} {Q : Exit → Act → World → Prop} (hgd : o.guard = none) (t : TypeId) (x ix : Operand) (ho : o.op = .index t x ix)
    (len m : Nat) (e e2 : TypeId) (sz : Nat) (cs cs' : Array Value) (kd : IntKind) (i : Int) (hx : a.eval x = .agg cs) (hix : a.eval ix = .int kd i) (h0 : 0 ≤ i) (h1 : i < len)
    (hu : P.underlying t = some (.array len e)) (hue : P.underlying e = some (.array m e2)) (hs : (P.info? e).map (·.size) = some sz) (hv : cs.extract (i.toNat * sz) (i.toNat * sz + sz) = cs')
    (h : wpList P ops Q rest (a.put o.dst (.agg cs')) w) : wpList P ops Q (o :: rest) a w := by
  refine wpList_plain hgd fun K hK => ?_
  have hagg : (isAgg e).run P w = .ok true w := by
    unfold isAgg
    rw [Sem.run_bind, run_underlying hue w]
    simp
  have hr : (Instr.index t (.agg cs) (.int kd i)).run P w = .ok (.agg cs') w := by
    cases hq : P.info? e with
    | none => simp [hq] at hs
    | some inf =>
      have hsz : inf.size = sz := by simpa [hq] using hs
      have hso : (sizeOf e).run P w = .ok sz w := by simp [sizeOf, typeInfo, hq, hsz]
      simp [Instr.index, Sem.run_bind, run_underlying hu w, asIntOf, h0, h1, hso, part, hagg, hv]
  unfold Oper.wp execOp
  simp only [ho, hx, hix, Sem.run_bind, hr, Result.andThen_ok, Sem.run_pure]
  exact hK _ _ h

/-- The table of counts, its first m numbers made; a row of it. -/
def tabL (m : Nat) : List Int := (List.range 221).map fun j => if j < m then (V (j / 13) (j % 13) : Int) else 0
def rowL (n : Nat) : List Int := (List.range 13).map fun k => (V n k : Int)
def cel (l : List Int) : Array Value := (l.map (Value.int .u64)).toArray
def zer : Array Value := cel (tabL 0)
def tabC : Array Value := cel (tabL 221)
def rowC (n : Nat) : Array Value := cel (rowL n)
theorem tabL_len (m : Nat) : (tabL m).length = 221 := by simp [tabL]
theorem rowL_len (n : Nat) : (rowL n).length = 13 := by simp [rowL]
theorem cel_size (l : List Int) : (cel l).size = l.length := by simp [cel]
theorem tabC_size : tabC.size = 221 := by unfold tabC; rw [cel_size, tabL_len]
theorem zer_size : zer.size = 221 := by unfold zer; rw [cel_size, tabL_len]
theorem rowC_size (n : Nat) : (rowC n).size = 13 := by unfold rowC; rw [cel_size, rowL_len]
theorem cel_one (l : List Int) : (cel l).all (·.oneCell') = true := by
  refine Array.all_eq_true_iff_forall_mem.2 fun v hv => ?_
  simp only [cel, List.mem_toArray, List.mem_map] at hv
  obtain ⟨x, _, rfl⟩ := hv
  rfl
theorem tabL_at (m j : Nat) (h : j < m) (hj : j < 221) : (tabL m).getD j 0 = (V (j / 13) (j % 13) : Int) := by simp [tabL, hj, h]
theorem tabL_row (m n k : Nat) (h : 13 * n + k < m) (hn : n < 17) (hk : k < 13) : (tabL m).getD (13 * n + k) 0 = (V n k : Int) := by
  rw [tabL_at m _ h (by omega), show (13 * n + k) / 13 = n by omega, show (13 * n + k) % 13 = k by omega]
theorem rowL_at (n k : Nat) (h : k < 13) : (rowL n).getD k 0 = (V n k : Int) := by simp [rowL, h]
theorem rowC_at (n k : Nat) (h : k < 13) : (rowC n)[k]? = some (.int .u64 (V n k : Nat)) := by
  simp [rowC, cel, rowL, h]
theorem list_ext_getD {l m : List Int} (h : l.length = m.length) (he : ∀ j, j < l.length → l.getD j 0 = m.getD j 0) : l = m := by
  refine List.ext_getElem h fun j h1 h2 => ?_
  have := he j h1
  simpa [List.getD_eq_getElem?_getD, h1, h2] using this
theorem tabL_set (m : Nat) (h : m < 221) : (tabL m).set m (V (m / 13) (m % 13) : Nat) = tabL (m + 1) := by
  refine list_ext_getD (by simp [tabL]) fun j hj => ?_
  have hj : j < 221 := by simpa [tabL] using hj
  rw [List.getD_eq_getElem?_getD, List.getElem?_set]
  by_cases e : m = j
  · subst e
    simp [tabL, h]
  · rw [if_neg e]
    simp only [tabL, List.getElem?_map, List.getElem?_range hj, Option.map_some, Option.getD_some, List.getD_eq_getElem?_getD]
    have : (j < m) ↔ (j < m + 1) := by omega
    simp only [this]
theorem tabL_next (n k : Nat) (hn : n < 17) (hk : k < 13) : (tabL (13 * n + k)).set (13 * n + k) (V n k : Nat) = tabL (13 * n + k + 1) := by
  have := tabL_set (13 * n + k) (by omega)
  rwa [show (13 * n + k) / 13 = n by omega, show (13 * n + k) % 13 = k by omega] at this
theorem tabL_start : (tabL 0).set 0 1 = tabL 13 := by
  refine list_ext_getD (by simp [tabL]) fun j hj => ?_
  have hj : j < 221 := by simpa [tabL] using hj
  rw [List.getD_eq_getElem?_getD, List.getElem?_set]
  by_cases e : j = 0
  · subst e
    simp [tabL, V]
  · rw [if_neg (Ne.symm e)]
    simp only [tabL, List.getElem?_map, List.getElem?_range hj, Option.map_some, Option.getD_some, List.getD_eq_getElem?_getD]
    rw [if_neg (by omega)]
    by_cases h13 : j < 13
    · rw [if_pos h13, show j / 13 = 0 by omega, V_zero, if_neg (by omega)]; rfl
    · rw [if_neg h13]
theorem tab_range {w : World} {g m n : Nat} {t : TypeId} (h : w.heap[g]? = some (.cells (cel (tabL m)) t (0, 0))) (hm : 13 * (n + 1) ≤ m) (hn : n < 17) : w.rangeAt g (13 * n) ((rowL n).map (Value.int .u64)) := by
  intro j v hv
  have hj : j < 13 := by
    have := (List.getElem?_eq_some_iff.1 hv).1
    simpa [rowL] using this
  have e1 := (cell_of_row h (13 * n + j) (by rw [tabL_len]; omega)).1
  rw [e1, tabL_row m n j (by omega) hn hj, ← hv]
  simp [rowL, hj]
theorem tab_part (n : Nat) (hn : n < 17) : tabC.extract (n * 13) (n * 13 + 13) = rowC n := by
  apply Array.ext_getElem?
  intro j
  by_cases hj : j < 13
  · rw [rowC_at n j hj, Array.getElem?_extract]
    have h1 : n * 13 + j < 221 := by omega
    rw [if_pos (by rw [tabC_size]; omega)]
    have := tabL_row 221 n j (by omega) hn hj
    rw [Nat.mul_comm n 13]
    simp only [tabC, cel, List.getElem?_toArray, List.getElem?_map]
    rw [List.getD_eq_getElem?_getD] at this
    rw [List.getElem?_eq_getElem (by rw [tabL_len]; omega)] at this ⊢
    simp only [Option.getD_some] at this
    simp only [Option.map_some, this]
  · rw [Array.getElem?_eq_none (by rw [Array.size_extract, tabC_size]; omega), Array.getElem?_eq_none (by rw [rowC_size]; omega)]
end Go.Proofs.Ytfaoiophphofjaa
