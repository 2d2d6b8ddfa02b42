/- Whole arrays by value (a new one, one stored whole, one out of the middle of a block, an element); rows of a call's own as plain cells. Nothing of the program is imported. -/
import Derived.Test.YtdgacbelpenmmaaBoxes
import Derived.Laws.Rows
import Derived.Deep.MidRow
import Derived.Deep.WholeRow
namespace Go.Proofs.Ytdgacbelpenmmaa
open Go.RowKit
set_option linter.unusedVariables false
set_option linter.unusedSimpArgs false

theorem block_in {w : World} {g : Nat} {o : Obj} (h : w.heap[g]? = some o) : g < w.heap.size := by
  rcases Nat.lt_or_ge g w.heap.size with h' | h'
  · exact h'
  · rw [Array.getElem?_eq_none h'] at h; cases h

/-- A new variable of any type, its zero value as one row of cells; the world behind it by what it holds. -/
theorem wpList_alloc_zero {P : Program} {ops : Array Oper} {rest : List Oper} {o : Oper} {a : Act} {w : World} {Q : Exit → Act → World → Prop} (hgd : o.guard = none) (t : TypeId) (ho : o.op = .alloc t)
    (dst : Option Tmp) (hdst : o.dst = dst) (z : Value) (n : Nat) (hz : (P.info? t).map (fun i => (i.zero, i.size)) = some (some z, n))
    (h : ∀ w', w'.heap[w.heap.size]? = some (.cells z.cells t (0, 0)) → Below w.heap.size w w' → w'.heap.size = w.heap.size + 1 → wpList P ops Q rest (a.put dst (.pointer (some ⟨w.heap.size, 0, none⟩))) w') : wpList P ops Q (o :: rest) a w := by
  subst hdst
  refine wpList_plain hgd fun K hK => ?_
  have h1 := (zero_of_info hz).1 w
  have hr : (Instr.alloc t true (.tuple #[])).run P w = .ok (.pointer (some ⟨w.heap.size, 0, none⟩)) (w.alloc (.cells z.cells t)) := by
    simp only [Instr.alloc, Sem.run_bind, h1, newVar, newRow, run_newObj_alloc, Result.andThen_ok, Sem.run_pure]
  unfold Oper.wp execOp
  simp only [ho, Sem.run_bind, hr, Result.andThen_ok, Sem.run_pure]
  exact hK _ _ (h _ (heap_alloc_last w _) (below1 w _) (World.size_alloc _ _))

/-- A whole array into a variable of its own. -/
theorem wpList_store_whole {P : Program} {ops : Array Oper} {rest : List Oper} {o : Oper} {a : Act} {w : World} {Q : Exit → Act → World → Prop} (hgd : o.guard = none) (ty : TypeId) (x y : Operand) (ho : o.op = .store ty x y)
    (g B : Nat) (cells : Array Value) (hx : a.eval x = .pointer (some ⟨g, 0, none⟩)) (hy : a.eval y = .agg cells)
    (t : TypeId) (old : Array Value) (hg : w.heap[g]? = some (.cells old t (0, 0))) (hi : (P.info? ty).map (·.size) = some cells.size)
    (hold : old.size = cells.size) (h1 : cells.all (·.oneCell') = true) (hB : B ≤ g)
    (h : ∀ w', w'.heap[g]? = some (.cells cells t (0, 0)) → Below B w w' → w'.heap.size = w.heap.size → (∀ i, i ≠ g → w'.heap[i]? = w.heap[i]?) → wpList P ops Q rest (a.put o.dst undef) w') : wpList P ops Q (o :: rest) a w := by
  refine wpList_store_row hgd ty x y ho g cells hx hy t old hg hi hold h1 ?_
  have ho : ∀ i, i ≠ g → (w.setRow g cells).heap[i]? = w.heap[i]? := fun i hi => setRow_other w g i cells hi
  exact h _ (setRow_heap w g old cells t (0, 0) hg) ⟨rfl, rfl, rfl, by simp, fun i hi => ho i (by omega)⟩ (by simp) ho

/-- A whole array out of the middle of a block. -/
theorem wpList_load_part {P : Program} {ops : Array Oper} {rest : List Oper} {op : Oper} {a : Act} {w : World} {Q : Exit → Act → World → Prop} (hgd : op.guard = none) (ty : TypeId) (x : Operand) (ho : op.op = .load ty x)
    (b o : Nat) (hx : a.eval x = .pointer (some ⟨b, o, none⟩)) (cs : List Value) (cs' : Array Value) (hcs : cs.toArray = cs') (n : Nat) (e : TypeId) (hc : w.rangeAt b o cs)
    (hu : P.underlying ty = some (.array n e)) (hi : (P.info? ty).map (·.size) = some cs.length)
    (h : wpList P ops Q rest (a.put op.dst (.agg cs')) w) : wpList P ops Q (op :: rest) a w := by
  subst hcs
  exact wpList_load_mid hgd ty x ho b o hx cs _ hc hu rfl hi h

/-- An element of an array by value: one cell. -/
theorem wpList_index_one {P : Program} {ops : Array Oper} {rest : List Oper} {o : Oper} {a : Act} {w : World} {Q : Exit → Act → World → Prop} (hgd : o.guard = none) (t : TypeId) (x ix : Operand) (ho : o.op = .index t x ix)
    (len : Nat) (e : TypeId) (k2 : IntKind) (cs : Array Value) (kd : IntKind) (i : Int) (v : Value) (hx : a.eval x = .agg cs) (hix : a.eval ix = .int kd i) (h0 : 0 ≤ i) (h1 : i < len)
    (hu : P.underlying t = some (.array len e)) (hue : P.underlying e = some (.int k2)) (hs : (P.info? e).map (·.size) = some 1) (hv : cs[i.toNat]? = some v)
    (h : wpList P ops Q rest (a.put o.dst v) w) : wpList P ops Q (o :: rest) a w := by
  refine wpList_plain hgd fun K hK => ?_
  have hagg : (isAgg e).run P w = .ok false w := by
    unfold isAgg
    rw [Sem.run_bind, run_underlying hue w]
    simp
  have hr : (Instr.index t (.agg cs) (.int kd i)).run P w = .ok v w := by
    cases hq : P.info? e with
    | none => simp [hq] at hs
    | some inf =>
      have hsz : inf.size = 1 := by simpa [hq] using hs
      have hso : (sizeOf e).run P w = .ok 1 w := by simp [sizeOf, typeInfo, hq, hsz]
      simp [Instr.index, Sem.run_bind, run_underlying hu w, asIntOf, h0, h1, hso, part, hagg, hv]
  unfold Oper.wp execOp
  simp only [ho, hx, hix, Sem.run_bind, hr, Result.andThen_ok, Sem.run_pure]
  exact hK _ _ h

/-- An element of an array of arrays by value: a row of cells. -/
theorem wpList_index_part {P : Program} {ops : Array Oper} {rest : List Oper} {o : Oper} {a : Act} {w : World} {Q : Exit → Act → World → Prop} (hgd : o.guard = none) (t : TypeId) (x ix : Operand) (ho : o.op = .index t x ix)
    (len m : Nat) (e e2 : TypeId) (sz : Nat) (cs cs' : Array Value) (kd : IntKind) (i : Int) (hx : a.eval x = .agg cs) (hix : a.eval ix = .int kd i) (h0 : 0 ≤ i) (h1 : i < len)
    (hu : P.underlying t = some (.array len e)) (hue : P.underlying e = some (.array m e2)) (hs : (P.info? e).map (·.size) = some sz) (hv : cs.extract (i.toNat * sz) (i.toNat * sz + sz) = cs')
    (h : wpList P ops Q rest (a.put o.dst (.agg cs')) w) : wpList P ops Q (o :: rest) a w := by
  refine wpList_plain hgd fun K hK => ?_
  have hagg : (isAgg e).run P w = .ok true w := by
    unfold isAgg
    rw [Sem.run_bind, run_underlying hue w]
    simp
  have hr : (Instr.index t (.agg cs) (.int kd i)).run P w = .ok (.agg cs') w := by
    cases hq : P.info? e with
    | none => simp [hq] at hs
    | some inf =>
      have hsz : inf.size = sz := by simpa [hq] using hs
      have hso : (sizeOf e).run P w = .ok sz w := by simp [sizeOf, typeInfo, hq, hsz]
      simp [Instr.index, Sem.run_bind, run_underlying hu w, asIntOf, h0, h1, hso, part, hagg, hv]
  unfold Oper.wp execOp
  simp only [ho, hx, hix, Sem.run_bind, hr, Result.andThen_ok, Sem.run_pure]
  exact hK _ _ h

theorem bgrow {w wr w2 : World} {base : Nat} {v : Value} {e : TypeId} {n : Nat} {xs : List Value} {o : Obj} (hbr : Below w.heap.size w wr) (hown : wr.ownsRow base e 1 v n xs) (hB : w.heap.size ≤ base) (hgrow : (wr.alloc o).grownBy w2 v.ownBlock) : Below w.heap.size w w2 :=
  (hbr.alloc hbr.size o).grown hgrow (by have := hbr.size; simp; omega) (fun k hk => by have := (hown.lt k hk).1; omega)

theorem two_cells (k : IntKind) (x y : Int) : ∀ u ∈ [Value.int k x, Value.int k y], u.oneCell' = true := by intro u hu; simp at hu; rcases hu with rfl | rfl <;> rfl

theorem own_ints {w : World} {base q : Nat} {v : Value} {e : TypeId} {xs : List Int} {k : IntKind} (h : w.ownsRow base e 1 v q (xs.map (Value.int k))) (hq : 0 < q) : ∃ b cap, v = .slice (some ⟨b, 0, none⟩) q cap ∧ base ≤ b ∧ b < w.heap.size ∧ ∀ p, p < q → w.cell? ⟨b, p, none⟩ = some (.int k (xs.getD p 0)) := by
  have hx : xs.length = q := by have := h.1; simpa using this
  obtain ⟨a, cap, hv, hr⟩ := RwF.of_owns h
  rw [hx] at hv hr
  obtain ⟨b, off, rfl, hb, hlt, hc⟩ := hr.resolve_left (by intro h0; rw [h0] at hx; simp at hx; omega)
  obtain ⟨_, h2⟩ := h
  rcases h2 with ⟨h2, _⟩ | ⟨g, cap', cur, h2, _⟩
  · rw [hv] at h2; cases h2
  · rw [hv] at h2
    simp only [Value.slice.injEq, Option.some.injEq, Addr.mk.injEq] at h2
    obtain ⟨⟨rfl, rfl, _⟩, _, rfl⟩ := h2
    refine ⟨b, cap, hv, hb, hlt, fun p hp => ?_⟩
    have := hc p hp
    rw [Nat.zero_add] at this
    exact this

theorem rw_cells {k : IntKind} {w : World} {g n c : Nat} {ys : List Int} (h : Rw k w (.slice (some ⟨g, 0, none⟩) n c) ys) (hn : 0 < n) : g < w.heap.size ∧ ∀ j, j < n → w.cell? ⟨g, j, none⟩ = some (.int k (ys.getD j 0)) := by
  obtain ⟨a, cap, he, hr⟩ := h
  simp only [Value.slice.injEq] at he
  obtain ⟨rfl, rfl, rfl⟩ := he
  obtain ⟨b, off, ha, hlt, hc⟩ := hr.resolve_left (by intro h0; rw [h0] at hn; simp at hn)
  simp only [Option.some.injEq, Addr.mk.injEq] at ha
  obtain ⟨rfl, rfl, _⟩ := ha
  refine ⟨hlt, fun j hj => ?_⟩
  have := hc j hj
  rw [Nat.zero_add] at this
  exact this
/-- Integers that fit. -/
def Fits (y : List Int) : Prop := ∀ j, -9223372036854775808 ≤ y.getD j 0 ∧ y.getD j 0 ≤ 9223372036854775807
theorem fits_of {y : List Int} (h : ∀ x ∈ y, (Lit.int .i64 x).wf = true) : Fits y := fun j => by
  rw [List.getD_eq_getElem?_getD]
  by_cases hj : j < y.length
  · rw [List.getElem?_eq_getElem hj]
    have := h _ (List.getElem_mem hj)
    simp [Lit.wf, IntKind.min, IntKind.max, IntKind.bits, IntKind.signed] at this
    simp only [Option.getD_some]
    omega
  · rw [List.getElem?_eq_none (by omega)]; simp
theorem all_one (k : IntKind) (l : List Int) : ((l.map (Value.int k)).toArray).all (·.oneCell') = true := by
  refine Array.all_eq_true_iff_forall_mem.2 fun v hv => ?_
  simp only [List.mem_toArray, List.mem_map] at hv
  obtain ⟨x, _, rfl⟩ := hv
  rfl
theorem list_ext_getD {l m : List Int} (h : l.length = m.length) (he : ∀ j, j < l.length → l.getD j 0 = m.getD j 0) : l = m := by
  refine List.ext_getElem h fun j h1 h2 => ?_
  have := he j h1
  simpa [List.getD_eq_getElem?_getD, h1, h2] using this
end Go.Proofs.Ytdgacbelpenmmaa
