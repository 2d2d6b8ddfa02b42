/- Lists by their places, blocks of memory that hold a list and no more, memory that is the same but for a block; small helpers. Nothing of the program is imported. -/
import Derived.Test.YtdgacbelpenmmaaArrays
namespace Go.Proofs.Ytdgacbelpenmmaa
open Go.RowKit
set_option linter.unusedVariables false
set_option linter.unusedSimpArgs false

/-- A list by its places. -/
def tab (n : Nat) (f : Nat → Int) : List Int := (List.range n).map f
theorem tab_len (n : Nat) (f : Nat → Int) : (tab n f).length = n := by simp [tab]
theorem tab_at (n : Nat) (f : Nat → Int) (i : Nat) (h : i < n) : (tab n f).getD i 0 = f i := by simp [tab, h]
theorem tab_eq {l : List Int} {n : Nat} {f : Nat → Int} (hl : l.length = n) (h : ∀ i, i < n → l.getD i 0 = f i) : l = tab n f :=
  list_ext_getD (by rw [hl, tab_len]) fun j hj => by rw [tab_at n f j (by omega)]; exact h j (by omega)
theorem tab_congr {n : Nat} {f g : Nat → Int} (h : ∀ i, i < n → f i = g i) : tab n f = tab n g :=
  tab_eq (tab_len n f) fun i hi => by rw [tab_at n f i hi]; exact h i hi
theorem getD_set_at (l : List Int) (i j : Nat) (v : Int) (h : i < l.length) : (l.set i v).getD j 0 = if j = i then v else l.getD j 0 := by
  simp only [List.getD_eq_getElem?_getD, List.getElem?_set]
  by_cases e : i = j
  · subst e; simp [h]
  · rw [if_neg e, if_neg (by omega)]
theorem tab_set (n : Nat) (f : Nat → Int) (j : Nat) (v : Int) (h : j < n) : (tab n f).set j v = tab n fun i => if i = j then v else f i :=
  tab_eq (by simp [tab_len]) fun i hi => by
    rw [getD_set_at _ _ _ _ (by rw [tab_len]; exact h), tab_at n f i hi]
theorem tab_push (n : Nat) (f : Nat → Int) : tab (n + 1) f = tab n f ++ [f n] := by simp [tab, List.range_succ]
theorem tab_zero (n : Nat) : List.replicate n (0 : Int) = tab n fun _ => 0 :=
  tab_eq (by simp) fun i hi => by simp [hi]
theorem getD_app_l (l m : List Int) (j : Nat) (h : j < l.length) : (l ++ m).getD j 0 = l.getD j 0 := by
  simp [List.getD_eq_getElem?_getD, List.getElem?_append_left h]
theorem getD_app_r (l m : List Int) (j : Nat) (h : l.length ≤ j) : (l ++ m).getD j 0 = m.getD (j - l.length) 0 := by
  simp [List.getD_eq_getElem?_getD, List.getElem?_append_right h]
theorem getD_take (l : List Int) (n j : Nat) (h : j < n) : (l.take n).getD j 0 = l.getD j 0 := by
  simp [List.getD_eq_getElem?_getD, List.getElem?_take_of_lt h]
theorem getD_drop (l : List Int) (n j : Nat) : (l.drop n).getD j 0 = l.getD (n + j) 0 := by
  simp [List.getD_eq_getElem?_getD, List.getElem?_drop]
/-- All numbers lie from lo to hi. -/
def Bd (lo hi : Int) (x : List Int) : Prop := ∀ j, j < x.length → lo ≤ x.getD j 0 ∧ x.getD j 0 ≤ hi
theorem Bd.take {lo hi : Int} {x : List Int} (h : Bd lo hi x) (n : Nat) : Bd lo hi (x.take n) := fun j hj => by
  rw [List.length_take] at hj
  rw [getD_take _ _ _ (by omega)]
  exact h j (by omega)
theorem Bd.mono {lo hi lo' hi' : Int} {x : List Int} (h : Bd lo hi x) (h1 : lo' ≤ lo) (h2 : hi ≤ hi') : Bd lo' hi' x := fun j hj => by
  have := h j hj; omega
theorem hid {p : Prop} (h : p) : Hid p := h
theorem info_parts {P : Program} {t : TypeId} {z : Value} {n b : Nat} (h : (P.info? t).map (fun i => (i.zero, i.size, i.bytes)) = some (some z, n, b)) : ∃ i, P.info? t = some i ∧ i.zero = some z ∧ i.size = n ∧ i.bytes = b := by
  cases hq : P.info? t with
  | none => simp [hq] at h
  | some i => simp [hq] at h; exact ⟨i, rfl, h.1, h.2.1, h.2.2⟩
/-- The block g holds the numbers xs, and no more. -/
def Blk (k : IntKind) (t : TypeId) (w : World) (g : Nat) (xs : List Int) : Prop := w.heap[g]? = some (.cells (xs.map (Value.int k)).toArray t (0, 0))
theorem Blk.lt {k : IntKind} {t : TypeId} {w : World} {g : Nat} {xs : List Int} (h : Blk k t w g xs) : g < w.heap.size := block_in h
theorem Blk.cell {k : IntKind} {t : TypeId} {w : World} {g : Nat} {xs : List Int} (h : Blk k t w g xs) (i : Nat) (hi : i < xs.length) : w.cell? ⟨g, i, none⟩ = some (.int k (xs.getD i 0)) := (cell_of_row h i hi).1
theorem Blk.free {k : IntKind} {t : TypeId} {w : World} {g : Nat} {xs : List Int} (h : Blk k t w g xs) (i : Nat) (hi : i < xs.length) : w.frozen? ⟨g, i, none⟩ = false := (cell_of_row h i hi).2
theorem Blk.set {k : IntKind} {t : TypeId} {w : World} {g : Nat} {xs : List Int} (h : Blk k t w g xs) (i : Nat) (y : Int) : Blk k t (w.setCell ⟨g, i, none⟩ (.int k y)) g (xs.set i y) := row_set h i y
theorem Blk.below {k : IntKind} {t : TypeId} {w w' : World} {g : Nat} {xs : List Int} (h : Blk k t w g xs) (hb : Below w.heap.size w w') : Blk k t w' g xs := (hb.block _ h.lt).trans h
theorem Blk.other {k : IntKind} {t : TypeId} {w : World} {g : Nat} {xs : List Int} (h : Blk k t w g xs) (c o : Nat) (y : Value) (hne : g ≠ c) : Blk k t (w.setCell ⟨c, o, none⟩ y) g xs := (heap_setCell_other _ _ _ _ hne).trans h
theorem Blk.rw {k : IntKind} {t : TypeId} {w : World} {g n c : Nat} {xs : List Int} (h : Blk k t w g xs) (hn : xs.length = n) : Rw k w (.slice (some ⟨g, 0, none⟩) n c) xs := Rw.of_row h hn
theorem Blk.made {k : IntKind} {t : TypeId} {w : World} {g n base : Nat} (h : w.ownsRow base t 1 (.slice (some ⟨g, 0, none⟩) n n) n (madeCells #[.int k 0] n).toList) : Blk k t w g (tab n fun _ => 0) := by
  have := (owns_full h).1
  rw [made_one] at this
  unfold Blk
  rw [← tab_zero, List.map_replicate]
  exact this
theorem Blk.kept {k : IntKind} {t : TypeId} {w w' : World} {g c : Nat} {xs : List Int} (h : Blk k t w g xs) (hg : w.grownBy w' (some c)) (hne : g ≠ c) : Blk k t w' g xs := (hg.block g h.lt (by simpa using hne)).trans h
theorem Blk.drew {k : IntKind} {t : TypeId} {w : World} {g : Nat} {xs : List Int} (h : Blk k t w g xs) : Blk k t w.drew g xs := h
theorem grown_trans {a b c : World} {g : Nat} (h : a.grownBy b (some g)) (k : b.grownBy c (some g)) : a.grownBy c (some g) :=
  ⟨k.os.trans h.os, k.tape.trans h.tape, k.output.trans h.output, Nat.le_trans h.size k.size, fun i hi hne => (k.block i (Nat.lt_of_lt_of_le hi h.size) hne).trans (h.block i hi hne)⟩
theorem grown_below {a b : World} (h : Below a.heap.size a b) (g : Nat) : a.grownBy b (some g) :=
  ⟨h.os, h.tape, h.output, h.size, fun i hi _ => h.block i hi⟩
theorem grown_set {a b : World} {g : Nat} (h : a.grownBy b (some g)) (p o : Nat) (hp : a.heap.size ≤ p ∨ p = g) (v : Value) : a.grownBy (b.setCell ⟨p, o, none⟩ v) (some g) :=
  ⟨h.os, h.tape, h.output, by simpa [World.setCell] using h.size, fun i hi hne => by
    rw [Below.heap_setCell _ _ _ _ (by show i ≠ p; rcases hp with hp | hp; omega; intro e; exact hne (by rw [e, hp]))]
    exact h.block i hi hne⟩
theorem grown_drew {a b : World} {g : Nat} (h : a.grownBy b (some g)) : a.grownBy b.drew (some g) := ⟨h.os, h.tape, h.output, h.size, h.block⟩
/-- Two blocks set aside, memory is the same. -/
def Off (g c : Nat) (w w' : World) : Prop := ∀ i, i ≠ g → i ≠ c → w'.heap[i]? = w.heap[i]?
theorem Off.refl (g c : Nat) (w : World) : Off g c w w := fun _ _ _ => rfl
theorem Off.drew {g c : Nat} {w w' : World} (h : Off g c w w') : Off g c w w'.drew := h
theorem Off.set1 {g c : Nat} {w w' : World} (h : Off g c w w') (o : Nat) (v : Value) : Off g c w (w'.setCell ⟨g, o, none⟩ v) := fun i h1 h2 => by
  rw [Below.heap_setCell _ _ _ _ (by exact h1)]; exact h i h1 h2
theorem Off.set2 {g c : Nat} {w w' : World} (h : Off g c w w') (o : Nat) (v : Value) : Off g c w (w'.setCell ⟨c, o, none⟩ v) := fun i h1 h2 => by
  rw [Below.heap_setCell _ _ _ _ (by exact h2)]; exact h i h1 h2
theorem Off.cell {g c : Nat} {w w' : World} (h : Off g c w w') (b o : Nat) (h1 : b ≠ g) (h2 : b ≠ c) : w'.cell? ⟨b, o, none⟩ = w.cell? ⟨b, o, none⟩ := World.cell?_of_block (w := w) (h b h1 h2)
theorem block_of_cell {w : World} {b o : Nat} {v : Value} (h : w.cell? ⟨b, o, none⟩ = some v) : b < w.heap.size := World.block_lt_of_cell? w _ h
theorem fits_bd {lo hi : Int} {x : List Int} (h : Bd lo hi x) (h1 : -9223372036854775808 ≤ lo) (h2 : hi ≤ 9223372036854775807) : Fits x := fun j => by
  by_cases hj : j < x.length
  · have := h j hj; omega
  · rw [List.getD_eq_getElem?_getD, List.getElem?_eq_none (by omega)]; simp
theorem lit2 (w : World) (x y : Int) (t : TypeId) : Rw .i64 (w.alloc (.cells #[.int .i64 x, .int .i64 y] t)) (.slice (some ⟨w.heap.size, 0, none⟩) 2 2) [x, y] :=
  Rw.of_row (e := t) (cur := [x, y]) (heap_alloc_last w _) rfl
theorem lit4 (w : World) (x y z u : Int) (t : TypeId) : Rw .i64 (w.alloc (.cells #[.int .i64 x, .int .i64 y, .int .i64 z, .int .i64 u] t)) (.slice (some ⟨w.heap.size, 0, none⟩) 4 4) [x, y, z, u] :=
  Rw.of_row (e := t) (cur := [x, y, z, u]) (heap_alloc_last w _) rfl
theorem row_le {k : IntKind} {w : World} {a : Option Addr} {len cap : Nat} {zs : List Int} (h : IsRow k w a len cap zs) : len ≤ cap := by
  rcases h with ⟨_, rfl, rfl, _⟩ | ⟨x, _, hl, _⟩
  · exact Nat.le_refl _
  · exact hl
end Go.Proofs.Ytdgacbelpenmmaa
