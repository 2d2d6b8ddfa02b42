/- Rows of numbers in memory: what the walks say of a slice of integers, and how it is carried along. Nothing of the program is imported. -/
import Derived.WalkKit
import Derived.WalkSpells
import Derived.WalkLawsBesides
import Derived.Below
import Derived.BigQuiet
import Derived.Lib.QuietBelow
import Derived.Lib.EndianBits
import Derived.Laws.BytesArg
import Derived.Laws.CopyOwn
import Derived.Laws.AppendOwnNone
import Derived.ChangeSlices
import Derived.Deep.SlicePairs
import Derived.OneCell
import Derived.Laws.Rows
import Derived.Deep.MidRow
import Derived.Deep.WholeRow
import Derived.Deep.AppendLies
import Derived.Deep.Matrix
namespace Go.Proofs.Ytolfnjlkcppplaa
open Go.RowKit
set_option linter.unusedVariables false
set_option linter.unusedSimpArgs false

theorem bcell {W w1 : World} (hb : Below W.heap.size W w1) : (∀ b o, b < W.heap.size → w1.cell? ⟨b, o, none⟩ = W.cell? ⟨b, o, none⟩) ∧ (∀ b o, b < W.heap.size → w1.frozen? ⟨b, o, none⟩ = W.frozen? ⟨b, o, none⟩) :=
  ⟨fun b o h => hb.cell (p := ⟨b, o, none⟩) h, fun b o h => hb.frozen (p := ⟨b, o, none⟩) h⟩

/-- The slice v holds the numbers xs, of kind k. -/
def Rw (k : IntKind) (w : World) (v : Value) (xs : List Int) : Prop :=
  ∃ a cap, v = .slice a xs.length cap ∧ (xs = [] ∨ ∃ b off, a = some ⟨b, off, none⟩ ∧ b < w.heap.size ∧ ∀ i, i < xs.length → w.cell? ⟨b, off + i, none⟩ = some (.int k (xs.getD i 0)))

theorem Rw.below {k : IntKind} {w w' : World} {v : Value} {xs : List Int} (h : Rw k w v xs) (hb : Below w.heap.size w w') : Rw k w' v xs := by
  obtain ⟨a, cap, rfl, h⟩ := h
  refine ⟨a, cap, rfl, ?_⟩
  rcases h with h | ⟨b, off, ha, hlt, hc⟩
  · exact .inl h
  · exact .inr ⟨b, off, ha, Nat.lt_of_lt_of_le hlt hb.size, fun i hi => ((bcell hb).1 _ _ hlt).trans (hc i hi)⟩

theorem Rw.of_owns {k : IntKind} {w : World} {base : Nat} {e : TypeId} {v : Value} {n : Nat} {xs : List Int} (h : w.ownsRow base e 1 v n (xs.map (Value.int k))) : Rw k w v xs := by
  obtain ⟨h1, h2⟩ := h
  have hn : xs.length = n := by simpa using h1
  subst hn
  rcases h2 with ⟨rfl, h0⟩ | ⟨g, cap, cur, rfl, hg, hh, hcap, hm, hs, ht⟩
  · have : xs = [] := List.eq_nil_of_length_eq_zero h0
    subst this
    exact ⟨none, 0, rfl, .inl rfl⟩
  · refine ⟨some ⟨g, 0, none⟩, cap, rfl, .inr ⟨g, 0, rfl, ?_, fun i hi => ?_⟩⟩
    · rcases Nat.lt_or_ge g w.heap.size with h | h
      · exact h
      · rw [Array.getElem?_eq_none h] at hh; cases hh
    · have e1 : (cur.toList.take (xs.length * 1))[i]? = some (.int k (xs.getD i 0)) := by
        rw [ht]; simp [hi]
      rw [List.getElem?_take_of_lt (by omega)] at e1
      simp [World.cell?, hh] at e1 ⊢
      exact e1

/-- Behind calls that make memory, what is owned is still owned. -/
theorem owns_below {w w' : World} {base : Nat} {e : TypeId} {size : Nat} {v : Value} {n : Nat} {xs : List Value} (h : w.ownsRow base e size v n xs) (hb : Below w.heap.size w w') : w'.ownsRow base e size v n xs := by
  obtain ⟨h1, h2⟩ := h
  refine ⟨h1, ?_⟩
  rcases h2 with h2 | ⟨g, cap, cur, hv, hg, hh, r⟩
  · exact .inl h2
  · refine .inr ⟨g, cap, cur, hv, hg, ?_, r⟩
    rcases Nat.lt_or_ge g w.heap.size with h | h
    · rw [hb.block g h]; exact hh
    · rw [Array.getElem?_eq_none h] at hh; cases hh

theorem owns_base {w : World} {base base' : Nat} {e : TypeId} {size : Nat} {v : Value} {n : Nat} {xs : List Value} (h : w.ownsRow base e size v n xs) (hb : base' ≤ base) : w.ownsRow base' e size v n xs := by
  obtain ⟨h1, h2⟩ := h
  refine ⟨h1, ?_⟩
  rcases h2 with h2 | ⟨g, cap, cur, hv, hg, r⟩
  · exact .inl h2
  · exact .inr ⟨g, cap, cur, hv, Nat.le_trans hb hg, r⟩

theorem ret_int {k : IntKind} {a b : Int} (h : a = b) : Ending.returned (.int k a) = .returned (.int k b) := by rw [h]
theorem ret_bool {a b : Bool} (h : a = b) : Ending.returned (.bool a) = .returned (.bool b) := by rw [h]

theorem and1_u8 (x : Int) (h0 : 0 ≤ x) (h1 : x < 256) : bits .and .u8 x 1 = x % 2 := by
  have := bits_mask .u8 8 (by decide) wraps_u8 1 (by decide) x h0 h1
  simpa using this
theorem and1_u64 (x : Int) (h0 : 0 ≤ x) (h1 : x < 2 ^ 64) : bits .and .u64 x 1 = x % 2 := by
  have := bits_mask .u64 64 (by decide) wraps_u64 1 (by decide) x h0 h1
  simpa using this
theorem nat_u64 (n : Nat) (h : n < 2 ^ 64) : IntKind.u64.wrap (n : Int) = n := wraps_u64 _ (by omega) (by omega)
theorem nat_u8 (n : Nat) (h : n < 2 ^ 8) : IntKind.u8.wrap (n : Int) = n := wraps_u8 _ (by omega) (by omega)
theorem nat_shr (a b : Nat) : ((a : Int) / 2 ^ b) = ((a / 2 ^ b : Nat) : Int) := by simp
theorem nat_mod2 (a b : Nat) : ((a : Int) % 2 ^ b) = ((a % 2 ^ b : Nat) : Int) := by simp
theorem nat_shl (a b : Nat) : ((a : Int) * 2 ^ b) = ((a * 2 ^ b : Nat) : Int) := by simp
theorem nat_or_low (y b k : Nat) (hy : y < 2 ^ k) (hy1 : y < 2 ^ 64) (hb : b * 2 ^ k < 2 ^ 64) : bits .or .u64 (y : Int) ((b * 2 ^ k : Nat) : Int) = ((y + b * 2 ^ k : Nat) : Int) := by
  rw [bits_join_low .u64 64 (by decide) wraps_u64 k _ _ (by omega) (by exact_mod_cast hy) (by omega) (by omega) (by exact_mod_cast Nat.mul_mod_left b (2 ^ k)) (by omega)]
  simp
theorem nat_or_low8 (y b k : Nat) (hy : y < 2 ^ k) (hy1 : y < 2 ^ 8) (hb : b * 2 ^ k < 2 ^ 8) : bits .or .u8 (y : Int) ((b * 2 ^ k : Nat) : Int) = ((y + b * 2 ^ k : Nat) : Int) := by
  rw [bits_join_low .u8 8 (by decide) wraps_u8 k _ _ (by omega) (by exact_mod_cast hy) (by omega) (by omega) (by exact_mod_cast Nat.mul_mod_left b (2 ^ k)) (by omega)]
  simp
theorem bit_mul (b k m : Nat) (hb : b < 2) (hk : k ≤ m) : b * 2 ^ k ≤ 2 ^ m := by
  have hkp : (2 : Nat) ^ k ≤ 2 ^ m := Nat.pow_le_pow_right (by decide) hk
  have : b = 0 ∨ b = 1 := by omega
  rcases this with rfl | rfl
  · simp
  · simpa using hkp

theorem below1 (w : World) (a : Obj) : Below w.heap.size w (w.alloc a) := (Below.refl _ _).alloc (Nat.le_refl _) _
theorem below2 (w : World) (a b : Obj) : Below w.heap.size w ((w.alloc a).alloc b) := (below1 w a).alloc (by simp) _
theorem below3 (w : World) (a b c : Obj) : Below w.heap.size w (((w.alloc a).alloc b).alloc c) := (below2 w a b).alloc (by simp; omega) _
/-- Behind a call whose world grew out of one that had grown. -/
theorem bthen {B : Nat} {a b c : World} (h : Below B a b) (k : Below b.heap.size b c) (hB : B ≤ b.heap.size) : Below B a c := h.trans (k.mono hB)

/-- Two cells of a struct of the call's own are written behind a call. -/
theorem bset2 {B : Nat} {a w : World} (h : Below B a w) (p q i j : Nat) (x y : Value) (hp : B ≤ p) (hq : B ≤ q) : Below B a ((w.setCell ⟨p, i, none⟩ x).setCell ⟨q, j, none⟩ y) :=
  (h.setCell (p := ⟨p, i, none⟩) hp x).setCell (p := ⟨q, j, none⟩) hq y

/-- A row of bytes, turned into a string. -/
theorem conv_rw {P : Program} {w : World} {v : Value} {xs : List Int} (h : Rw .u8 w v xs) (src dst e : TypeId) (hs : P.underlying src = some (.slice e)) (he : P.underlying e = some (.int .u8)) (hd : P.underlying dst = some .string) :
    (convert src dst v).run P w = .ok (.string (strOfNums xs)) w := by
  obtain ⟨a, cap, rfl, ha⟩ := h
  rcases ha with rfl | ⟨b, off, rfl, hb, hc⟩
  · cases a with
    | none => exact run_convert_bytes_nil w src e hs he _ _ dst hd
    | some a =>
      rw [run_convert_bytes_string w src dst e _ _ cap hs he hd]
      show (Conv.bytesToString (.slice (some a) 0 cap)).run P w = _
      rw [run_bytesToString w a 0 cap [] (by simp [loadCells, loadCellsFrom, Sem.run_pure])]
      rfl
  · exact run_convert_bytes_arg w src e hs he b off _ cap xs rfl hc dst hd


theorem owns_full {w : World} {base g n : Nat} {e : TypeId} {xs : List Value} (h : w.ownsRow base e 1 (.slice (some ⟨g, 0, none⟩) n n) n xs) : w.heap[g]? = some (.cells xs.toArray e (0, 0)) ∧ base ≤ g ∧ xs.length = n := by
  obtain ⟨h1, h2⟩ := h
  rcases h2 with ⟨hv, _⟩ | ⟨g', cap, cur, hv, hg, hh, hcap, hm, hs, ht⟩
  · cases hv
  · simp only [Value.slice.injEq, Option.some.injEq, Addr.mk.injEq] at hv
    obtain ⟨⟨rfl, _⟩, _, rfl⟩ := hv
    have : cur.toList = xs := by rw [← ht, List.take_of_length_le]; simp [hs]
    exact ⟨by rw [hh, ← this], hg, by simpa using h1⟩
theorem owns_of_full {w : World} {base g n : Nat} {e : TypeId} {xs : List Value} (h : w.heap[g]? = some (.cells xs.toArray e (0, 0))) (hb : base ≤ g) (hn : xs.length = n) (hm : n ≤ maxLen) : w.ownsRow base e 1 (.slice (some ⟨g, 0, none⟩) n n) n xs :=
  ⟨by simp [hn], .inr ⟨g, n, xs.toArray, rfl, hb, h, Nat.le_refl _, hm, by simp [hn], by simp [← hn]⟩⟩
theorem grown_of_none {w w' : World} (h : w.grownBy w' none) : Below w.heap.size w w' := ⟨h.os, h.tape, h.output, h.size, fun k hk => h.block k hk (by simp)⟩

theorem made_one (z : Value) (n : Nat) : (madeCells #[z] n).toList = List.replicate n z := by
  exact toList_madeCells_one z n

theorem cell_of_row {w : World} {g : Nat} {k : IntKind} {e : TypeId} {cur : List Int} (h : w.heap[g]? = some (.cells (cur.map (Value.int k)).toArray e (0, 0))) (i : Nat) (hi : i < cur.length) :
    w.cell? ⟨g, i, none⟩ = some (.int k (cur.getD i 0)) ∧ w.frozen? ⟨g, i, none⟩ = false := by
  constructor
  · simp [World.cell?, h, hi]
  · simp [World.frozen?, h]
theorem row_set {w : World} {g : Nat} {k : IntKind} {e : TypeId} {cur : List Int} (h : w.heap[g]? = some (.cells (cur.map (Value.int k)).toArray e (0, 0))) (i : Nat) (y : Int) :
    (w.setCell ⟨g, i, none⟩ (.int k y)).heap[g]? = some (.cells ((cur.set i y).map (Value.int k)).toArray e (0, 0)) := by
  simp [World.setCell, Array.getElem?_modify, h]
theorem grownBy_set {W w : World} {g : Nat} (h : W.grownBy w (some g)) (i : Nat) (v : Value) : W.grownBy (w.setCell ⟨g, i, none⟩ v) (some g) :=
  ⟨h.os, h.tape, h.output, by simpa [World.setCell] using h.size, fun k hk hne => by
    rw [Below.heap_setCell _ _ _ _ (by intro he; exact hne (by rw [he]))]; exact h.block k hk hne⟩
theorem grownBy_cells {W w : World} {g : Nat} (h : W.grownBy w (some g)) (b o : Nat) (hb : b < W.heap.size) (hne : b ≠ g) : w.cell? ⟨b, o, none⟩ = W.cell? ⟨b, o, none⟩ ∧ w.frozen? ⟨b, o, none⟩ = W.frozen? ⟨b, o, none⟩ := by
  have := h.block b hb (by simpa using hne)
  exact ⟨World.cell?_of_block (w := W) this, World.frozen?_of_block (w := W) this⟩
theorem Rw.of_row {w : World} {g : Nat} {k : IntKind} {e : TypeId} {cur : List Int} {n c : Nat} (h : w.heap[g]? = some (.cells (cur.map (Value.int k)).toArray e (0, 0))) (hn : cur.length = n) : Rw k w (.slice (some ⟨g, 0, none⟩) n c) cur := by
  subst hn
  refine ⟨_, c, rfl, .inr ⟨g, 0, rfl, ?_, fun i hi => ?_⟩⟩
  · rcases Nat.lt_or_ge g w.heap.size with h' | h'
    · exact h'
    · rw [Array.getElem?_eq_none h'] at h; cases h
  · rw [Nat.zero_add]; exact (cell_of_row h i hi).1

/-- The slice v holds the numbers xs, in a block from 'base' on: memory that the call has made. -/
def RwF (base : Nat) (k : IntKind) (w : World) (v : Value) (xs : List Int) : Prop :=
  ∃ a cap, v = .slice a xs.length cap ∧ (xs = [] ∨ ∃ b off, a = some ⟨b, off, none⟩ ∧ base ≤ b ∧ b < w.heap.size ∧ ∀ i, i < xs.length → w.cell? ⟨b, off + i, none⟩ = some (.int k (xs.getD i 0)))
theorem RwF.rw {base : Nat} {k : IntKind} {w : World} {v : Value} {xs : List Int} (h : RwF base k w v xs) : Rw k w v xs := by
  obtain ⟨a, cap, hv, h⟩ := h
  refine ⟨a, cap, hv, ?_⟩
  rcases h with h | ⟨b, off, ha, _, hlt, hc⟩
  · exact .inl h
  · exact .inr ⟨b, off, ha, hlt, hc⟩
theorem RwF.mono {base base' : Nat} {k : IntKind} {w : World} {v : Value} {xs : List Int} (h : RwF base k w v xs) (hb : base' ≤ base) : RwF base' k w v xs := by
  obtain ⟨a, cap, hv, h⟩ := h
  refine ⟨a, cap, hv, ?_⟩
  rcases h with h | ⟨b, off, ha, hlo, r⟩
  · exact .inl h
  · exact .inr ⟨b, off, ha, by omega, r⟩
theorem RwF.below {base : Nat} {k : IntKind} {w w' : World} {v : Value} {xs : List Int} (h : RwF base k w v xs) (hb : Below w.heap.size w w') : RwF base k w' v xs := by
  obtain ⟨a, cap, hv, h⟩ := h
  refine ⟨a, cap, hv, ?_⟩
  rcases h with h | ⟨b, off, ha, hlo, hlt, hc⟩
  · exact .inl h
  · exact .inr ⟨b, off, ha, hlo, Nat.lt_of_lt_of_le hlt hb.size, fun i hi => ((bcell hb).1 _ _ hlt).trans (hc i hi)⟩
theorem RwF.set {base : Nat} {k : IntKind} {w : World} {v : Value} {xs : List Int} (h : RwF base k w v xs) (p o : Nat) (x : Value) (hp : p < base) : RwF base k (w.setCell ⟨p, o, none⟩ x) v xs := by
  obtain ⟨a, cap, hv, h⟩ := h
  refine ⟨a, cap, hv, ?_⟩
  rcases h with h | ⟨b, off, ha, hlo, hlt, hc⟩
  · exact .inl h
  · refine .inr ⟨b, off, ha, hlo, by simpa [World.setCell] using hlt, fun i hi => ?_⟩
    rw [World.cell?_of_block (w := w) (Below.heap_setCell w ⟨p, o, none⟩ x b (by show b ≠ p; omega))]
    exact hc i hi
theorem RwF.of_row {base : Nat} {w : World} {g : Nat} {k : IntKind} {e : TypeId} {cur : List Int} {n c : Nat} (h : w.heap[g]? = some (.cells (cur.map (Value.int k)).toArray e (0, 0))) (hn : cur.length = n) (hb : base ≤ g) : RwF base k w (.slice (some ⟨g, 0, none⟩) n c) cur := by
  subst hn
  refine ⟨_, c, rfl, .inr ⟨g, 0, rfl, hb, ?_, fun i hi => ?_⟩⟩
  · rcases Nat.lt_or_ge g w.heap.size with h' | h'
    · exact h'
    · rw [Array.getElem?_eq_none h'] at h; cases h
  · rw [Nat.zero_add]; exact (cell_of_row h i hi).1
theorem RwF.of_owns {k : IntKind} {w : World} {base : Nat} {e : TypeId} {v : Value} {n : Nat} {xs : List Int} (h : w.ownsRow base e 1 v n (xs.map (Value.int k))) : RwF base k w v xs := by
  obtain ⟨h1, h2⟩ := h
  have hn : xs.length = n := by simpa using h1
  subst hn
  rcases h2 with ⟨rfl, h0⟩ | ⟨g, cap, cur, rfl, hg, hh, hcap, hm, hs, ht⟩
  · have : xs = [] := List.eq_nil_of_length_eq_zero h0
    subst this
    exact ⟨none, 0, rfl, .inl rfl⟩
  · refine ⟨some ⟨g, 0, none⟩, cap, rfl, .inr ⟨g, 0, rfl, hg, ?_, fun i hi => ?_⟩⟩
    · rcases Nat.lt_or_ge g w.heap.size with h | h
      · exact h
      · rw [Array.getElem?_eq_none h] at hh; cases hh
    · have e1 : (cur.toList.take (xs.length * 1))[i]? = some (.int k (xs.getD i 0)) := by
        rw [ht]; simp [hi]
      rw [List.getElem?_take_of_lt (by omega)] at e1
      simp [World.cell?, hh] at e1 ⊢
      exact e1
/-- Any row, in some block. -/
theorem Rw.any {k : IntKind} {w : World} {v : Value} {xs : List Int} (h : Rw k w v xs) : RwF 0 k w v xs := by
  obtain ⟨a, cap, hv, h⟩ := h
  refine ⟨a, cap, hv, ?_⟩
  rcases h with h | ⟨b, off, ha, hlt, hc⟩
  · exact .inl h
  · exact .inr ⟨b, off, ha, by omega, hlt, hc⟩

/-- What a call finds of its own two structs behind a call that it made. -/
theorem two_boxes {w w' : World} {x0 x1 y0 y1 : Value} {t t' : TypeId} (hb : Below ((w.alloc (.cells #[x0, x1] t)).alloc (.cells #[y0, y1] t')).heap.size ((w.alloc (.cells #[x0, x1] t)).alloc (.cells #[y0, y1] t')) w') :
    w'.cell? ⟨w.heap.size, 0, none⟩ = some x0 ∧ w'.cell? ⟨w.heap.size, 1, none⟩ = some x1 ∧ w'.cell? ⟨w.heap.size + 1, 0, none⟩ = some y0 ∧ w'.cell? ⟨w.heap.size + 1, 1, none⟩ = some y1 ∧
      w'.frozen? ⟨w.heap.size, 0, none⟩ = false ∧ w'.frozen? ⟨w.heap.size, 1, none⟩ = false ∧ w'.frozen? ⟨w.heap.size + 1, 0, none⟩ = false ∧ w'.frozen? ⟨w.heap.size + 1, 1, none⟩ = false ∧ w.heap.size + 1 < w'.heap.size := by
  obtain ⟨hc, hf⟩ := bcell hb
  have hz := hb.size
  simp at hz
  refine ⟨?_, ?_, ?_, ?_, ?_, ?_, ?_, ?_, by omega⟩
  · rw [hc _ _ (by simp; omega)]; simp [go_sem]
  · rw [hc _ _ (by simp; omega)]; simp [go_sem]
  · rw [hc _ _ (by simp)]; simp [go_sem]
  · rw [hc _ _ (by simp)]; simp [go_sem]
  · rw [hf _ _ (by simp; omega)]; simp [go_sem]
  · rw [hf _ _ (by simp; omega)]; simp [go_sem]
  · rw [hf _ _ (by simp)]; simp [go_sem]
  · rw [hf _ _ (by simp)]; simp [go_sem]

/-- Two structs of two cells each, in memory: what a region's loads read. -/
def Four (w : World) (b c : Nat) (x0 x1 y0 y1 : Value) : Prop := w.cell? ⟨b, 0, none⟩ = some x0 ∧ w.cell? ⟨b, 1, none⟩ = some x1 ∧ w.cell? ⟨c, 0, none⟩ = some y0 ∧ w.cell? ⟨c, 1, none⟩ = some y1
theorem Four.below {w w' : World} {b c : Nat} {x0 x1 y0 y1 : Value} (h : Four w b c x0 x1 y0 y1) (hb : Below w.heap.size w w') (h1 : b < w.heap.size) (h2 : c < w.heap.size) : Four w' b c x0 x1 y0 y1 := by
  obtain ⟨hc, _⟩ := bcell hb
  exact ⟨(hc _ _ h1).trans h.1, (hc _ _ h1).trans h.2.1, (hc _ _ h2).trans h.2.2.1, (hc _ _ h2).trans h.2.2.2⟩
theorem four_new {w : World} {b : Nat} {y0 y1 x0 x1 : Value} {t : TypeId} (hb : b < w.heap.size) (h0 : w.cell? ⟨b, 0, none⟩ = some y0) (h1 : w.cell? ⟨b, 1, none⟩ = some y1) : Four (w.alloc (.cells #[x0, x1] t)) b w.heap.size y0 y1 x0 x1 :=
  ⟨(World.cell?_alloc_past _ _ _ hb).trans h0, (World.cell?_alloc_past _ _ _ hb).trans h1, by simp [go_sem], by simp [go_sem]⟩
theorem drew_below {w w' : World} (h : Below w.drew.heap.size w.drew w') : Below w.heap.size w w' := ⟨h.os, h.tape, h.output, h.size, h.block⟩
theorem wraps_i64 (n : Int) (h0 : -9223372036854775808 ≤ n) (h1 : n < 9223372036854775808) : IntKind.i64.wrap n = n := by rw [IntKind.wrap_i64]; omega

/-- A whole row of integers, nil or not, behind a row of the call's own. -/
theorem wpList_append_rw {P : Program} {w : World} {ops : Array Oper} {rest : List Oper} {o : Oper} {a : Act} {Q : Exit → Act → World → Prop} (hgd : o.guard = none) (s x : Operand) (t : TypeId)
    (ho : o.op = .call { callee := .builtin .append, args := #[s, x], argTypes := #[t, t] })
    (base : Nat) (e : TypeId) (i : TypeInfo) (z : Value) (bytes : Nat) (ht : P.underlying t = some (.slice e)) (hi : P.info? e = some i) (hz : i.zero = some z)
    (hsize : i.size = 1) (hby : i.bytes = bytes) (hzs : z.cells.size = 1)
    (k : IntKind) (v : Value) (n : Nat) (xs : List Value) (hs : a.eval s = v) (hown : w.ownsRow base e 1 v n xs)
    (ad : Option Addr) (c : Nat) (ys : List Int) (hx : a.eval x = .slice ad ys.length c) (hrw : Rw k w (.slice ad ys.length c) ys) (hn : ad = none → c = 0)
    (h63 : n + ys.length ≤ maxLen) (hbytes : (n + ys.length) * bytes ≤ 140737488355328) (hbase : base ≤ w.heap.size)
    (h : ∀ v' w', w'.ownsRow base e 1 v' (n + ys.length) (xs ++ ys.map (Value.int k)) → w.grownBy w' v.ownBlock → wpList P ops Q rest (a.put o.dst v') w') : wpList P ops Q (o :: rest) a w := by
  obtain ⟨a', c', he, hr⟩ := hrw
  simp only [Value.slice.injEq, true_and] at he
  obtain ⟨rfl, rfl⟩ := he
  cases ad with
  | none =>
    have hc := hn rfl
    subst hc
    have hy : ys = [] := by
      rcases hr with h | ⟨b, off, hh, _⟩
      · exact h
      · cases hh
    subst hy
    refine wpList_append_own_none hgd s x t ho base e i 1 ht hi v n xs hs hown hx (h v w ?_ (World.grownBy.refl w _))
    simpa using hown
  | some ad =>
    refine wpList_append_own w hgd s x t ho base e i z 1 bytes ht hi hz hsize hby hzs (by decide) v n xs hs hown ad ys.length c (ys.map (Value.int k)) hx (by simp) ?_ (ints_oneCell k ys) h63 hbytes hbase (fun v' w' h1 h2 _ => h v' w' h1 h2)
    intro j u hj
    have hjl : j < ys.length := by
      have := (List.getElem?_eq_some_iff.1 hj).1
      simpa using this
    obtain ⟨b, off, hh, hb, hc⟩ := hr.resolve_left (by intro h; subst h; simp at hjl)
    cases hh
    rw [Addr.add_lit, hc j hjl, ← hj]
    simp [hjl]
end Go.Proofs.Ytolfnjlkcppplaa
/- Plain facts on lists of bytes as numbers: the byte at place i counts 256^i. Nothing of the program is imported. -/
namespace Go.Proofs.Ytolfnjlkcppplaa
open Go.RowKit
set_option linter.unusedVariables false
set_option linter.unusedSimpArgs false

/-- The number of a list of bytes, the lowest one first. -/
def bv : List Int → Nat
  | [] => 0
  | x :: l => x.toNat + 256 * bv l

def Byts (l : List Int) : Prop := ∀ x ∈ l, 0 ≤ x ∧ x < 256

theorem Byts.nil : Byts [] := fun _ h => by cases h
theorem Byts.cons {x : Int} {l : List Int} (h : Byts (x :: l)) : (0 ≤ x ∧ x < 256) ∧ Byts l :=
  ⟨h x (by simp), fun y hy => h y (by simp [hy])⟩
theorem Byts.append {l m : List Int} (h : Byts l) (k : Byts m) : Byts (l ++ m) := fun x hx => by
  rcases List.mem_append.1 hx with h' | h'
  · exact h x h'
  · exact k x h'
theorem Byts.replicate (n : Nat) : Byts (List.replicate n 0) := fun x hx => by
  rw [List.eq_of_mem_replicate hx]; omega
theorem Byts.getD {l : List Int} (h : Byts l) (i : Nat) : 0 ≤ l.getD i 0 ∧ l.getD i 0 < 256 := by
  rw [List.getD_eq_getElem?_getD]
  by_cases hi : i < l.length
  · rw [List.getElem?_eq_getElem hi]; exact h _ (List.getElem_mem hi)
  · rw [List.getElem?_eq_none (by omega)]; simp
theorem Byts.set {l : List Int} (h : Byts l) (i : Nat) {y : Int} (h0 : 0 ≤ y) (h1 : y < 256) : Byts (l.set i y) := fun x hx => by
  rcases List.mem_or_eq_of_mem_set hx with h' | h'
  · exact h x h'
  · subst h'; exact ⟨h0, h1⟩
theorem Byts.take {l : List Int} (h : Byts l) (n : Nat) : Byts (l.take n) := fun x hx => h x (List.mem_of_mem_take hx)

theorem pow256 (i : Nat) : (256 : Nat) ^ i = 2 ^ (8 * i) := by rw [Nat.pow_mul]

theorem bv_lt {l : List Int} (h : Byts l) : bv l < 256 ^ l.length := by
  induction l with
  | nil => simp [bv]
  | cons x l ih =>
    obtain ⟨hx, hl⟩ := h.cons
    have := ih hl
    simp only [bv, List.length_cons, Nat.pow_succ]
    omega

theorem bv_append (l m : List Int) : bv (l ++ m) = bv l + 256 ^ l.length * bv m := by
  induction l with
  | nil => simp [bv]
  | cons x l ih =>
    simp only [List.cons_append, bv, ih, List.length_cons, Nat.pow_succ, Nat.mul_add]
    rw [Nat.mul_comm (256 ^ l.length) 256, Nat.mul_assoc]
    omega

theorem bv_zero (n : Nat) : bv (List.replicate n 0) = 0 := by
  induction n with
  | zero => rfl
  | succ n ih => simp [List.replicate_succ, bv, ih]

theorem bv_get {l : List Int} (h : Byts l) (i : Nat) : bv l / 256 ^ i % 256 = (l.getD i 0).toNat := by
  induction l generalizing i with
  | nil => simp [bv]
  | cons x l ih =>
    obtain ⟨hx, hl⟩ := h.cons
    cases i with
    | zero => simp [bv]; omega
    | succ i =>
      have h1 : bv (x :: l) / 256 ^ (i + 1) = bv l / 256 ^ i := by
        rw [Nat.pow_succ, Nat.mul_comm, ← Nat.div_div_eq_div_mul]
        congr 1
        simp only [bv]; omega
      rw [h1, ih hl]
      simp

theorem bv_set (l : List Int) (i : Nat) (y : Int) (hi : i < l.length) : bv (l.set i y) + (l.getD i 0).toNat * 256 ^ i = bv l + y.toNat * 256 ^ i := by
  induction l generalizing i with
  | nil => simp at hi
  | cons x l ih =>
    cases i with
    | zero => simp [bv]; omega
    | succ i =>
      have := ih i (by simpa using hi)
      simp only [List.set_cons_succ, bv, List.getD_cons_succ, Nat.pow_succ]
      have e1 : (l.getD i 0).toNat * (256 ^ i * 256) = 256 * ((l.getD i 0).toNat * 256 ^ i) := by
        rw [Nat.mul_comm (256 ^ i) 256, Nat.mul_left_comm]
      have e2 : y.toNat * (256 ^ i * 256) = 256 * (y.toNat * 256 ^ i) := by
        rw [Nat.mul_comm (256 ^ i) 256, Nat.mul_left_comm]
      rw [e1, e2]; omega

theorem bv_inj {l m : List Int} (hl : Byts l) (hm : Byts m) (he : l.length = m.length) (h : bv l = bv m) : l = m := by
  induction l generalizing m with
  | nil => cases m with
    | nil => rfl
    | cons y m => simp at he
  | cons x l ih => cases m with
    | nil => simp at he
    | cons y m =>
      obtain ⟨hx, hl⟩ := hl.cons
      obtain ⟨hy, hm⟩ := hm.cons
      simp only [bv] at h
      have e1 : x = y := by omega
      have e2 : bv l = bv m := by omega
      rw [e1, ih hl hm (by simpa using he) e2]

/-- The bit at place p. -/
theorem bv_bit {l : List Int} (h : Byts l) (p : Nat) : bv l / 2 ^ p % 2 = (l.getD (p / 8) 0).toNat / 2 ^ (p % 8) % 2 := by
  have h1 := bv_get h (p / 8)
  rw [← h1, pow256]
  have hp : p = 8 * (p / 8) + p % 8 := by omega
  have e1 : bv l / 2 ^ p = bv l / 2 ^ (8 * (p / 8)) / 2 ^ (p % 8) := by
    rw [Nat.div_div_eq_div_mul, ← Nat.pow_add, ← hp]
  rw [e1]
  generalize bv l / 2 ^ (8 * (p / 8)) = X
  have hr : p % 8 < 8 := Nat.mod_lt _ (by decide)
  generalize p % 8 = r at hr
  have : r = 0 ∨ r = 1 ∨ r = 2 ∨ r = 3 ∨ r = 4 ∨ r = 5 ∨ r = 6 ∨ r = 7 := by omega
  rcases this with rfl | rfl | rfl | rfl | rfl | rfl | rfl | rfl <;> simp <;> omega

/-- The bits up to k + 1: those up to k, and the next one. -/
theorem mod_two_pow_succ (V k : Nat) : V % 2 ^ (k + 1) = V % 2 ^ k + V / 2 ^ k % 2 * 2 ^ k := by
  rw [Nat.pow_succ, Nat.mod_mul, Nat.mul_comm (2 ^ k) (_ % 2)]

/-- A writer's bits from N on are 0: by the last byte alone. -/
theorem bv_last {l : List Int} (h : Byts l) (N : Nat) (hl : l.length = (N + 7) / 8) :
    bv l < 2 ^ N ↔ (N % 8 = 0 ∨ (l.getD (l.length - 1) 0).toNat / 2 ^ (N % 8) = 0) := by
  have hlt := bv_lt h
  by_cases h8 : N % 8 = 0
  · have : 8 * l.length = N := by omega
    rw [pow256, this] at hlt
    simp [h8, hlt]
  · have hN : 8 * (l.length - 1) + N % 8 = N := by omega
    have hg := bv_get h (l.length - 1)
    have hq : bv l / 256 ^ (l.length - 1) < 256 := by
      rw [Nat.div_lt_iff_lt_mul (Nat.pow_pos (by decide))]
      have : 256 ^ l.length = 256 * 256 ^ (l.length - 1) := by
        conv => lhs; rw [show l.length = (l.length - 1) + 1 by omega, Nat.pow_succ, Nat.mul_comm]
      omega
    rw [Nat.mod_eq_of_lt hq] at hg
    rw [← hg]
    have e : bv l < 2 ^ N ↔ bv l / 256 ^ (l.length - 1) < 2 ^ (N % 8) := by
      rw [Nat.div_lt_iff_lt_mul (Nat.pow_pos (by decide)), pow256, ← Nat.pow_add, Nat.add_comm (N % 8), hN]
    rw [e, Nat.div_eq_zero_iff]
    have : 2 ^ (N % 8) ≠ 0 := by simp
    simp [h8, this]

/-- The bit at place p, as a number; the first m bits. -/
def bitAt (V p : Nat) : Int := ((V / 2 ^ p % 2 : Nat) : Int)
def bl (V m : Nat) : List Int := (List.range m).map (bitAt V)
theorem bl_length (V m : Nat) : (bl V m).length = m := by simp [bl]
theorem bl_succ (V m : Nat) : bl V (m + 1) = bl V m ++ [bitAt V m] := by simp [bl, List.range_succ]
theorem bl_zero (V : Nat) : bl V 0 = [] := rfl
theorem bl_getD (V m i : Nat) (h : i < m) : (bl V m).getD i 0 = bitAt V i := by simp [bl, h]
theorem bitAt_01 (V p : Nat) : bitAt V p = 0 ∨ bitAt V p = 1 := by unfold bitAt; omega
/-- The first n bytes of a number. -/
def byteAt (V i : Nat) : Int := ((V / 256 ^ i % 256 : Nat) : Int)
def byL (V n : Nat) : List Int := (List.range n).map (byteAt V)
theorem byL_length (V n : Nat) : (byL V n).length = n := by simp [byL]
theorem byL_succ (V n : Nat) : byL V (n + 1) = byL V n ++ [byteAt V n] := by simp [byL, List.range_succ]
theorem byL_byts (V n : Nat) : Byts (byL V n) := fun x hx => by
  simp only [byL, List.mem_map] at hx
  obtain ⟨i, _, rfl⟩ := hx
  unfold byteAt; omega
theorem byL_bv (V n : Nat) : bv (byL V n) = V % 256 ^ n := by
  induction n with
  | zero => simp [byL, bv, Nat.mod_one]
  | succ n ih =>
    rw [byL_succ, bv_append, ih, byL_length, Nat.pow_succ, Nat.mod_mul]
    simp only [bv, byteAt, Int.toNat_natCast, Nat.mul_zero, Nat.add_zero]
theorem byL_eq {l : List Int} (h : Byts l) {V : Nat} (hv : bv l = V) : l = byL V l.length := by
  refine bv_inj h (byL_byts _ _) (by simp [byL_length]) ?_
  rw [byL_bv, ← hv, Nat.mod_eq_of_lt (bv_lt h)]

/-- One bit more, from above: what the loop over a byte's bits gathers. -/
theorem bits_up (V i k : Nat) (hk : k < 8) : V / 2 ^ (i + k) % 2 ^ (8 - k) = V / 2 ^ (i + (k + 1)) % 2 ^ (8 - (k + 1)) * 2 + V / 2 ^ (i + k) % 2 := by
  have e : 8 - k = (8 - (k + 1)) + 1 := by omega
  rw [e, Nat.pow_succ, Nat.mul_comm (2 ^ _) 2, Nat.mod_mul, ← Nat.add_assoc i k 1, Nat.pow_succ, ← Nat.div_div_eq_div_mul]
  omega
theorem bits_above (V m p : Nat) (h : V < 2 ^ m) (hp : m ≤ p) : V / 2 ^ p = 0 := by
  rw [Nat.div_eq_zero_iff]
  exact .inr (Nat.lt_of_lt_of_le h (Nat.pow_le_pow_right (by decide) hp))

theorem str_inj {xs ys : List Int} (hx : Byts xs) (hy : Byts ys) : ((strOfNums xs).toList == (strOfNums ys).toList) = decide (xs = ys) := by
  rw [Bool.eq_iff_iff, beq_iff_eq, decide_eq_true_eq]
  constructor
  · intro h
    have h1 : xs.map (fun n => UInt8.ofNat n.toNat) = ys.map (fun n => UInt8.ofNat n.toNat) := by
      rw [ByteArray.toList_eq, ByteArray.toList_eq, strOfNums_data, strOfNums_data] at h
      exact h
    have inj : ∀ (a b : Int), (0 ≤ a ∧ a < 256) → (0 ≤ b ∧ b < 256) → UInt8.ofNat a.toNat = UInt8.ofNat b.toNat → a = b := by
      intro a b ha hb h
      have := congrArg UInt8.toNat h
      simp at this
      omega
    clear h
    induction xs generalizing ys with
    | nil => cases ys with
      | nil => rfl
      | cons y ys => simp at h1
    | cons x xs ih => cases ys with
      | nil => simp at h1
      | cons y ys =>
        simp only [List.map_cons, List.cons.injEq] at h1
        rw [inj x y hx.cons.1 hy.cons.1 h1.1, ih hx.cons.2 hy.cons.2 h1.2]
  · rintro rfl; rfl

/-- WHAT THE WALK IS TOLD OF A SLICE OF INTEGERS THAT CAME IN: it is nil; or it leads to a row of 'cap' cells, the numbers 'zs' (the first 'len' are its elements, the rest its spare room), each fitting its kind. -/
def IsRow (k : IntKind) (w : World) (a : Option Addr) (len cap : Nat) (zs : List Int) : Prop :=
  (a = none ∧ len = 0 ∧ cap = 0 ∧ zs = []) ∨
  ∃ x, a = some x ∧ len ≤ cap ∧ cap ≤ maxLen ∧ zs.length = cap ∧ (∀ i, i < zs.length → w.cell? (x.add i) = some (.int k (zs.getD i 0))) ∧ ∀ n ∈ zs, (Lit.int k n).wf = true

/-- A slice of integers of any kind, as its first 'len' numbers. -/
theorem row_rw_any {k : IntKind} {w : World} {a : Option Addr} {len cap : Nat} {zs : List Int} (h : IsRow k w a len cap zs) : ∃ xs, xs.length = len ∧ Rw k w (.slice a len cap) xs ∧ ∀ y ∈ xs, (Lit.int k y).wf = true := by
  rcases h with ⟨rfl, rfl, rfl, rfl⟩ | ⟨x, rfl, hl, hm, hz, hcell, hwz⟩
  · exact ⟨[], rfl, ⟨none, 0, rfl, .inl rfl⟩, fun y hy => by cases hy⟩
  · have hlen : (zs.take len).length = len := by rw [List.length_take]; omega
    refine ⟨zs.take len, hlen, ?_, fun y hy => hwz y (List.mem_of_mem_take hy)⟩
    refine ⟨some x, cap, by rw [hlen], ?_⟩
    by_cases h0 : len = 0
    · left; subst h0; simp
    · right
      obtain ⟨b, off, spot⟩ := x
      have hc := hcell 0 (by omega)
      have hspot : spot = none := by simpa [Addr.add] using World.cell?_spot hc
      subst hspot
      refine ⟨b, off, rfl, World.block_lt_of_cell? w _ hc, fun i hi => ?_⟩
      rw [hlen] at hi
      have := hcell i (by omega)
      rw [Addr.add_lit] at this
      rw [this]
      simp [List.getD, hi]
/-- The first 'len' bytes of a slice of bytes. -/
theorem row_rw {w : World} {a : Option Addr} {len cap : Nat} {zs : List Int} (h : IsRow .u8 w a len cap zs) : ∃ xs, xs.length = len ∧ Rw .u8 w (.slice a len cap) xs ∧ Byts xs := by
  obtain ⟨xs, h1, h2, h3⟩ := row_rw_any h
  refine ⟨xs, h1, h2, fun y hy => ?_⟩
  have := h3 y hy
  simp [Lit.wf, IntKind.min, IntKind.max, IntKind.bits, IntKind.signed] at this
  omega

theorem row_cap {k : IntKind} {w : World} {a : Option Addr} {len cap : Nat} {zs : List Int} (h : IsRow k w a len cap zs) : a = none → cap = 0 := by
  intro ha
  subst ha
  rcases h with ⟨_, _, h, _⟩ | ⟨x, hx, _⟩
  · exact h
  · cases hx
theorem u64_nat {a : Int} (h : (Lit.int .u64 a).wf = true) : ∃ V : Nat, a = V ∧ V < 2 ^ 64 := by
  simp [Lit.wf, IntKind.min, IntKind.max, IntKind.bits, IntKind.signed] at h
  exact ⟨a.toNat, by omega, by omega⟩
/-- A slice of integers, as a reading met it. -/
theorem ints_of_trod {H : Type} {enc : TypeId × Value → H} {P : Program} {w : World} {t e : TypeId} {k : IntKind} {fuel : Nat} {c : Value} {x : DataW H × List MemPlace} (ht : P.underlying t = some (.slice e)) (he : P.underlying e = some (.int k)) (hc : P.cellsOf e = 1)
    (h : DataW.trod enc P w 0 (fun _ => true) true fuel t [c] = some x) : ∃ a len cap zs, c = .slice a len cap ∧ IsRow k w a len cap zs := by
  rcases ChangeShapes.open_ints ht he hc h with ⟨hcs, _⟩ | ⟨x, l, c, zs, hcs, _, hl, hm, hz, _, hcell, hwz⟩
  · simp only [List.cons.injEq, and_true] at hcs
    exact ⟨none, 0, 0, [], hcs, .inl ⟨rfl, rfl, rfl, rfl⟩⟩
  · simp only [List.cons.injEq, and_true] at hcs
    exact ⟨some x, l, c, zs, hcs, .inr ⟨x, rfl, hl, hm, by simpa using hz, hcell, hwz⟩⟩
end Go.Proofs.Ytolfnjlkcppplaa
/- Structs of a call's own in memory (two, three, four cells); rows of its own, carried along; structs that a region makes; slices of structs that came in. Nothing of the program is imported. -/
namespace Go.Proofs.Ytolfnjlkcppplaa
open Go.RowKit
set_option linter.unusedVariables false
set_option linter.unusedSimpArgs false

/-- A struct of three cells, of the call's own. -/
structure B3 (w : World) (b : Nat) (x0 x1 x2 : Value) : Prop where
  z : b < w.heap.size
  c0 : w.cell? ⟨b, 0, none⟩ = some x0
  c1 : w.cell? ⟨b, 1, none⟩ = some x1
  c2 : w.cell? ⟨b, 2, none⟩ = some x2
  f0 : w.frozen? ⟨b, 0, none⟩ = false
  f1 : w.frozen? ⟨b, 1, none⟩ = false
  f2 : w.frozen? ⟨b, 2, none⟩ = false
theorem B3.below {w w' : World} {b : Nat} {x0 x1 x2 : Value} (h : B3 w b x0 x1 x2) (hb : Below w.heap.size w w') : B3 w' b x0 x1 x2 := by
  obtain ⟨hc, hf⟩ := bcell hb
  have hz := h.z
  exact ⟨Nat.lt_of_lt_of_le hz hb.size, (hc _ _ hz).trans h.c0, (hc _ _ hz).trans h.c1, (hc _ _ hz).trans h.c2, (hf _ _ hz).trans h.f0, (hf _ _ hz).trans h.f1, (hf _ _ hz).trans h.f2⟩
theorem B3.new (w : World) (x0 x1 x2 : Value) (t : TypeId) : B3 (w.alloc (.cells #[x0, x1, x2] t)) w.heap.size x0 x1 x2 :=
  ⟨by simp, by simp [go_sem], by simp [go_sem], by simp [go_sem], by simp [go_sem], by simp [go_sem], by simp [go_sem]⟩
theorem B3.other {w : World} {b : Nat} {x0 x1 x2 : Value} (h : B3 w b x0 x1 x2) (c o : Nat) (y : Value) (hne : b ≠ c) : B3 (w.setCell ⟨c, o, none⟩ y) b x0 x1 x2 := by
  have e := Below.heap_setCell w ⟨c, o, none⟩ y b hne
  exact ⟨by simpa [World.setCell] using h.z, (World.cell?_of_block (w := w) e).trans h.c0, (World.cell?_of_block (w := w) e).trans h.c1, (World.cell?_of_block (w := w) e).trans h.c2, (World.frozen?_of_block (w := w) e).trans h.f0, (World.frozen?_of_block (w := w) e).trans h.f1, (World.frozen?_of_block (w := w) e).trans h.f2⟩
theorem B3.set {w : World} {b : Nat} {x0 x1 x2 : Value} (h : B3 w b x0 x1 x2) (y0 y1 y2 : Value) : B3 (((w.setCell ⟨b, 0, none⟩ y0).setCell ⟨b, 1, none⟩ y1).setCell ⟨b, 2, none⟩ y2) b y0 y1 y2 :=
  ⟨by simpa [World.setCell] using h.z, by simp [go_sem, h.c0, h.c1, h.c2], by simp [go_sem, h.c0, h.c1, h.c2], by simp [go_sem, h.c0, h.c1, h.c2], by simp [h.f0], by simp [h.f1], by simp [h.f2]⟩
theorem B3.set0 {w : World} {b : Nat} {x0 x1 x2 : Value} (h : B3 w b x0 x1 x2) (y : Value) : B3 (w.setCell ⟨b, 0, none⟩ y) b y x1 x2 :=
  ⟨by simpa [World.setCell] using h.z, by simp [go_sem, h.c0, h.c1, h.c2], by simp [go_sem, h.c0, h.c1, h.c2], by simp [go_sem, h.c0, h.c1, h.c2], by simp [h.f0], by simp [h.f1], by simp [h.f2]⟩
theorem B3.set1 {w : World} {b : Nat} {x0 x1 x2 : Value} (h : B3 w b x0 x1 x2) (y : Value) : B3 (w.setCell ⟨b, 1, none⟩ y) b x0 y x2 :=
  ⟨by simpa [World.setCell] using h.z, by simp [go_sem, h.c0, h.c1, h.c2], by simp [go_sem, h.c0, h.c1, h.c2], by simp [go_sem, h.c0, h.c1, h.c2], by simp [h.f0], by simp [h.f1], by simp [h.f2]⟩
theorem B3.set2 {w : World} {b : Nat} {x0 x1 x2 : Value} (h : B3 w b x0 x1 x2) (y : Value) : B3 (w.setCell ⟨b, 2, none⟩ y) b x0 x1 y :=
  ⟨by simpa [World.setCell] using h.z, by simp [go_sem, h.c0, h.c1, h.c2], by simp [go_sem, h.c0, h.c1, h.c2], by simp [go_sem, h.c0, h.c1, h.c2], by simp [h.f0], by simp [h.f1], by simp [h.f2]⟩
/-- A struct of four cells, of the call's own. -/
structure B4 (w : World) (b : Nat) (x0 x1 x2 x3 : Value) : Prop where
  z : b < w.heap.size
  c0 : w.cell? ⟨b, 0, none⟩ = some x0
  c1 : w.cell? ⟨b, 1, none⟩ = some x1
  c2 : w.cell? ⟨b, 2, none⟩ = some x2
  c3 : w.cell? ⟨b, 3, none⟩ = some x3
  f0 : w.frozen? ⟨b, 0, none⟩ = false
  f1 : w.frozen? ⟨b, 1, none⟩ = false
  f2 : w.frozen? ⟨b, 2, none⟩ = false
  f3 : w.frozen? ⟨b, 3, none⟩ = false
theorem B4.below {w w' : World} {b : Nat} {x0 x1 x2 x3 : Value} (h : B4 w b x0 x1 x2 x3) (hb : Below w.heap.size w w') : B4 w' b x0 x1 x2 x3 := by
  obtain ⟨hc, hf⟩ := bcell hb
  have hz := h.z
  exact ⟨Nat.lt_of_lt_of_le hz hb.size, (hc _ _ hz).trans h.c0, (hc _ _ hz).trans h.c1, (hc _ _ hz).trans h.c2, (hc _ _ hz).trans h.c3, (hf _ _ hz).trans h.f0, (hf _ _ hz).trans h.f1, (hf _ _ hz).trans h.f2, (hf _ _ hz).trans h.f3⟩
theorem B4.new (w : World) (x0 x1 x2 x3 : Value) (t : TypeId) : B4 (w.alloc (.cells #[x0, x1, x2, x3] t)) w.heap.size x0 x1 x2 x3 :=
  ⟨by simp, by simp [go_sem], by simp [go_sem], by simp [go_sem], by simp [go_sem], by simp [go_sem], by simp [go_sem], by simp [go_sem], by simp [go_sem]⟩
theorem B4.other {w : World} {b : Nat} {x0 x1 x2 x3 : Value} (h : B4 w b x0 x1 x2 x3) (c o : Nat) (y : Value) (hne : b ≠ c) : B4 (w.setCell ⟨c, o, none⟩ y) b x0 x1 x2 x3 := by
  have e := Below.heap_setCell w ⟨c, o, none⟩ y b hne
  exact ⟨by simpa [World.setCell] using h.z, (World.cell?_of_block (w := w) e).trans h.c0, (World.cell?_of_block (w := w) e).trans h.c1, (World.cell?_of_block (w := w) e).trans h.c2, (World.cell?_of_block (w := w) e).trans h.c3, (World.frozen?_of_block (w := w) e).trans h.f0, (World.frozen?_of_block (w := w) e).trans h.f1, (World.frozen?_of_block (w := w) e).trans h.f2, (World.frozen?_of_block (w := w) e).trans h.f3⟩
theorem B4.set0 {w : World} {b : Nat} {x0 x1 x2 x3 : Value} (h : B4 w b x0 x1 x2 x3) (y : Value) : B4 (w.setCell ⟨b, 0, none⟩ y) b y x1 x2 x3 :=
  ⟨by simpa [World.setCell] using h.z, by simp [go_sem, h.c0], by simp [go_sem, h.c1], by simp [go_sem, h.c2], by simp [go_sem, h.c3], by simp [h.f0], by simp [h.f1], by simp [h.f2], by simp [h.f3]⟩
theorem B4.set1 {w : World} {b : Nat} {x0 x1 x2 x3 : Value} (h : B4 w b x0 x1 x2 x3) (y : Value) : B4 (w.setCell ⟨b, 1, none⟩ y) b x0 y x2 x3 :=
  ⟨by simpa [World.setCell] using h.z, by simp [go_sem, h.c0], by simp [go_sem, h.c1], by simp [go_sem, h.c2], by simp [go_sem, h.c3], by simp [h.f0], by simp [h.f1], by simp [h.f2], by simp [h.f3]⟩
theorem B4.set2 {w : World} {b : Nat} {x0 x1 x2 x3 : Value} (h : B4 w b x0 x1 x2 x3) (y : Value) : B4 (w.setCell ⟨b, 2, none⟩ y) b x0 x1 y x3 :=
  ⟨by simpa [World.setCell] using h.z, by simp [go_sem, h.c0], by simp [go_sem, h.c1], by simp [go_sem, h.c2], by simp [go_sem, h.c3], by simp [h.f0], by simp [h.f1], by simp [h.f2], by simp [h.f3]⟩
theorem B4.set3 {w : World} {b : Nat} {x0 x1 x2 x3 : Value} (h : B4 w b x0 x1 x2 x3) (y : Value) : B4 (w.setCell ⟨b, 3, none⟩ y) b x0 x1 x2 y :=
  ⟨by simpa [World.setCell] using h.z, by simp [go_sem, h.c0], by simp [go_sem, h.c1], by simp [go_sem, h.c2], by simp [go_sem, h.c3], by simp [h.f0], by simp [h.f1], by simp [h.f2], by simp [h.f3]⟩
theorem B4.set {w : World} {b : Nat} {x0 x1 x2 x3 : Value} (h : B4 w b x0 x1 x2 x3) (y0 y1 y2 y3 : Value) : B4 ((((w.setCell ⟨b, 0, none⟩ y0).setCell ⟨b, 1, none⟩ y1).setCell ⟨b, 2, none⟩ y2).setCell ⟨b, 3, none⟩ y3) b y0 y1 y2 y3 := (((h.set0 y0).set1 y1).set2 y2).set3 y3
theorem bset1 {B : Nat} {a w : World} (h : Below B a w) (p i : Nat) (x : Value) (hp : B ≤ p) : Below B a (w.setCell ⟨p, i, none⟩ x) := h.setCell (p := ⟨p, i, none⟩) hp x
theorem bset3 {B : Nat} {a w : World} (h : Below B a w) (p : Nat) (x0 x1 x2 : Value) (hp : B ≤ p) : Below B a (((w.setCell ⟨p, 0, none⟩ x0).setCell ⟨p, 1, none⟩ x1).setCell ⟨p, 2, none⟩ x2) :=
  bset1 (bset1 (bset1 h p 0 x0 hp) p 1 x1 hp) p 2 x2 hp
theorem bset4 {B : Nat} {a w : World} (h : Below B a w) (p : Nat) (x0 x1 x2 x3 : Value) (hp : B ≤ p) : Below B a ((((w.setCell ⟨p, 0, none⟩ x0).setCell ⟨p, 1, none⟩ x1).setCell ⟨p, 2, none⟩ x2).setCell ⟨p, 3, none⟩ x3) :=
  bset1 (bset3 h p x0 x1 x2 hp) p 3 x3 hp
/-- A byte of a row, in memory. -/
theorem Rw.at {k : IntKind} {w : World} {a : Option Addr} {cap : Nat} {xs : List Int} (h : Rw k w (.slice a xs.length cap) xs) (i : Nat) (hi : i < xs.length) : ∃ b off, a = some ⟨b, off, none⟩ ∧ b < w.heap.size ∧ w.cell? ⟨b, off + i, none⟩ = some (.int k (xs.getD i 0)) := by
  obtain ⟨a', cap', he, ha⟩ := h
  simp only [Value.slice.injEq] at he
  obtain ⟨rfl, _, rfl⟩ := he
  obtain ⟨b, off, rfl, hb, hc⟩ := ha.resolve_left (by intro h; subst h; simp at hi)
  exact ⟨b, off, rfl, hb, hc i hi⟩
theorem B4.new2 (w : World) (o : Obj) (x0 x1 x2 x3 : Value) (t : TypeId) : B4 ((w.alloc o).alloc (.cells #[x0, x1, x2, x3] t)) (w.heap.size + 1) x0 x1 x2 x3 := by
  simpa using B4.new (w.alloc o) x0 x1 x2 x3 t
theorem B3.new2 (w : World) (o : Obj) (x0 x1 x2 : Value) (t : TypeId) : B3 ((w.alloc o).alloc (.cells #[x0, x1, x2] t)) (w.heap.size + 1) x0 x1 x2 := by
  simpa using B3.new (w.alloc o) x0 x1 x2 t
theorem B4.new3 (w : World) (o o' : Obj) (x0 x1 x2 x3 : Value) (t : TypeId) : B4 (((w.alloc o).alloc o').alloc (.cells #[x0, x1, x2, x3] t)) (w.heap.size + 1 + 1) x0 x1 x2 x3 := by
  simpa using B4.new ((w.alloc o).alloc o') x0 x1 x2 x3 t
theorem owns_other {w : World} {base : Nat} {e : TypeId} {size : Nat} {v : Value} {n : Nat} {xs : List Value} (h : w.ownsRow base e size v n xs) (p o : Nat) (x : Value) (hp : p < base) : (w.setCell ⟨p, o, none⟩ x).ownsRow base e size v n xs := by
  obtain ⟨h1, h2⟩ := h
  refine ⟨h1, ?_⟩
  rcases h2 with h2 | ⟨g, cap, cur, hv, hg, hh, r⟩
  · exact .inl h2
  · exact .inr ⟨g, cap, cur, hv, hg, by rw [Below.heap_setCell _ _ _ _ (by show g ≠ p; omega)]; exact hh, r⟩
theorem owns_open {w : World} {base : Nat} {e : TypeId} {v : Value} {n : Nat} {xs : List Value} (h : w.ownsRow base e 1 v n xs) : ∃ a cap, v = .slice a n cap ∧ n ≤ cap ∧ cap ≤ maxLen ∧ (a = none → cap = 0) := by
  obtain ⟨h1, h2⟩ := h
  rcases h2 with ⟨rfl, rfl⟩ | ⟨g, cap, cur, rfl, hg, hh, hcap, hm, r⟩
  · exact ⟨none, 0, rfl, by omega, by omega, fun _ => rfl⟩
  · exact ⟨_, cap, rfl, hcap, hm, fun h => by cases h⟩
theorem cell_four_new (w : World) (x y z u : Value) (t : TypeId) : ∀ j v, [x, y, z, u][j]? = some v → (w.alloc (.cells #[x, y, z, u] t)).cell? ((⟨w.heap.size, 0, none⟩ : Addr).add j) = some v := by
  intro j v h
  match j, h with
  | 0, h => simp at h; subst h; simp [Addr.add, go_sem]
  | 1, h => simp at h; subst h; simp [Addr.add, go_sem]
  | 2, h => simp at h; subst h; simp [Addr.add, go_sem]
  | 3, h => simp at h; subst h; simp [Addr.add, go_sem]
  | j + 4, h => simp at h
theorem cell_four_at {W : World} {k : Nat} (hk : W.heap.size = k) (x y z u : Value) (t : TypeId) : ∀ j v, [x, y, z, u][j]? = some v → (W.alloc (.cells #[x, y, z, u] t)).cell? ((⟨k, 0, none⟩ : Addr).add j) = some v := by
  subst hk; exact cell_four_new W x y z u t
theorem cell_one_at {W : World} {k : Nat} (hk : W.heap.size = k) (x : Value) (t : TypeId) : ∀ j v, [x][j]? = some v → (W.alloc (.cells #[x] t)).cell? ((⟨k, 0, none⟩ : Addr).add j) = some v := by
  subst hk
  intro j v h
  match j, h with
  | 0, h => simp at h; subst h; simp [Addr.add, go_sem]
  | j + 1, h => simp at h
theorem owns_at {w : World} {base : Nat} {e : TypeId} {a : Option Addr} {n cap : Nat} {k : IntKind} {xs : List Int} (h : w.ownsRow base e 1 (.slice a n cap) n (xs.map (Value.int k))) (i : Nat) (hi : i < n) :
    ∃ g, a = some ⟨g, 0, none⟩ ∧ base ≤ g ∧ g < w.heap.size ∧ w.cell? ⟨g, i, none⟩ = some (.int k (xs.getD i 0)) ∧ w.frozen? ⟨g, i, none⟩ = false := by
  have hn : xs.length = n := by have := h.1; simpa using this
  rcases h.2 with ⟨hv, h0⟩ | ⟨g, cap', cur, hv, hg, hh, hcap, hm, hs, ht⟩
  · omega
  · simp only [Value.slice.injEq] at hv
    obtain ⟨rfl, _, rfl⟩ := hv
    refine ⟨g, rfl, hg, ?_, ?_, ?_⟩
    · rcases Nat.lt_or_ge g w.heap.size with h' | h'
      · exact h'
      · rw [Array.getElem?_eq_none h'] at hh; cases hh
    · have e1 : (cur.toList.take (n * 1))[i]? = some (.int k (xs.getD i 0)) := by
        rw [ht]; simp [hn, hi]
      rw [List.getElem?_take_of_lt (by omega)] at e1
      simp [World.cell?, hh] at e1 ⊢
      exact e1
    · simp [World.frozen?, hh]
theorem owns_set {w : World} {base : Nat} {e : TypeId} {g n cap : Nat} {k : IntKind} {xs : List Int} (h : w.ownsRow base e 1 (.slice (some ⟨g, 0, none⟩) n cap) n (xs.map (Value.int k))) (i : Nat) (y : Int) :
    (w.setCell ⟨g, i, none⟩ (.int k y)).ownsRow base e 1 (.slice (some ⟨g, 0, none⟩) n cap) n ((xs.set i y).map (Value.int k)) := by
  have := (h.stored i (.int k y)).1
  rw [List.map_set]
  exact this
theorem B3.grown {w w' : World} {b : Nat} {x0 x1 x2 : Value} {o : Option Nat} (h : B3 w b x0 x1 x2) (hg : w.grownBy w' o) (hne : o ≠ some b) : B3 w' b x0 x1 x2 := by
  have e := hg.block b h.z (fun hh => hne hh.symm)
  exact ⟨Nat.lt_of_lt_of_le h.z hg.size, (World.cell?_of_block (w := w) e).trans h.c0, (World.cell?_of_block (w := w) e).trans h.c1, (World.cell?_of_block (w := w) e).trans h.c2, (World.frozen?_of_block (w := w) e).trans h.f0, (World.frozen?_of_block (w := w) e).trans h.f1, (World.frozen?_of_block (w := w) e).trans h.f2⟩
theorem B3.belowB {w w' : World} {b B : Nat} {x0 x1 x2 : Value} (h : B3 w b x0 x1 x2) (hb : Below B w w') (hB : b < B) : B3 w' b x0 x1 x2 :=
  ⟨Nat.lt_of_lt_of_le h.z hb.size, (hb.cell (p := ⟨b, 0, none⟩) hB).trans h.c0, (hb.cell (p := ⟨b, 1, none⟩) hB).trans h.c1, (hb.cell (p := ⟨b, 2, none⟩) hB).trans h.c2, (hb.frozen (p := ⟨b, 0, none⟩) hB).trans h.f0, (hb.frozen (p := ⟨b, 1, none⟩) hB).trans h.f1, (hb.frozen (p := ⟨b, 2, none⟩) hB).trans h.f2⟩
/-- A struct of two cells, of the call's own. -/
structure B2 (w : World) (b : Nat) (x0 x1 : Value) : Prop where
  z : b < w.heap.size
  c0 : w.cell? ⟨b, 0, none⟩ = some x0
  c1 : w.cell? ⟨b, 1, none⟩ = some x1
  f0 : w.frozen? ⟨b, 0, none⟩ = false
  f1 : w.frozen? ⟨b, 1, none⟩ = false
theorem B2.below {w w' : World} {b : Nat} {x0 x1 : Value} (h : B2 w b x0 x1) (hb : Below w.heap.size w w') : B2 w' b x0 x1 := by
  obtain ⟨hc, hf⟩ := bcell hb
  have hz := h.z
  exact ⟨Nat.lt_of_lt_of_le hz hb.size, (hc _ _ hz).trans h.c0, (hc _ _ hz).trans h.c1, (hf _ _ hz).trans h.f0, (hf _ _ hz).trans h.f1⟩
theorem B2.new (w : World) (x0 x1 : Value) (t : TypeId) : B2 (w.alloc (.cells #[x0, x1] t)) w.heap.size x0 x1 :=
  ⟨by simp, by simp [go_sem], by simp [go_sem], by simp [go_sem], by simp [go_sem]⟩
theorem B2.new2 (w : World) (o : Obj) (x0 x1 : Value) (t : TypeId) : B2 ((w.alloc o).alloc (.cells #[x0, x1] t)) (w.heap.size + 1) x0 x1 := by
  simpa using B2.new (w.alloc o) x0 x1 t
theorem B2.of_block {w w' : World} {b : Nat} {x0 x1 : Value} (h : B2 w b x0 x1) (e : w'.heap[b]? = w.heap[b]?) (hz : b < w'.heap.size) : B2 w' b x0 x1 :=
  ⟨hz, (World.cell?_of_block (w := w) e).trans h.c0, (World.cell?_of_block (w := w) e).trans h.c1, (World.frozen?_of_block (w := w) e).trans h.f0, (World.frozen?_of_block (w := w) e).trans h.f1⟩
theorem B2.other {w : World} {b : Nat} {x0 x1 : Value} (h : B2 w b x0 x1) (c o : Nat) (y : Value) (hne : b ≠ c) : B2 (w.setCell ⟨c, o, none⟩ y) b x0 x1 :=
  h.of_block (Below.heap_setCell w ⟨c, o, none⟩ y b hne) (by simpa [World.setCell] using h.z)
theorem B2.set0 {w : World} {b : Nat} {x0 x1 : Value} (h : B2 w b x0 x1) (y : Value) : B2 (w.setCell ⟨b, 0, none⟩ y) b y x1 :=
  ⟨by simpa [World.setCell] using h.z, by simp [go_sem, h.c0], by simp [go_sem, h.c1], by simp [h.f0], by simp [h.f1]⟩
theorem B2.set1 {w : World} {b : Nat} {x0 x1 : Value} (h : B2 w b x0 x1) (y : Value) : B2 (w.setCell ⟨b, 1, none⟩ y) b x0 y :=
  ⟨by simpa [World.setCell] using h.z, by simp [go_sem, h.c0], by simp [go_sem, h.c1], by simp [h.f0], by simp [h.f1]⟩
theorem B2.grown {w w' : World} {b : Nat} {x0 x1 : Value} {o : Option Nat} (h : B2 w b x0 x1) (hg : w.grownBy w' o) (hne : o ≠ some b) : B2 w' b x0 x1 :=
  h.of_block (hg.block b h.z (fun hh => hne hh.symm)) (Nat.lt_of_lt_of_le h.z hg.size)
theorem bset2' {B : Nat} {a w : World} (h : Below B a w) (p : Nat) (x0 x1 : Value) (hp : B ≤ p) : Below B a ((w.setCell ⟨p, 0, none⟩ x0).setCell ⟨p, 1, none⟩ x1) :=
  bset1 (bset1 h p 0 x0 hp) p 1 x1 hp
/-- An append onto a row of the call's own, at a step of a region that draws its order. -/
theorem step_append_own {P : Program} {w : World} {ops : Array Oper} {o : Oper} {a : Act} {K : Act → World → Prop} {Q : Exit → Act → World → Prop} {E : Prop} (hgd : o.guard = none) (s x : Operand) (t : TypeId)
    (ho : o.op = .call { callee := .builtin .append, args := #[s, x], argTypes := #[t, t] })
    (base : Nat) (e : TypeId) (i : TypeInfo) (z : Value) (bytes : Nat) (ht : P.underlying t = some (.slice e)) (hi : P.info? e = some i) (hz : i.zero = some z)
    (hsize : i.size = 1) (hby : i.bytes = bytes) (hzs : z.cells.size = 1)
    (v : Value) (n : Nat) (xs : List Value) (hs : a.eval s = v) (hown : w.ownsRow base e 1 v n xs)
    (ad : Addr) (m c : Nat) (news : List Value) (hx : a.eval x = .slice (some ad) m c) (hl : news.length = m * 1) (hnews : ∀ j u, news[j]? = some u → w.cell? (ad.add j) = some u) (h1 : ∀ u ∈ news, u.oneCell' = true)
    (h63 : n + m ≤ maxLen) (hbytes : (n + m) * bytes ≤ 140737488355328) (hbase : base ≤ w.heap.size)
    (h : ∀ v' w', w'.ownsRow base e 1 v' (n + m) (xs ++ news) → w.grownBy w' v.ownBlock → K (a.put o.dst v') w') :
    if Region.wanted o (yielded ops a.tmps) = true then Oper.wp P o a w K Q else E := by
  have hw : Region.wanted o (yielded ops a.tmps) = true := by simp [Region.wanted, hgd]
  rw [if_pos hw]
  obtain ⟨v', w', hr, h2, h3, _⟩ := run_append_own (P := P) w base t o.type e i z 1 bytes ht hi hz hsize hby hzs (by decide) v n xs hown ad m c news hl hnews h1 h63 hbytes hbase
  unfold Oper.wp execOp
  simp only [ho, resolve, invoke, builtin, Sem.run_bind, Sem.run_pure, Result.andThen_ok, List.map_toArray, List.map_cons, List.map_nil, hs, hx, hr]
  exact h v' w' h2 h3
theorem rw_lit4 (base : Nat) (w : World) (b : Nat) (x y z u : Int) (k : IntKind) (c : Nat) (h : w.cell? ⟨b, 0, none⟩ = some (.int k x)) (h1 : w.cell? ⟨b, 1, none⟩ = some (.int k y)) (h2 : w.cell? ⟨b, 2, none⟩ = some (.int k z)) (h3 : w.cell? ⟨b, 3, none⟩ = some (.int k u)) (hb : b < w.heap.size) (hB : base ≤ b) : RwF base k w (.slice (some ⟨b, 0, none⟩) 4 c) [x, y, z, u] := by
  refine ⟨some ⟨b, 0, none⟩, c, rfl, .inr ⟨b, 0, rfl, hB, hb, fun i hi => ?_⟩⟩
  simp at hi
  have : i = 0 ∨ i = 1 ∨ i = 2 ∨ i = 3 := by omega
  rcases this with rfl | rfl | rfl | rfl
  · simpa using h
  · simpa using h1
  · simpa using h2
  · simpa using h3
theorem owns_drew {w : World} {base : Nat} {e : TypeId} {size : Nat} {v : Value} {n : Nat} {xs : List Value} (h : w.ownsRow base e size v n xs) : w.drew.ownsRow base e size v n xs := h
theorem owns_new {w : World} {base : Nat} {e : TypeId} {size : Nat} {v : Value} {n : Nat} {xs : List Value} (h : w.ownsRow base e size v n xs) (o : Obj) : (w.alloc o).drew.ownsRow base e size v n xs := owns_drew (h.alloc o)
theorem cell_one_drew (W : World) (x : Value) (t : TypeId) : ∀ j v, [x][j]? = some v → (W.alloc (.cells #[x] t)).drew.cell? ((⟨W.heap.size, 0, none⟩ : Addr).add j) = some v := cell_one_at rfl x t
theorem one_cell (k : IntKind) (y : Int) : ∀ u ∈ [Value.int k y], u.oneCell' = true := by intro u hu; simp at hu; subst hu; rfl
theorem own_empty {w : World} {base : Nat} {e : TypeId} (h : base ≤ w.heap.size) : (w.alloc (.cells #[] e)).ownsRow base e 1 (.slice (some ⟨w.heap.size, 0, none⟩) 0 0) 0 [] :=
  ⟨by simp, .inr ⟨w.heap.size, 0, #[], rfl, h, heap_alloc_new w _, by omega, by unfold maxLen; omega, by simp, by simp⟩⟩
theorem owns_off {w : World} {base : Nat} {e : TypeId} {size : Nat} {v : Value} {n : Nat} {xs : List Value} (h : w.ownsRow base e size v n xs) (p o : Nat) (hp : v.ownBlock ≠ some p) (u : Value) : (w.setCell ⟨p, o, none⟩ u).ownsRow base e size v n xs := ownsRow_setCell_other h (a := ⟨p, o, none⟩) hp u
theorem drewN_below {B : Nat} {w w' : World} (h : Below B w w') (n : Nat) : Below B w (w'.drewN n) := below_drewN h n
/-- A slice of triples of integers that came in. -/
def IsTriples (k0 k1 k2 : IntKind) (w : World) (a : Option Addr) (len : Nat) (z0 z1 z2 : Nat → Int) : Prop :=
  len ≤ maxLen ∧ (len = 0 ∨ ∃ b off, a = some ⟨b, off, none⟩ ∧ b < w.heap.size ∧ ∀ i, i < len → w.cell? ⟨b, off + i * 3, none⟩ = some (.int k0 (z0 i)) ∧ w.cell? ⟨b, off + i * 3 + 1, none⟩ = some (.int k1 (z1 i)) ∧ w.cell? ⟨b, off + i * 3 + 2, none⟩ = some (.int k2 (z2 i)) ∧ (Lit.int k0 (z0 i)).wf = true ∧ (Lit.int k1 (z1 i)).wf = true ∧ (Lit.int k2 (z2 i)).wf = true)
theorem triples_of_trod {H : Type} {enc : TypeId × Value → H} {P : Program} {w : World} {t e : TypeId} {f0 f1 f2 : Field} {k0 k1 k2 : IntKind} {fuel : Nat} {a : Option Addr} {len cap : Nat} {x : DataW H × List MemPlace} (ht : P.underlying t = some (.slice e)) (he : P.underlying e = some (.struct #[f0, f1, f2]))
    (ce : P.cellsOf e = 3) (o0 : f0.offset = 0) (o1 : f1.offset = 1) (o2 : f2.offset = 2) (c0 : P.cellsOf f0.type = 1) (c1 : P.cellsOf f1.type = 1) (c2 : P.cellsOf f2.type = 1) (u0 : P.underlying f0.type = some (.int k0)) (u1 : P.underlying f1.type = some (.int k1)) (u2 : P.underlying f2.type = some (.int k2))
    (h : DataW.trod enc P w 0 (fun _ => true) true fuel t [.slice a len cap] = some x) : ∃ z0 z1 z2, IsTriples k0 k1 k2 w a len z0 z1 z2 := by
  rcases Deep.open_slice ht h with ⟨hcs, _⟩ | ⟨ad, l, c, m, n, D, Pl, hcs, _, hl, hm, hmm, _, hx⟩
  · simp only [List.cons.injEq, and_true, Value.slice.injEq] at hcs
    obtain ⟨rfl, rfl, rfl⟩ := hcs
    exact ⟨fun _ => 0, fun _ => 0, fun _ => 0, by unfold maxLen; omega, .inl rfl⟩
  · simp only [List.cons.injEq, and_true, Value.slice.injEq] at hcs
    obtain ⟨rfl, rfl, rfl⟩ := hcs
    simp only [if_true] at hmm
    subst hmm
    have each : ∀ i, i < m → ∃ q : Int × Int × Int, w.cell? (ad.add (i * 3)) = some (.int k0 q.1) ∧ w.cell? (ad.add (i * 3 + 1)) = some (.int k1 q.2.1) ∧ w.cell? (ad.add (i * 3 + 2)) = some (.int k2 q.2.2) ∧ (Lit.int k0 q.1).wf = true ∧ (Lit.int k1 q.2.1).wf = true ∧ (Lit.int k2 q.2.2).wf = true := by
      intro i hi
      obtain ⟨cs', h1, h2⟩ := hx i hi
      rw [ce] at h1
      obtain ⟨_, hlen, hcell⟩ := World.cells?_some h1
      obtain ⟨xs, k, hk, hxy, _, hxl, hf⟩ := DataW.trod_struct he h2
      match xs, hxl, cs', hlen with
      | [y0, y1, y2], _, [v0, v1, v2], _ =>
        have g0 := hf 0 f0 rfl
        have g1 := hf 1 f1 rfl
        have g2 := hf 2 f2 rfl
        simp [o0, o1, o2, c0, c1, c2] at g0 g1 g2
        have e0 := hcell 0 (by omega)
        have e1 := hcell 1 (by omega)
        have e2 := hcell 2 (by omega)
        rw [Deep.add_add] at e0 e1 e2
        obtain ⟨x0, q0, _, w0⟩ := DataW.trod_int u0 g0
        obtain ⟨x1, q1, _, w1⟩ := DataW.trod_int u1 g1
        obtain ⟨x2, q2, _, w2⟩ := DataW.trod_int u2 g2
        simp only [List.cons.injEq, and_true] at q0 q1 q2
        subst q0 q1 q2
        exact ⟨(x0, x1, x2), by simpa using e0, by simpa using e1, by simpa using e2, w0, w1, w2⟩
    by_cases h0 : len = 0
    · exact ⟨fun _ => 0, fun _ => 0, fun _ => 0, by omega, .inl h0⟩
    · obtain ⟨q, hq⟩ := Deep.choose_lt each
      obtain ⟨b, off, spot⟩ := ad
      have hc := (hq 0 (by omega)).1
      have hspot : spot = none := by simpa [Addr.add] using World.cell?_spot hc
      subst hspot
      refine ⟨fun i => (q i).1, fun i => (q i).2.1, fun i => (q i).2.2, by omega, .inr ⟨b, off, rfl, World.block_lt_of_cell? w _ hc, fun i hi => ?_⟩⟩
      obtain ⟨g0, g1, g2, r0, r1, r2⟩ := hq i (by omega)
      rw [Addr.add_lit] at g0 g1 g2
      exact ⟨g0, g1, g2, r0, r1, r2⟩
theorem bthen' {a b c : World} (h : Below a.heap.size a b) (k : Below b.heap.size b c) : Below a.heap.size a c := bthen h k h.size
theorem cell_three_new (W : World) (x y z : Value) (t : TypeId) : ∀ j v, [x, y, z][j]? = some v → (W.alloc (.cells #[x, y, z] t)).cell? ((⟨W.heap.size, 0, none⟩ : Addr).add j) = some v := by
  intro j v h
  match j, h with
  | 0, h => simp at h; subst h; simp [Addr.add, go_sem]
  | 1, h => simp at h; subst h; simp [Addr.add, go_sem]
  | 2, h => simp at h; subst h; simp [Addr.add, go_sem]
  | j + 3, h => simp at h
def Made3 (wr wz : World) (p : Value) (x0 x1 x2 : Value) : Prop := ∃ bx, p = .pointer (some ⟨bx, 0, none⟩) ∧ B3 wz bx x0 x1 x2 ∧ wr.heap.size ≤ bx ∧ Below wr.heap.size wr wz
theorem made3_after {y wr : World} {x0 x1 x2 : Value} {t : TypeId} (h : Below wr.heap.size wr y) : Made3 wr (y.alloc (.cells #[x0, x1, x2] t)) (.pointer (some ⟨y.heap.size, 0, none⟩)) x0 x1 x2 :=
  ⟨y.heap.size, rfl, B3.new _ _ _ _ _, h.size, h.alloc h.size _⟩
theorem made3_before {y wr : World} {x0 x1 x2 z0 z1 z2 : Value} {t : TypeId} (e : Below (wr.alloc (.cells #[z0, z1, z2] t)).drew.heap.size (wr.alloc (.cells #[z0, z1, z2] t)).drew y) : Made3 wr (((y.setCell ⟨wr.heap.size, 0, none⟩ x0).setCell ⟨wr.heap.size, 1, none⟩ x1).setCell ⟨wr.heap.size, 2, none⟩ x2) (.pointer (some ⟨wr.heap.size, 0, none⟩)) x0 x1 x2 :=
  ⟨wr.heap.size, rfl, ((B3.new wr z0 z1 z2 t).below (drew_below e)).set x0 x1 x2, Nat.le_refl _, bset3 (bthen' (below1 _ _) (drew_below e)) _ _ _ _ (Nat.le_refl _)⟩
def Made4 (wr wz : World) (p : Value) (x0 x1 x2 x3 : Value) : Prop := ∃ bx, p = .pointer (some ⟨bx, 0, none⟩) ∧ B4 wz bx x0 x1 x2 x3 ∧ wr.heap.size ≤ bx ∧ Below wr.heap.size wr wz
theorem made4_after {y wr : World} {x0 x1 x2 x3 : Value} {t : TypeId} (h : Below wr.heap.size wr y) : Made4 wr (y.alloc (.cells #[x0, x1, x2, x3] t)) (.pointer (some ⟨y.heap.size, 0, none⟩)) x0 x1 x2 x3 :=
  ⟨y.heap.size, rfl, B4.new _ _ _ _ _ _, h.size, h.alloc h.size _⟩
theorem made4_before {y wr : World} {x0 x1 x2 x3 z0 z1 z2 z3 : Value} {t : TypeId} (e : Below (wr.alloc (.cells #[z0, z1, z2, z3] t)).drew.heap.size (wr.alloc (.cells #[z0, z1, z2, z3] t)).drew y) : Made4 wr ((((y.setCell ⟨wr.heap.size, 0, none⟩ x0).setCell ⟨wr.heap.size, 1, none⟩ x1).setCell ⟨wr.heap.size, 2, none⟩ x2).setCell ⟨wr.heap.size, 3, none⟩ x3) (.pointer (some ⟨wr.heap.size, 0, none⟩)) x0 x1 x2 x3 :=
  ⟨wr.heap.size, rfl, ((B4.new wr z0 z1 z2 z3 t).below (drew_below e)).set x0 x1 x2 x3, Nat.le_refl _, bset4 (bthen' (below1 _ _) (drew_below e)) _ _ _ _ _ (Nat.le_refl _)⟩
theorem row_after {y : World} {base : Nat} {k : IntKind} {v : Value} {xs : List Int} (r : RwF base k y v xs) (o : Obj) : RwF base k (y.alloc o) v xs := r.below (below1 _ _)
theorem row_before3 {y wr : World} {k : IntKind} {v : Value} {xs : List Int} {z0 z1 z2 : Value} {t : TypeId} (r : RwF (wr.alloc (.cells #[z0, z1, z2] t)).drew.heap.size k y v xs) (x0 x1 x2 : Value) : RwF wr.heap.size k (((y.setCell ⟨wr.heap.size, 0, none⟩ x0).setCell ⟨wr.heap.size, 1, none⟩ x1).setCell ⟨wr.heap.size, 2, none⟩ x2) v xs := by
  have hlt : wr.heap.size < (wr.alloc (.cells #[z0, z1, z2] t)).drew.heap.size := by show wr.heap.size < (wr.alloc (.cells #[z0, z1, z2] t)).heap.size; simp
  exact (((r.set wr.heap.size 0 x0 hlt).set wr.heap.size 1 x1 hlt).set wr.heap.size 2 x2 hlt).mono (Nat.le_of_lt hlt)
theorem RwF.grown {base : Nat} {k : IntKind} {w w' : World} {v : Value} {xs : List Int} {row : Option Nat} (h : RwF base k w v xs) (hg : w.grownBy w' row) (hr : ∀ i, row = some i → i < base) : RwF base k w' v xs := by
  obtain ⟨a, cap, hv, h⟩ := h
  refine ⟨a, cap, hv, ?_⟩
  rcases h with h | ⟨b, off, ha, hlo, hlt, hc⟩
  · exact .inl h
  · refine .inr ⟨b, off, ha, hlo, Nat.lt_of_lt_of_le hlt hg.size, fun i hi => ?_⟩
    exact hg.cell (hc i hi) (fun e => by have := hr _ e.symm; simp at this; omega)
theorem held6 {wr w' : World} {b c o : Nat} {x0 x1 x2 y0 y1 y2 : Value} (h : Below wr.heap.size wr w') (hb : B3 wr b x0 x1 x2) (hc : c < wr.heap.size) (d0 : wr.cell? ⟨c, o, none⟩ = some y0) (d1 : wr.cell? ⟨c, o + 1, none⟩ = some y1) (d2 : wr.cell? ⟨c, o + 2, none⟩ = some y2) :
    w'.cell? ⟨b, 0, none⟩ = some x0 ∧ w'.cell? ⟨b, 1, none⟩ = some x1 ∧ w'.cell? ⟨b, 2, none⟩ = some x2 ∧ w'.cell? ⟨c, o, none⟩ = some y0 ∧ w'.cell? ⟨c, o + 1, none⟩ = some y1 ∧ w'.cell? ⟨c, o + 2, none⟩ = some y2 :=
  ⟨(hb.below h).c0, (hb.below h).c1, (hb.below h).c2, ((bcell h).1 _ _ hc).trans d0, ((bcell h).1 _ _ hc).trans d1, ((bcell h).1 _ _ hc).trans d2⟩
theorem held7 {wr w' : World} {b c o : Nat} {x0 x1 x2 x3 y0 y1 y2 : Value} (h : Below wr.heap.size wr w') (hb : B4 wr b x0 x1 x2 x3) (hc : c < wr.heap.size) (d0 : wr.cell? ⟨c, o, none⟩ = some y0) (d1 : wr.cell? ⟨c, o + 1, none⟩ = some y1) (d2 : wr.cell? ⟨c, o + 2, none⟩ = some y2) :
    w'.cell? ⟨b, 0, none⟩ = some x0 ∧ w'.cell? ⟨b, 1, none⟩ = some x1 ∧ w'.cell? ⟨b, 2, none⟩ = some x2 ∧ w'.cell? ⟨b, 3, none⟩ = some x3 ∧ w'.cell? ⟨c, o, none⟩ = some y0 ∧ w'.cell? ⟨c, o + 1, none⟩ = some y1 ∧ w'.cell? ⟨c, o + 2, none⟩ = some y2 :=
  ⟨(hb.below h).c0, (hb.below h).c1, (hb.below h).c2, (hb.below h).c3, ((bcell h).1 _ _ hc).trans d0, ((bcell h).1 _ _ hc).trans d1, ((bcell h).1 _ _ hc).trans d2⟩
theorem held3 {wr w' : World} {b : Nat} {x0 x1 x2 : Value} (h : Below wr.heap.size wr w') (hb : B3 wr b x0 x1 x2) :
    w'.cell? ⟨b, 0, none⟩ = some x0 ∧ w'.cell? ⟨b, 1, none⟩ = some x1 ∧ w'.cell? ⟨b, 2, none⟩ = some x2 := ⟨(hb.below h).c0, (hb.below h).c1, (hb.below h).c2⟩
theorem Rw.off {k : IntKind} {w : World} {a : Option Addr} {n cap b : Nat} {xs : List Int} (h : Rw k w (.slice a n cap) xs) (hne : ∀ b' off, a = some ⟨b', off, none⟩ → b' ≠ b) (o : Nat) (y : Value) : Rw k (w.setCell ⟨b, o, none⟩ y) (.slice a n cap) xs := by
  obtain ⟨a', cap', he, ha⟩ := h
  simp only [Value.slice.injEq] at he
  obtain ⟨rfl, hl, rfl⟩ := he
  refine ⟨a, cap, by rw [hl], ?_⟩
  rcases ha with ha | ⟨b1, off, rfl, hz, hc⟩
  · exact .inl ha
  · refine .inr ⟨b1, off, rfl, by simpa [World.setCell] using hz, fun i hi => ?_⟩
    rw [World.cell?_of_block (w := w) (Below.heap_setCell w ⟨b, o, none⟩ y b1 (hne b1 off rfl))]
    exact hc i hi
theorem res_block {w w' : World} {o : Obj} {o' : Obj} (hb : Below ((w.alloc o).alloc o').heap.size ((w.alloc o).alloc o') w') : w'.heap[w.heap.size + 1]? = some o' := by
  rw [hb.block _ (by simp)]
  have := heap_alloc_new (w.alloc o) o'
  simpa using this
def IsPairs (k0 k1 : IntKind) (w : World) (a : Option Addr) (len : Nat) (z0 z1 : Nat → Int) : Prop :=
  len ≤ maxLen ∧ (len = 0 ∨ ∃ b off, a = some ⟨b, off, none⟩ ∧ b < w.heap.size ∧ ∀ i, i < len → w.cell? ⟨b, off + i * 2, none⟩ = some (.int k0 (z0 i)) ∧ w.cell? ⟨b, off + i * 2 + 1, none⟩ = some (.int k1 (z1 i)) ∧ (Lit.int k0 (z0 i)).wf = true ∧ (Lit.int k1 (z1 i)).wf = true)
theorem pairs_of_trod {H : Type} {enc : TypeId × Value → H} {P : Program} {w : World} {t e : TypeId} {f0 f1 : Field} {k0 k1 : IntKind} {fuel : Nat} {a : Option Addr} {len cap : Nat} {x : DataW H × List MemPlace} (ht : P.underlying t = some (.slice e)) (he : P.underlying e = some (.struct #[f0, f1]))
    (ce : P.cellsOf e = 2) (o0 : f0.offset = 0) (o1 : f1.offset = 1) (c0 : P.cellsOf f0.type = 1) (c1 : P.cellsOf f1.type = 1) (u0 : P.underlying f0.type = some (.int k0)) (u1 : P.underlying f1.type = some (.int k1))
    (h : DataW.trod enc P w 0 (fun _ => true) true fuel t [.slice a len cap] = some x) : ∃ z0 z1, IsPairs k0 k1 w a len z0 z1 := by
  rcases Deep.open_slice_pairs ht he ce o0 o1 c0 c1 h with ⟨hcs, _⟩ | ⟨ad, l, c, m, n, V0, V1, D0, D1, P0, P1, hcs, _, hl, hm, hmm, _, hall⟩
  · simp only [List.cons.injEq, and_true, Value.slice.injEq] at hcs
    obtain ⟨rfl, rfl, rfl⟩ := hcs
    exact ⟨fun _ => 0, fun _ => 0, by unfold maxLen; omega, .inl rfl⟩
  · simp only [List.cons.injEq, and_true, Value.slice.injEq] at hcs
    obtain ⟨rfl, rfl, rfl⟩ := hcs
    simp only [if_true] at hmm
    subst hmm
    by_cases h0 : len = 0
    · exact ⟨fun _ => 0, fun _ => 0, by omega, .inl h0⟩
    · obtain ⟨b, off, spot⟩ := ad
      have hc := (hall 0 (by omega)).1
      have hspot : spot = none := by simpa [Addr.add] using World.cell?_spot hc
      subst hspot
      refine ⟨fun i => intOf (V0 i), fun i => intOf (V1 i), by omega, .inr ⟨b, off, rfl, World.block_lt_of_cell? w _ hc, fun i hi => ?_⟩⟩
      obtain ⟨g0, g1, r0, r1⟩ := hall i (by omega)
      obtain ⟨x0, e0, _, w0⟩ := DataW.trod_int u0 r0
      obtain ⟨x1, e1, _, w1⟩ := DataW.trod_int u1 r1
      simp only [List.cons.injEq, and_true] at e0 e1
      rw [Addr.add_lit] at g0 g1
      have a0 : (fun i => intOf (V0 i)) i = x0 := by show intOf (V0 i) = x0; rw [e0]; rfl
      have a1 : (fun i => intOf (V1 i)) i = x1 := by show intOf (V1 i) = x1; rw [e1]; rfl
      rw [a0, a1]
      exact ⟨by rw [g0, e0], by rw [Nat.add_assoc, g1, e1], w0, w1⟩
theorem cell_pair_new (W : World) (x y : Value) (t : TypeId) : ∀ j v, [x, y][j]? = some v → (W.alloc (.cells #[x, y] t)).cell? ((⟨W.heap.size, 0, none⟩ : Addr).add j) = some v := by
  intro j v h
  match j, h with
  | 0, h => simp at h; subst h; simp [Addr.add, go_sem]
  | 1, h => simp at h; subst h; simp [Addr.add, go_sem]
  | j + 2, h => simp at h
theorem held5 {wr w' : World} {b c o : Nat} {x0 x1 x2 y0 y1 : Value} (h : Below wr.heap.size wr w') (hb : B3 wr b x0 x1 x2) (hc : c < wr.heap.size) (d0 : wr.cell? ⟨c, o, none⟩ = some y0) (d1 : wr.cell? ⟨c, o + 1, none⟩ = some y1) :
    w'.cell? ⟨b, 0, none⟩ = some x0 ∧ w'.cell? ⟨b, 1, none⟩ = some x1 ∧ w'.cell? ⟨b, 2, none⟩ = some x2 ∧ w'.cell? ⟨c, o, none⟩ = some y0 ∧ w'.cell? ⟨c, o + 1, none⟩ = some y1 :=
  ⟨(hb.below h).c0, (hb.below h).c1, (hb.below h).c2, ((bcell h).1 _ _ hc).trans d0, ((bcell h).1 _ _ hc).trans d1⟩
theorem held42 {wr w' : World} {b c o : Nat} {x0 x1 x2 x3 y0 y1 : Value} (h : Below wr.heap.size wr w') (hb : B4 wr b x0 x1 x2 x3) (hc : c < wr.heap.size) (d0 : wr.cell? ⟨c, o, none⟩ = some y0) (d1 : wr.cell? ⟨c, o + 1, none⟩ = some y1) :
    w'.cell? ⟨b, 0, none⟩ = some x0 ∧ w'.cell? ⟨b, 1, none⟩ = some x1 ∧ w'.cell? ⟨b, 2, none⟩ = some x2 ∧ w'.cell? ⟨b, 3, none⟩ = some x3 ∧ w'.cell? ⟨c, o, none⟩ = some y0 ∧ w'.cell? ⟨c, o + 1, none⟩ = some y1 :=
  ⟨(hb.below h).c0, (hb.below h).c1, (hb.below h).c2, (hb.below h).c3, ((bcell h).1 _ _ hc).trans d0, ((bcell h).1 _ _ hc).trans d1⟩
end Go.Proofs.Ytolfnjlkcppplaa
/- Whole arrays by value (a new one, one stored whole, one out of the middle of a block, an element); rows of a call's own as plain cells. Nothing of the program is imported. -/
namespace Go.Proofs.Ytolfnjlkcppplaa
open Go.RowKit
set_option linter.unusedVariables false
set_option linter.unusedSimpArgs false

theorem block_in {w : World} {g : Nat} {o : Obj} (h : w.heap[g]? = some o) : g < w.heap.size := by
  rcases Nat.lt_or_ge g w.heap.size with h' | h'
  · exact h'
  · rw [Array.getElem?_eq_none h'] at h; cases h

/-- A new variable of any type, its zero value as one row of cells; the world behind it by what it holds. -/
theorem wpList_alloc_zero {P : Program} {ops : Array Oper} {rest : List Oper} {o : Oper} {a : Act} {w : World} {Q : Exit → Act → World → Prop} (hgd : o.guard = none) (t : TypeId) (ho : o.op = .alloc t)
    (dst : Option Tmp) (hdst : o.dst = dst) (z : Value) (n : Nat) (hz : (P.info? t).map (fun i => (i.zero, i.size)) = some (some z, n))
    (h : ∀ w', w'.heap[w.heap.size]? = some (.cells z.cells t (0, 0)) → Below w.heap.size w w' → w'.heap.size = w.heap.size + 1 → wpList P ops Q rest (a.put dst (.pointer (some ⟨w.heap.size, 0, none⟩))) w') : wpList P ops Q (o :: rest) a w := by
  subst hdst
  refine wpList_plain hgd fun K hK => ?_
  have h1 := (zero_of_info hz).1 w
  have hr : (Instr.alloc t true (.tuple #[])).run P w = .ok (.pointer (some ⟨w.heap.size, 0, none⟩)) (w.alloc (.cells z.cells t)) := by
    simp only [Instr.alloc, Sem.run_bind, h1, newVar, newRow, run_newObj_alloc, Result.andThen_ok, Sem.run_pure]
  unfold Oper.wp execOp
  simp only [ho, Sem.run_bind, hr, Result.andThen_ok, Sem.run_pure]
  exact hK _ _ (h _ (heap_alloc_last w _) (below1 w _) (World.size_alloc _ _))

/-- A whole array into a variable of its own. -/
theorem wpList_store_whole {P : Program} {ops : Array Oper} {rest : List Oper} {o : Oper} {a : Act} {w : World} {Q : Exit → Act → World → Prop} (hgd : o.guard = none) (ty : TypeId) (x y : Operand) (ho : o.op = .store ty x y)
    (g B : Nat) (cells : Array Value) (hx : a.eval x = .pointer (some ⟨g, 0, none⟩)) (hy : a.eval y = .agg cells)
    (t : TypeId) (old : Array Value) (hg : w.heap[g]? = some (.cells old t (0, 0))) (hi : (P.info? ty).map (·.size) = some cells.size)
    (hold : old.size = cells.size) (h1 : cells.all (·.oneCell') = true) (hB : B ≤ g)
    (h : ∀ w', w'.heap[g]? = some (.cells cells t (0, 0)) → Below B w w' → w'.heap.size = w.heap.size → (∀ i, i ≠ g → w'.heap[i]? = w.heap[i]?) → wpList P ops Q rest (a.put o.dst undef) w') : wpList P ops Q (o :: rest) a w := by
  refine wpList_store_row hgd ty x y ho g cells hx hy t old hg hi hold h1 ?_
  have ho : ∀ i, i ≠ g → (w.setRow g cells).heap[i]? = w.heap[i]? := fun i hi => setRow_other w g i cells hi
  exact h _ (setRow_heap w g old cells t (0, 0) hg) ⟨rfl, rfl, rfl, by simp, fun i hi => ho i (by omega)⟩ (by simp) ho

/-- A whole array out of the middle of a block. -/
theorem wpList_load_part {P : Program} {ops : Array Oper} {rest : List Oper} {op : Oper} {a : Act} {w : World} {Q : Exit → Act → World → Prop} (hgd : op.guard = none) (ty : TypeId) (x : Operand) (ho : op.op = .load ty x)
    (b o : Nat) (hx : a.eval x = .pointer (some ⟨b, o, none⟩)) (cs : List Value) (cs' : Array Value) (hcs : cs.toArray = cs') (n : Nat) (e : TypeId) (hc : w.rangeAt b o cs)
    (hu : P.underlying ty = some (.array n e)) (hi : (P.info? ty).map (·.size) = some cs.length)
    (h : wpList P ops Q rest (a.put op.dst (.agg cs')) w) : wpList P ops Q (op :: rest) a w := by
  subst hcs
  exact wpList_load_mid hgd ty x ho b o hx cs _ hc hu rfl hi h

/-- An element of an array by value: one cell. -/
theorem wpList_index_one {P : Program} {ops : Array Oper} {rest : List Oper} {o : Oper} {a : Act} {w : World} {Q : Exit → Act → World → Prop} (hgd : o.guard = none) (t : TypeId) (x ix : Operand) (ho : o.op = .index t x ix)
    (len : Nat) (e : TypeId) (k2 : IntKind) (cs : Array Value) (kd : IntKind) (i : Int) (v : Value) (hx : a.eval x = .agg cs) (hix : a.eval ix = .int kd i) (h0 : 0 ≤ i) (h1 : i < len)
    (hu : P.underlying t = some (.array len e)) (hue : P.underlying e = some (.int k2)) (hs : (P.info? e).map (·.size) = some 1) (hv : cs[i.toNat]? = some v)
    (h : wpList P ops Q rest (a.put o.dst v) w) : wpList P ops Q (o :: rest) a w := by
  refine wpList_plain hgd fun K hK => ?_
  have hagg : (isAgg e).run P w = .ok false w := by
    unfold isAgg
    rw [Sem.run_bind, run_underlying hue w]
    simp
  have hr : (Instr.index t (.agg cs) (.int kd i)).run P w = .ok v w := by
    cases hq : P.info? e with
    | none => simp [hq] at hs
    | some inf =>
      have hsz : inf.size = 1 := by simpa [hq] using hs
      have hso : (sizeOf e).run P w = .ok 1 w := by simp [sizeOf, typeInfo, hq, hsz]
      simp [Instr.index, Sem.run_bind, run_underlying hu w, asIntOf, h0, h1, hso, part, hagg, hv]
  unfold Oper.wp execOp
  simp only [ho, hx, hix, Sem.run_bind, hr, Result.andThen_ok, Sem.run_pure]
  exact hK _ _ h

/-- An element of an array of arrays by value: a row of cells. -/
theorem wpList_index_part {P : Program} {ops : Array Oper} {rest : List Oper} {o : Oper} {a : Act} {w : World} {Q : Exit → Act → World → Prop} (hgd : o.guard = none) (t : TypeId) (x ix : Operand) (ho : o.op = .index t x ix)
    (len m : Nat) (e e2 : TypeId) (sz : Nat) (cs cs' : Array Value) (kd : IntKind) (i : Int) (hx : a.eval x = .agg cs) (hix : a.eval ix = .int kd i) (h0 : 0 ≤ i) (h1 : i < len)
    (hu : P.underlying t = some (.array len e)) (hue : P.underlying e = some (.array m e2)) (hs : (P.info? e).map (·.size) = some sz) (hv : cs.extract (i.toNat * sz) (i.toNat * sz + sz) = cs')
    (h : wpList P ops Q rest (a.put o.dst (.agg cs')) w) : wpList P ops Q (o :: rest) a w := by
  refine wpList_plain hgd fun K hK => ?_
  have hagg : (isAgg e).run P w = .ok true w := by
    unfold isAgg
    rw [Sem.run_bind, run_underlying hue w]
    simp
  have hr : (Instr.index t (.agg cs) (.int kd i)).run P w = .ok (.agg cs') w := by
    cases hq : P.info? e with
    | none => simp [hq] at hs
    | some inf =>
      have hsz : inf.size = sz := by simpa [hq] using hs
      have hso : (sizeOf e).run P w = .ok sz w := by simp [sizeOf, typeInfo, hq, hsz]
      simp [Instr.index, Sem.run_bind, run_underlying hu w, asIntOf, h0, h1, hso, part, hagg, hv]
  unfold Oper.wp execOp
  simp only [ho, hx, hix, Sem.run_bind, hr, Result.andThen_ok, Sem.run_pure]
  exact hK _ _ h

theorem bgrow {w wr w2 : World} {base : Nat} {v : Value} {e : TypeId} {n : Nat} {xs : List Value} {o : Obj} (hbr : Below w.heap.size w wr) (hown : wr.ownsRow base e 1 v n xs) (hB : w.heap.size ≤ base) (hgrow : (wr.alloc o).grownBy w2 v.ownBlock) : Below w.heap.size w w2 :=
  (hbr.alloc hbr.size o).grown hgrow (by have := hbr.size; simp; omega) (fun k hk => by have := (hown.lt k hk).1; omega)

theorem two_cells (k : IntKind) (x y : Int) : ∀ u ∈ [Value.int k x, Value.int k y], u.oneCell' = true := by intro u hu; simp at hu; rcases hu with rfl | rfl <;> rfl

theorem own_ints {w : World} {base q : Nat} {v : Value} {e : TypeId} {xs : List Int} {k : IntKind} (h : w.ownsRow base e 1 v q (xs.map (Value.int k))) (hq : 0 < q) : ∃ b cap, v = .slice (some ⟨b, 0, none⟩) q cap ∧ base ≤ b ∧ b < w.heap.size ∧ ∀ p, p < q → w.cell? ⟨b, p, none⟩ = some (.int k (xs.getD p 0)) := by
  have hx : xs.length = q := by have := h.1; simpa using this
  obtain ⟨a, cap, hv, hr⟩ := RwF.of_owns h
  rw [hx] at hv hr
  obtain ⟨b, off, rfl, hb, hlt, hc⟩ := hr.resolve_left (by intro h0; rw [h0] at hx; simp at hx; omega)
  obtain ⟨_, h2⟩ := h
  rcases h2 with ⟨h2, _⟩ | ⟨g, cap', cur, h2, _⟩
  · rw [hv] at h2; cases h2
  · rw [hv] at h2
    simp only [Value.slice.injEq, Option.some.injEq, Addr.mk.injEq] at h2
    obtain ⟨⟨rfl, rfl, _⟩, _, rfl⟩ := h2
    refine ⟨b, cap, hv, hb, hlt, fun p hp => ?_⟩
    have := hc p hp
    rw [Nat.zero_add] at this
    exact this

theorem rw_cells {k : IntKind} {w : World} {g n c : Nat} {ys : List Int} (h : Rw k w (.slice (some ⟨g, 0, none⟩) n c) ys) (hn : 0 < n) : g < w.heap.size ∧ ∀ j, j < n → w.cell? ⟨g, j, none⟩ = some (.int k (ys.getD j 0)) := by
  obtain ⟨a, cap, he, hr⟩ := h
  simp only [Value.slice.injEq] at he
  obtain ⟨rfl, rfl, rfl⟩ := he
  obtain ⟨b, off, ha, hlt, hc⟩ := hr.resolve_left (by intro h0; rw [h0] at hn; simp at hn)
  simp only [Option.some.injEq, Addr.mk.injEq] at ha
  obtain ⟨rfl, rfl, _⟩ := ha
  refine ⟨hlt, fun j hj => ?_⟩
  have := hc j hj
  rw [Nat.zero_add] at this
  exact this
/-- Integers that fit. -/
def Fits (y : List Int) : Prop := ∀ j, -9223372036854775808 ≤ y.getD j 0 ∧ y.getD j 0 ≤ 9223372036854775807
theorem fits_of {y : List Int} (h : ∀ x ∈ y, (Lit.int .i64 x).wf = true) : Fits y := fun j => by
  rw [List.getD_eq_getElem?_getD]
  by_cases hj : j < y.length
  · rw [List.getElem?_eq_getElem hj]
    have := h _ (List.getElem_mem hj)
    simp [Lit.wf, IntKind.min, IntKind.max, IntKind.bits, IntKind.signed] at this
    simp only [Option.getD_some]
    omega
  · rw [List.getElem?_eq_none (by omega)]; simp
theorem all_one (k : IntKind) (l : List Int) : ((l.map (Value.int k)).toArray).all (·.oneCell') = true := by
  refine Array.all_eq_true_iff_forall_mem.2 fun v hv => ?_
  simp only [List.mem_toArray, List.mem_map] at hv
  obtain ⟨x, _, rfl⟩ := hv
  rfl
theorem list_ext_getD {l m : List Int} (h : l.length = m.length) (he : ∀ j, j < l.length → l.getD j 0 = m.getD j 0) : l = m := by
  refine List.ext_getElem h fun j h1 h2 => ?_
  have := he j h1
  simpa [List.getD_eq_getElem?_getD, h1, h2] using this
end Go.Proofs.Ytolfnjlkcppplaa
/- Lists by their places, blocks of memory that hold a list and no more, memory that is the same but for a block; small helpers. Nothing of the program is imported. -/
namespace Go.Proofs.Ytolfnjlkcppplaa
open Go.RowKit
set_option linter.unusedVariables false
set_option linter.unusedSimpArgs false

/-- A list by its places. -/
def tab (n : Nat) (f : Nat → Int) : List Int := (List.range n).map f
theorem tab_len (n : Nat) (f : Nat → Int) : (tab n f).length = n := by simp [tab]
theorem tab_at (n : Nat) (f : Nat → Int) (i : Nat) (h : i < n) : (tab n f).getD i 0 = f i := by simp [tab, h]
theorem tab_eq {l : List Int} {n : Nat} {f : Nat → Int} (hl : l.length = n) (h : ∀ i, i < n → l.getD i 0 = f i) : l = tab n f :=
  list_ext_getD (by rw [hl, tab_len]) fun j hj => by rw [tab_at n f j (by omega)]; exact h j (by omega)
theorem tab_congr {n : Nat} {f g : Nat → Int} (h : ∀ i, i < n → f i = g i) : tab n f = tab n g :=
  tab_eq (tab_len n f) fun i hi => by rw [tab_at n f i hi]; exact h i hi
theorem getD_set_at (l : List Int) (i j : Nat) (v : Int) (h : i < l.length) : (l.set i v).getD j 0 = if j = i then v else l.getD j 0 := by
  simp only [List.getD_eq_getElem?_getD, List.getElem?_set]
  by_cases e : i = j
  · subst e; simp [h]
  · rw [if_neg e, if_neg (by omega)]
theorem tab_set (n : Nat) (f : Nat → Int) (j : Nat) (v : Int) (h : j < n) : (tab n f).set j v = tab n fun i => if i = j then v else f i :=
  tab_eq (by simp [tab_len]) fun i hi => by
    rw [getD_set_at _ _ _ _ (by rw [tab_len]; exact h), tab_at n f i hi]
theorem tab_push (n : Nat) (f : Nat → Int) : tab (n + 1) f = tab n f ++ [f n] := by simp [tab, List.range_succ]
theorem tab_zero (n : Nat) : List.replicate n (0 : Int) = tab n fun _ => 0 :=
  tab_eq (by simp) fun i hi => by simp [hi]
theorem getD_app_l (l m : List Int) (j : Nat) (h : j < l.length) : (l ++ m).getD j 0 = l.getD j 0 := by
  simp [List.getD_eq_getElem?_getD, List.getElem?_append_left h]
theorem getD_app_r (l m : List Int) (j : Nat) (h : l.length ≤ j) : (l ++ m).getD j 0 = m.getD (j - l.length) 0 := by
  simp [List.getD_eq_getElem?_getD, List.getElem?_append_right h]
theorem getD_take (l : List Int) (n j : Nat) (h : j < n) : (l.take n).getD j 0 = l.getD j 0 := by
  simp [List.getD_eq_getElem?_getD, List.getElem?_take_of_lt h]
theorem getD_drop (l : List Int) (n j : Nat) : (l.drop n).getD j 0 = l.getD (n + j) 0 := by
  simp [List.getD_eq_getElem?_getD, List.getElem?_drop]
/-- All numbers lie from lo to hi. -/
def Bd (lo hi : Int) (x : List Int) : Prop := ∀ j, j < x.length → lo ≤ x.getD j 0 ∧ x.getD j 0 ≤ hi
theorem Bd.take {lo hi : Int} {x : List Int} (h : Bd lo hi x) (n : Nat) : Bd lo hi (x.take n) := fun j hj => by
  rw [List.length_take] at hj
  rw [getD_take _ _ _ (by omega)]
  exact h j (by omega)
theorem Bd.mono {lo hi lo' hi' : Int} {x : List Int} (h : Bd lo hi x) (h1 : lo' ≤ lo) (h2 : hi ≤ hi') : Bd lo' hi' x := fun j hj => by
  have := h j hj; omega
theorem hid {p : Prop} (h : p) : Hid p := h
theorem info_parts {P : Program} {t : TypeId} {z : Value} {n b : Nat} (h : (P.info? t).map (fun i => (i.zero, i.size, i.bytes)) = some (some z, n, b)) : ∃ i, P.info? t = some i ∧ i.zero = some z ∧ i.size = n ∧ i.bytes = b := by
  cases hq : P.info? t with
  | none => simp [hq] at h
  | some i => simp [hq] at h; exact ⟨i, rfl, h.1, h.2.1, h.2.2⟩
/-- The block g holds the numbers xs, and no more. -/
def Blk (k : IntKind) (t : TypeId) (w : World) (g : Nat) (xs : List Int) : Prop := w.heap[g]? = some (.cells (xs.map (Value.int k)).toArray t (0, 0))
theorem Blk.lt {k : IntKind} {t : TypeId} {w : World} {g : Nat} {xs : List Int} (h : Blk k t w g xs) : g < w.heap.size := block_in h
theorem Blk.cell {k : IntKind} {t : TypeId} {w : World} {g : Nat} {xs : List Int} (h : Blk k t w g xs) (i : Nat) (hi : i < xs.length) : w.cell? ⟨g, i, none⟩ = some (.int k (xs.getD i 0)) := (cell_of_row h i hi).1
theorem Blk.free {k : IntKind} {t : TypeId} {w : World} {g : Nat} {xs : List Int} (h : Blk k t w g xs) (i : Nat) (hi : i < xs.length) : w.frozen? ⟨g, i, none⟩ = false := (cell_of_row h i hi).2
theorem Blk.set {k : IntKind} {t : TypeId} {w : World} {g : Nat} {xs : List Int} (h : Blk k t w g xs) (i : Nat) (y : Int) : Blk k t (w.setCell ⟨g, i, none⟩ (.int k y)) g (xs.set i y) := row_set h i y
theorem Blk.below {k : IntKind} {t : TypeId} {w w' : World} {g : Nat} {xs : List Int} (h : Blk k t w g xs) (hb : Below w.heap.size w w') : Blk k t w' g xs := (hb.block _ h.lt).trans h
theorem Blk.other {k : IntKind} {t : TypeId} {w : World} {g : Nat} {xs : List Int} (h : Blk k t w g xs) (c o : Nat) (y : Value) (hne : g ≠ c) : Blk k t (w.setCell ⟨c, o, none⟩ y) g xs := (heap_setCell_other _ _ _ _ hne).trans h
theorem Blk.rw {k : IntKind} {t : TypeId} {w : World} {g n c : Nat} {xs : List Int} (h : Blk k t w g xs) (hn : xs.length = n) : Rw k w (.slice (some ⟨g, 0, none⟩) n c) xs := Rw.of_row h hn
theorem Blk.made {k : IntKind} {t : TypeId} {w : World} {g n base : Nat} (h : w.ownsRow base t 1 (.slice (some ⟨g, 0, none⟩) n n) n (madeCells #[.int k 0] n).toList) : Blk k t w g (tab n fun _ => 0) := by
  have := (owns_full h).1
  rw [made_one] at this
  unfold Blk
  rw [← tab_zero, List.map_replicate]
  exact this
theorem Blk.kept {k : IntKind} {t : TypeId} {w w' : World} {g c : Nat} {xs : List Int} (h : Blk k t w g xs) (hg : w.grownBy w' (some c)) (hne : g ≠ c) : Blk k t w' g xs := (hg.block g h.lt (by simpa using hne)).trans h
theorem Blk.drew {k : IntKind} {t : TypeId} {w : World} {g : Nat} {xs : List Int} (h : Blk k t w g xs) : Blk k t w.drew g xs := h
theorem grown_trans {a b c : World} {g : Nat} (h : a.grownBy b (some g)) (k : b.grownBy c (some g)) : a.grownBy c (some g) :=
  ⟨k.os.trans h.os, k.tape.trans h.tape, k.output.trans h.output, Nat.le_trans h.size k.size, fun i hi hne => (k.block i (Nat.lt_of_lt_of_le hi h.size) hne).trans (h.block i hi hne)⟩
theorem grown_below {a b : World} (h : Below a.heap.size a b) (g : Nat) : a.grownBy b (some g) :=
  ⟨h.os, h.tape, h.output, h.size, fun i hi _ => h.block i hi⟩
theorem grown_set {a b : World} {g : Nat} (h : a.grownBy b (some g)) (p o : Nat) (hp : a.heap.size ≤ p ∨ p = g) (v : Value) : a.grownBy (b.setCell ⟨p, o, none⟩ v) (some g) :=
  ⟨h.os, h.tape, h.output, by simpa [World.setCell] using h.size, fun i hi hne => by
    rw [Below.heap_setCell _ _ _ _ (by show i ≠ p; rcases hp with hp | hp; omega; intro e; exact hne (by rw [e, hp]))]
    exact h.block i hi hne⟩
theorem grown_drew {a b : World} {g : Nat} (h : a.grownBy b (some g)) : a.grownBy b.drew (some g) := ⟨h.os, h.tape, h.output, h.size, h.block⟩
/-- Two blocks set aside, memory is the same. -/
def Off (g c : Nat) (w w' : World) : Prop := ∀ i, i ≠ g → i ≠ c → w'.heap[i]? = w.heap[i]?
theorem Off.refl (g c : Nat) (w : World) : Off g c w w := fun _ _ _ => rfl
theorem Off.drew {g c : Nat} {w w' : World} (h : Off g c w w') : Off g c w w'.drew := h
theorem Off.set1 {g c : Nat} {w w' : World} (h : Off g c w w') (o : Nat) (v : Value) : Off g c w (w'.setCell ⟨g, o, none⟩ v) := fun i h1 h2 => by
  rw [Below.heap_setCell _ _ _ _ (by exact h1)]; exact h i h1 h2
theorem Off.set2 {g c : Nat} {w w' : World} (h : Off g c w w') (o : Nat) (v : Value) : Off g c w (w'.setCell ⟨c, o, none⟩ v) := fun i h1 h2 => by
  rw [Below.heap_setCell _ _ _ _ (by exact h2)]; exact h i h1 h2
theorem Off.cell {g c : Nat} {w w' : World} (h : Off g c w w') (b o : Nat) (h1 : b ≠ g) (h2 : b ≠ c) : w'.cell? ⟨b, o, none⟩ = w.cell? ⟨b, o, none⟩ := World.cell?_of_block (w := w) (h b h1 h2)
theorem block_of_cell {w : World} {b o : Nat} {v : Value} (h : w.cell? ⟨b, o, none⟩ = some v) : b < w.heap.size := World.block_lt_of_cell? w _ h
theorem fits_bd {lo hi : Int} {x : List Int} (h : Bd lo hi x) (h1 : -9223372036854775808 ≤ lo) (h2 : hi ≤ 9223372036854775807) : Fits x := fun j => by
  by_cases hj : j < x.length
  · have := h j hj; omega
  · rw [List.getD_eq_getElem?_getD, List.getElem?_eq_none (by omega)]; simp
theorem lit2 (w : World) (x y : Int) (t : TypeId) : Rw .i64 (w.alloc (.cells #[.int .i64 x, .int .i64 y] t)) (.slice (some ⟨w.heap.size, 0, none⟩) 2 2) [x, y] :=
  Rw.of_row (e := t) (cur := [x, y]) (heap_alloc_last w _) rfl
theorem lit4 (w : World) (x y z u : Int) (t : TypeId) : Rw .i64 (w.alloc (.cells #[.int .i64 x, .int .i64 y, .int .i64 z, .int .i64 u] t)) (.slice (some ⟨w.heap.size, 0, none⟩) 4 4) [x, y, z, u] :=
  Rw.of_row (e := t) (cur := [x, y, z, u]) (heap_alloc_last w _) rfl
theorem row_le {k : IntKind} {w : World} {a : Option Addr} {len cap : Nat} {zs : List Int} (h : IsRow k w a len cap zs) : len ≤ cap := by
  rcases h with ⟨_, rfl, rfl, _⟩ | ⟨x, _, hl, _⟩
  · exact Nat.le_refl _
  · exact hl
end Go.Proofs.Ytolfnjlkcppplaa
/- Blocks that begin with a list; slices of slices in memory (that came in, put one behind the other, laid into a block). Nothing of the program is imported. -/
namespace Go.Proofs.Ytolfnjlkcppplaa
open Go.RowKit
set_option linter.unusedVariables false
set_option linter.unusedSimpArgs false

/-- The block g begins with the numbers xs. -/
def Hl (k : IntKind) (t : TypeId) (w : World) (g : Nat) (xs : List Int) : Prop := ∃ cur : Array Value, w.heap[g]? = some (.cells cur t (0, 0)) ∧ cur.toList.take xs.length = xs.map (Value.int k)
theorem Hl.lt {k : IntKind} {t : TypeId} {w : World} {g : Nat} {xs : List Int} (h : Hl k t w g xs) : g < w.heap.size := by
  obtain ⟨cur, h, _⟩ := h
  exact block_in h
theorem Hl.cell {k : IntKind} {t : TypeId} {w : World} {g : Nat} {xs : List Int} (h : Hl k t w g xs) (i : Nat) (hi : i < xs.length) : w.cell? ⟨g, i, none⟩ = some (.int k (xs.getD i 0)) := by
  obtain ⟨cur, h, ht⟩ := h
  have e1 : (cur.toList.take xs.length)[i]? = some (.int k (xs.getD i 0)) := by
    rw [ht]; simp [hi]
  rw [List.getElem?_take_of_lt (by omega)] at e1
  simp [World.cell?, h] at e1 ⊢
  exact e1
theorem Hl.free {k : IntKind} {t : TypeId} {w : World} {g : Nat} {xs : List Int} (h : Hl k t w g xs) (i : Nat) : w.frozen? ⟨g, i, none⟩ = false := by
  obtain ⟨cur, h, _⟩ := h
  simp [World.frozen?, h]
theorem Hl.set {k : IntKind} {t : TypeId} {w : World} {g : Nat} {xs : List Int} (h : Hl k t w g xs) (i : Nat) (y : Int) : Hl k t (w.setCell ⟨g, i, none⟩ (.int k y)) g (xs.set i y) := by
  obtain ⟨cur, h, ht⟩ := h
  refine ⟨cur.setIfInBounds i (.int k y), ?_, ?_⟩
  · simp [World.setCell, Array.getElem?_modify, h]
  · rw [List.length_set, Array.toList_setIfInBounds, List.take_set, ht, List.map_set]
theorem Hl.below {k : IntKind} {t : TypeId} {w w' : World} {g : Nat} {xs : List Int} (h : Hl k t w g xs) (hb : Below w.heap.size w w') : Hl k t w' g xs := by
  have hlt := h.lt
  obtain ⟨cur, h, ht⟩ := h
  exact ⟨cur, (hb.block _ hlt).trans h, ht⟩
theorem Hl.drew {k : IntKind} {t : TypeId} {w : World} {g : Nat} {xs : List Int} (h : Hl k t w g xs) : Hl k t w.drew g xs := h
theorem Hl.of_blk {k : IntKind} {t : TypeId} {w : World} {g : Nat} {xs : List Int} (h : Blk k t w g xs) : Hl k t w g xs := ⟨_, h, by simp only [List.length_map]; rw [List.take_of_length_le (by simp)]⟩
theorem Hl.rw {k : IntKind} {t : TypeId} {w : World} {g n c : Nat} {xs : List Int} (h : Hl k t w g xs) (hn : xs.length = n) : Rw k w (.slice (some ⟨g, 0, none⟩) n c) xs := by
  subst hn
  exact ⟨_, c, rfl, .inr ⟨g, 0, rfl, h.lt, fun i hi => by rw [Nat.zero_add]; exact h.cell i hi⟩⟩
theorem Hl.of_owns {k : IntKind} {t : TypeId} {w : World} {base n : Nat} {v : Value} {xs : List Int} (h : w.ownsRow base t 1 v n (xs.map (Value.int k))) (hn : 0 < n) : ∃ g c, v = .slice (some ⟨g, 0, none⟩) n c ∧ base ≤ g ∧ n ≤ c ∧ Hl k t w g xs := by
  obtain ⟨h1, h2⟩ := h
  rcases h2 with ⟨rfl, h0⟩ | ⟨g, cap, cur, rfl, hg, hh, hcap, hm, hs, ht⟩
  · omega
  · have hl : xs.length = n := by simpa using h1
    exact ⟨g, cap, rfl, hg, hcap, cur, hh, by rw [hl]; simpa using ht⟩
theorem below_grown {a b c : World} {g : Nat} (h : Below a.heap.size a b) (k : b.grownBy c (some g)) (hg : a.heap.size ≤ g) : Below a.heap.size a c :=
  h.grown k h.size (fun i hi => by simp at hi; omega)
/-- The slice v holds the numbers xs (with room for them, if 'ok'), in no block G. -/
def Rx (ok : Bool) (G : Option Nat) (w : World) (v : Value) (xs : List Int) : Prop :=
  ∃ a c, v = .slice a xs.length c ∧ (ok = true → xs.length ≤ c) ∧ (xs = [] ∨ ∃ b off, a = some ⟨b, off, none⟩ ∧ some b ≠ G ∧ b < w.heap.size ∧ ∀ i, i < xs.length → w.cell? ⟨b, off + i, none⟩ = some (.int .i64 (xs.getD i 0)))
theorem Rx.rw {ok : Bool} {G : Option Nat} {w : World} {v : Value} {xs : List Int} (h : Rx ok G w v xs) : Rw .i64 w v xs := by
  obtain ⟨a, c, hv, _, h⟩ := h
  refine ⟨a, c, hv, ?_⟩
  rcases h with h | ⟨b, off, ha, _, hlt, hc⟩
  · exact .inl h
  · exact .inr ⟨b, off, ha, hlt, hc⟩
theorem Rx.of {w : World} {a : Option Addr} {c : Nat} {xs : List Int} (h : Rw .i64 w (.slice a xs.length c) xs) (hc : xs.length ≤ c) : Rx true none w (.slice a xs.length c) xs := by
  obtain ⟨a', c', he, h⟩ := h
  simp only [Value.slice.injEq, true_and] at he
  obtain ⟨rfl, rfl⟩ := he
  refine ⟨a, c, rfl, fun _ => hc, ?_⟩
  rcases h with h | ⟨b, off, ha, hlt, hc⟩
  · exact .inl h
  · exact .inr ⟨b, off, ha, by simp, hlt, hc⟩
theorem Rx.ofF {B : Nat} {G : Option Nat} {w : World} {v : Value} {xs : List Int} (h : RwF B .i64 w v xs) (hG : ∀ b, G = some b → b < B) : Rx false G w v xs := by
  obtain ⟨a, c, hv, h⟩ := h
  refine ⟨a, c, hv, (fun h => by cases h), ?_⟩
  rcases h with h | ⟨b, off, ha, hlo, hlt, hc⟩
  · exact .inl h
  · exact .inr ⟨b, off, ha, fun e => by have := hG b e.symm; omega, hlt, hc⟩
theorem Rx.of_blk {t : TypeId} {G : Option Nat} {w : World} {g n c : Nat} {xs : List Int} (h : Blk .i64 t w g xs) (hn : xs.length = n) (hc : n ≤ c) (hG : some g ≠ G) : Rx true G w (.slice (some ⟨g, 0, none⟩) n c) xs := by
  subst hn
  exact ⟨_, c, rfl, fun _ => hc, .inr ⟨g, 0, rfl, hG, h.lt, fun i hi => by rw [Nat.zero_add]; exact h.cell i hi⟩⟩
theorem Rx.below {ok : Bool} {G : Option Nat} {w w' : World} {v : Value} {xs : List Int} (h : Rx ok G w v xs) (hb : Below w.heap.size w w') : Rx ok G w' v xs := by
  obtain ⟨a, c, hv, hr, h⟩ := h
  refine ⟨a, c, hv, hr, ?_⟩
  rcases h with h | ⟨b, off, ha, hG, hlt, hc⟩
  · exact .inl h
  · exact .inr ⟨b, off, ha, hG, Nat.lt_of_lt_of_le hlt hb.size, fun i hi => ((bcell hb).1 _ _ hlt).trans (hc i hi)⟩
theorem Rx.grown {ok : Bool} {G : Option Nat} {w w' : World} {v : Value} {xs : List Int} (h : Rx ok G w v xs) (hg : w.grownBy w' G) : Rx ok G w' v xs := by
  obtain ⟨a, c, hv, hr, h⟩ := h
  refine ⟨a, c, hv, hr, ?_⟩
  rcases h with h | ⟨b, off, ha, hG, hlt, hc⟩
  · exact .inl h
  · exact .inr ⟨b, off, ha, hG, Nat.lt_of_lt_of_le hlt hg.size, fun i hi => (World.cell?_of_block (w := w) (hg.block b hlt hG)).trans (hc i hi)⟩
theorem Rx.set {ok : Bool} {g : Nat} {w : World} {v : Value} {xs : List Int} (h : Rx ok (some g) w v xs) (o : Nat) (y : Value) : Rx ok (some g) (w.setCell ⟨g, o, none⟩ y) v xs := by
  obtain ⟨a, c, hv, hr, h⟩ := h
  refine ⟨a, c, hv, hr, ?_⟩
  rcases h with h | ⟨b, off, ha, hG, hlt, hc⟩
  · exact .inl h
  · exact .inr ⟨b, off, ha, hG, by simpa [World.setCell] using hlt, fun i hi => (World.cell?_of_block (w := w) (Below.heap_setCell w ⟨g, o, none⟩ y b (by intro e; exact hG (by rw [e])))).trans (hc i hi)⟩
theorem Rx.swap {ok : Bool} {G G' : Option Nat} {w : World} {v : Value} {xs : List Int} (h : Rx ok G w v xs) (hG' : ∀ b, G' = some b → G = some b ∨ w.heap.size ≤ b) : Rx ok G' w v xs := by
  obtain ⟨a, c, hv, hr, h⟩ := h
  refine ⟨a, c, hv, hr, ?_⟩
  rcases h with h | ⟨b, off, ha, hG, hlt, hc⟩
  · exact .inl h
  · refine .inr ⟨b, off, ha, fun e => ?_, hlt, hc⟩
    rcases hG' b e.symm with e2 | e2
    · exact hG e2.symm
    · omega
theorem Rx.any {ok : Bool} {G : Option Nat} {w : World} {v : Value} {xs : List Int} (h : Rx ok G w v xs) : Rx ok none w v xs := h.swap fun b e => by cases e
/-- The slice v of slices holds the rows L. -/
def Fr (ok : Bool) (w : World) (v : Value) (L : List (List Int)) : Prop :=
  ∃ a c, v = .slice a L.length c ∧ (L = [] ∨ ∃ b off, a = some ⟨b, off, none⟩ ∧ b < w.heap.size ∧ ∀ i, i < L.length → ∃ r, w.cell? ⟨b, off + i, none⟩ = some r ∧ Rx ok none w r (L.getD i []))
theorem Fr.below {ok : Bool} {w w' : World} {v : Value} {L : List (List Int)} (h : Fr ok w v L) (hb : Below w.heap.size w w') : Fr ok w' v L := by
  obtain ⟨a, c, hv, h⟩ := h
  refine ⟨a, c, hv, ?_⟩
  rcases h with h | ⟨b, off, ha, hlt, hc⟩
  · exact .inl h
  · refine .inr ⟨b, off, ha, Nat.lt_of_lt_of_le hlt hb.size, fun i hi => ?_⟩
    obtain ⟨r, h1, h2⟩ := hc i hi
    exact ⟨r, ((bcell hb).1 _ _ hlt).trans h1, h2.below hb⟩
/-- A row of it, in memory. -/
theorem Fr.at {ok : Bool} {w : World} {a : Option Addr} {n c : Nat} {L : List (List Int)} (h : Fr ok w (.slice a n c) L) (i : Nat) (hi : i < n) :
    ∃ b off, a = some ⟨b, off, none⟩ ∧ b < w.heap.size ∧ ∃ ra rc, w.cell? ⟨b, off + i, none⟩ = some (.slice ra (L.getD i []).length rc) ∧ (ok = true → (L.getD i []).length ≤ rc) ∧ Rw .i64 w (.slice ra (L.getD i []).length rc) (L.getD i []) := by
  obtain ⟨a', c', he, h⟩ := h
  simp only [Value.slice.injEq] at he
  obtain ⟨rfl, rfl, rfl⟩ := he
  obtain ⟨b, off, rfl, hlt, hc⟩ := h.resolve_left (by intro h; subst h; simp at hi)
  obtain ⟨r, h1, h2⟩ := hc i hi
  have h3 := h2.rw
  obtain ⟨ra, rc, rfl, hr, _⟩ := h2
  exact ⟨b, off, rfl, hlt, ra, rc, h1, hr, h3⟩
/-- Rows that the call puts one behind the other, by append. -/
def Fo (ts : TypeId) (base : Nat) (w : World) (v : Value) (n : Nat) (vs : List Value) (L : Nat → List Int) : Prop := w.ownsRow base ts 1 v n vs ∧ ∀ j, j < n → Rx false v.ownBlock w (vs.getD j undef) (L j)
theorem Fo.nil {ts : TypeId} (base : Nat) (w : World) (L : Nat → List Int) : Fo ts base w (.slice none 0 0) 0 [] L := ⟨World.ownsRow_nil _ _ _ _, fun j hj => by omega⟩
theorem Fo.below {ts : TypeId} {base : Nat} {w w' : World} {v : Value} {n : Nat} {vs : List Value} {L : Nat → List Int} (h : Fo ts base w v n vs L) (hb : Below w.heap.size w w') : Fo ts base w' v n vs L := ⟨owns_below h.1 hb, fun j hj => (h.2 j hj).below hb⟩
theorem Fo.push {ts : TypeId} {base : Nat} {w w1 w2 : World} {v v1 : Value} {n g c : Nat} {vs : List Value} {L : Nat → List Int} {o : Obj} (h : Fo ts base w v n vs L) (hb : Below w.heap.size w w1) (hr : RwF w.heap.size .i64 w1 v1 (L n))
    (hown : w2.ownsRow base ts 1 (.slice (some ⟨g, 0, none⟩) (n + 1) c) (n + 1) (vs ++ [v1])) (hgrow : (w1.alloc o).grownBy w2 v.ownBlock) (hat : v.ownBlock = some g ∨ g = w1.heap.size + 1) :
    Fo ts base w2 (.slice (some ⟨g, 0, none⟩) (n + 1) c) (n + 1) (vs ++ [v1]) L := by
  refine ⟨hown, fun j hj => ?_⟩
  have hl : vs.length = n := by have := h.1.1; simpa using this
  have hsw : ∀ {ok : Bool} {v' : Value} {xs : List Int}, Rx ok v.ownBlock w1 v' xs → Rx ok (Value.ownBlock (.slice (some ⟨g, 0, none⟩) (n + 1) c)) w2 v' xs := fun {ok v' xs} hx => by
    have h1 := (hx.below (below1 w1 o)).grown hgrow
    have h2 := hx.below (below1 w1 o)
    obtain ⟨a, cc, hv, hroom, h3⟩ := h1
    obtain ⟨a', cc', hv', _, h4⟩ := hx
    rw [hv] at hv'
    simp only [Value.slice.injEq, true_and] at hv'
    obtain ⟨rfl, rfl⟩ := hv'
    refine ⟨a, cc, hv, hroom, ?_⟩
    rcases h3 with h3 | ⟨b, off, ha, hG, hlt, hc⟩
    · exact .inl h3
    · rcases h4 with h4 | ⟨b', off', ha', _, hlt', _⟩
      · exact .inl h4
      · rw [ha] at ha'
        simp only [Option.some.injEq, Addr.mk.injEq] at ha'
        obtain ⟨rfl, rfl, _⟩ := ha'
        refine .inr ⟨b, off, ha, fun e => ?_, hlt, hc⟩
        have e2 : b = g := by simpa [Value.ownBlock] using e
        subst e2
        rcases hat with e3 | e3
        · exact hG e3.symm
        · omega
  by_cases e : j < n
  · rw [show (vs ++ [v1]).getD j undef = vs.getD j undef by simp [List.getD_eq_getElem?_getD, List.getElem?_append_left (show j < vs.length by omega)]]
    exact hsw ((h.2 j e).below hb)
  · have e2 : j = n := by omega
    subst e2
    rw [show (vs ++ [v1]).getD j undef = v1 by simp [List.getD_eq_getElem?_getD, hl]]
    exact hsw (Rx.ofF hr fun b hb => (h.1.lt b hb).2)
theorem Fo.fr {ts : TypeId} {base : Nat} {w : World} {v : Value} {n : Nat} {vs : List Value} {L : Nat → List Int} (h : Fo ts base w v n vs L) : Fr false w v ((List.range n).map L) := by
  obtain ⟨⟨hl, h2⟩, h3⟩ := h
  have hl : vs.length = n := by simpa using hl
  rcases h2 with ⟨rfl, rfl⟩ | ⟨g, cap, cur, rfl, hg, hh, hcap, hm, hs, ht⟩
  · exact ⟨none, 0, rfl, .inl rfl⟩
  · refine ⟨some ⟨g, 0, none⟩, cap, by simp, .inr ⟨g, 0, rfl, block_in hh, fun i hi => ?_⟩⟩
    have hi : i < n := by simpa using hi
    have e1 : (cur.toList.take (n * 1))[i]? = some (vs.getD i undef) := by
      rw [ht, List.getD_eq_getElem?_getD, List.getElem?_eq_getElem (by omega)]; simp
    rw [List.getElem?_take_of_lt (by omega)] at e1
    refine ⟨vs.getD i undef, ?_, ?_⟩
    · simp [World.cell?, hh] at e1 ⊢
      exact e1
    · have := (h3 i hi).any
      simpa [List.getD_eq_getElem?_getD, hi] using this
theorem one_slice (a : Option Addr) (n c : Nat) : ∀ u ∈ [Value.slice a n c], u.oneCell' = true := by intro u hu; simp at hu; subst hu; rfl
/-- Rows that the call lays into a block that it made, one behind the other. -/
structure Fg (ts : TypeId) (w : World) (G c : Nat) (L : Nat → List Int) (i : Nat) : Prop where
  cells : ∃ cur : Array Value, w.heap[G]? = some (.cells cur ts (0, 0)) ∧ cur.size = c
  rows : ∀ j, j < i → ∃ r, w.cell? ⟨G, j, none⟩ = some r ∧ Rx true (some G) w r (L j)
theorem Fg.lt {ts : TypeId} {w : World} {G c i : Nat} {L : Nat → List Int} (h : Fg ts w G c L i) : G < w.heap.size := by
  obtain ⟨cur, h, _⟩ := h.cells
  exact block_in h
theorem Fg.cell {ts : TypeId} {w : World} {G c i : Nat} {L : Nat → List Int} (h : Fg ts w G c L i) (j : Nat) (hj : j < c) : ∃ r, w.cell? ⟨G, j, none⟩ = some r ∧ w.frozen? ⟨G, j, none⟩ = false := by
  obtain ⟨cur, h, hc⟩ := h.cells
  refine ⟨cur[j]'(by omega), ?_, ?_⟩
  · simp [World.cell?, h, hc, hj]
  · simp [World.frozen?, h]
theorem Fg.below {ts : TypeId} {w w' : World} {G c i : Nat} {L : Nat → List Int} (h : Fg ts w G c L i) (hb : Below w.heap.size w w') : Fg ts w' G c L i := by
  have hlt := h.lt
  obtain ⟨⟨cur, h1, h2⟩, h3⟩ := h
  refine ⟨⟨cur, (hb.block _ hlt).trans h1, h2⟩, fun j hj => ?_⟩
  obtain ⟨r, e1, e2⟩ := h3 j hj
  exact ⟨r, ((bcell hb).1 _ _ hlt).trans e1, e2.below hb⟩
theorem Fg.put {ts : TypeId} {w : World} {G c i : Nat} {L : Nat → List Int} {r : Value} (h : Fg ts w G c L i) (hi : i < c) (hr : Rx true (some G) w r (L i)) : Fg ts (w.setCell ⟨G, i, none⟩ r) G c L (i + 1) := by
  obtain ⟨⟨cur, h1, h2⟩, h3⟩ := h
  refine ⟨⟨cur.setIfInBounds i r, ?_, by simp [h2]⟩, fun j hj => ?_⟩
  · simp [World.setCell, Array.getElem?_modify, h1]
  · by_cases e : j = i
    · subst e
      refine ⟨r, ?_, hr.set _ _⟩
      simp [World.cell?, World.setCell, Array.getElem?_modify, h1, h2, hi]
    · obtain ⟨r2, e1, e2⟩ := h3 j (by omega)
      refine ⟨r2, ?_, e2.set _ _⟩
      simp [World.cell?, h1] at e1
      simp [World.cell?, World.setCell, Array.getElem?_modify, h1, Array.getElem?_setIfInBounds, Ne.symm e]
      exact e1
theorem Fg.fr {ts : TypeId} {w : World} {G c cc : Nat} {L : Nat → List Int} (h : Fg ts w G c L c) : Fr true w (.slice (some ⟨G, 0, none⟩) c cc) ((List.range c).map L) := by
  refine ⟨_, cc, by simp, .inr ⟨G, 0, rfl, h.lt, fun j hj => ?_⟩⟩
  have hj : j < c := by simpa using hj
  obtain ⟨r, e1, e2⟩ := h.rows j hj
  refine ⟨r, by rw [Nat.zero_add]; exact e1, ?_⟩
  have := e2.any
  simpa [List.getD_eq_getElem?_getD, hj] using this
theorem Fg.made {ts : TypeId} {w : World} {G c base : Nat} {L : Nat → List Int} (h : w.ownsRow base ts 1 (.slice (some ⟨G, 0, none⟩) c c) c (madeCells #[.slice none 0 0] c).toList) : Fg ts w G c L 0 := by
  obtain ⟨h1, _, _⟩ := owns_full h
  refine ⟨⟨_, h1, ?_⟩, fun j hj => by omega⟩
  rw [made_one]
  simp
/-- A slice of slices of integers, as a reading met it. -/
def IsGrid (w : World) (a : Option Addr) (len cap : Nat) (L : List (List Int)) : Prop := Fr true w (.slice a len cap) L ∧ (∀ i, Fits (L.getD i [])) ∧ len ≤ 9223372036854775807
theorem IsGrid.len {w : World} {a : Option Addr} {len cap : Nat} {L : List (List Int)} (h : IsGrid w a len cap L) : L.length = len := by
  obtain ⟨⟨_, _, he, _⟩, _⟩ := h
  simp only [Value.slice.injEq] at he
  exact he.2.1.symm
theorem fits_nil : Fits [] := fun j => by simp
theorem grid_of_trod {H : Type} {enc : TypeId × Value → H} {P : Program} {w : World} {t e q : TypeId} {fuel : Nat} {a : Option Addr} {len cap : Nat} {x : DataW H × List MemPlace} (ht : P.underlying t = some (.slice e)) (he : P.underlying e = some (.slice q)) (hq : P.underlying q = some (.int .i64))
    (ce : P.cellsOf e = 1) (cq : P.cellsOf q = 1) (h : DataW.trod enc P w 0 (fun _ => true) true fuel t [.slice a len cap] = some x) : ∃ L, IsGrid w a len cap L := by
  rcases Deep.open_int_rows ht he hq ce cq h with ⟨hcs, _⟩ | ⟨ad, l, c, A, LL, C, Z, hcs, _, hl, hm, _, hall⟩
  · simp only [List.cons.injEq, and_true, Value.slice.injEq] at hcs
    obtain ⟨rfl, rfl, rfl⟩ := hcs
    exact ⟨[], ⟨none, 0, rfl, .inl rfl⟩, fun i => by simpa using fits_nil, by omega⟩
  · simp only [List.cons.injEq, and_true, Value.slice.injEq] at hcs
    obtain ⟨rfl, rfl, rfl⟩ := hcs
    have hgd : ∀ i, i < len → ((List.range len).map fun r => (Z r).take (LL r)).getD i [] = (Z i).take (LL i) := fun i hi => by simp [List.getD_eq_getElem?_getD, hi]
    refine ⟨(List.range len).map fun r => (Z r).take (LL r), ⟨some ad, cap, by simp, ?_⟩, fun i => ?_, by unfold maxLen at hm; omega⟩
    · by_cases h0 : len = 0
      · left; subst h0; rfl
      · right
        obtain ⟨b, off, spot⟩ := ad
        have hc := (hall 0 (by omega)).1
        have hspot : spot = none := by simpa [Addr.add] using World.cell?_spot hc
        subst hspot
        refine ⟨b, off, rfl, World.block_lt_of_cell? w _ hc, fun i hi => ?_⟩
        have hi : i < len := by simpa using hi
        obtain ⟨h1, h2, h3, h4, h5, h6, h7⟩ := hall i (by omega)
        rw [Addr.add_lit] at h1
        rw [hgd i hi]
        have hzl : ((Z i).take (LL i)).length = LL i := by rw [List.length_take]; omega
        refine ⟨_, h1, A i, C i, by rw [hzl], fun _ => by rw [hzl]; exact h2, ?_⟩
        by_cases h00 : LL i = 0
        · left; rw [h00]; simp
        · right
          cases hA : A i with
          | none => have := h6 hA; omega
          | some a' =>
            obtain ⟨_, h8⟩ := h7 a' hA
            obtain ⟨b', off', spot'⟩ := a'
            have hc' := h8 0 (by omega)
            have hspot' : spot' = none := by simpa [Addr.add] using World.cell?_spot hc'
            subst hspot'
            refine ⟨b', off', rfl, by simp, World.block_lt_of_cell? w _ hc', fun j hj => ?_⟩
            rw [hzl] at hj
            have := h8 j (by omega)
            rw [Addr.add_lit] at this
            rw [getD_take _ _ _ hj]
            exact this
    · by_cases hi : i < len
      · rw [hgd i hi]
        obtain ⟨_, _, _, _, h5, _⟩ := hall i (by omega)
        exact fits_of fun y hy => h5 y (List.mem_of_mem_take hy)
      · rw [List.getD_eq_getElem?_getD, List.getElem?_eq_none (by simp; omega)]
        exact fits_nil
end Go.Proofs.Ytolfnjlkcppplaa
/- Slices of slices of slices of integers: that came in; slices of what lies in memory, in general: read, put one behind another by append, laid into a block that was made. Nothing of the program is imported. -/
namespace Go.Proofs.Ytolfnjlkcppplaa
open Go.RowKit
set_option linter.unusedVariables false
set_option linter.unusedSimpArgs false

/-! ### Slices of slices of slices, read -/
/-- The slice v of slices of slices holds L. -/
def Fc (ok : Bool) (w : World) (v : Value) (L : List (List (List Int))) : Prop :=
  ∃ a c, v = .slice a L.length c ∧ (L = [] ∨ ∃ b off, a = some ⟨b, off, none⟩ ∧ b < w.heap.size ∧ ∀ i, i < L.length → ∃ r, w.cell? ⟨b, off + i, none⟩ = some r ∧ Fr ok w r (L.getD i []))
theorem Fc.below {ok : Bool} {w w' : World} {v : Value} {L : List (List (List Int))} (h : Fc ok w v L) (hb : Below w.heap.size w w') : Fc ok w' v L := by
  obtain ⟨a, c, hv, h⟩ := h
  refine ⟨a, c, hv, ?_⟩
  rcases h with h | ⟨b, off, ha, hlt, hc⟩
  · exact .inl h
  · refine .inr ⟨b, off, ha, Nat.lt_of_lt_of_le hlt hb.size, fun i hi => ?_⟩
    obtain ⟨r, h1, h2⟩ := hc i hi
    exact ⟨r, ((bcell hb).1 _ _ hlt).trans h1, h2.below hb⟩
theorem Fc.at {ok : Bool} {w : World} {a : Option Addr} {n c : Nat} {L : List (List (List Int))} (h : Fc ok w (.slice a n c) L) (i : Nat) (hi : i < n) :
    ∃ b off, a = some ⟨b, off, none⟩ ∧ b < w.heap.size ∧ ∃ ra rc, w.cell? ⟨b, off + i, none⟩ = some (.slice ra (L.getD i []).length rc) ∧ Fr ok w (.slice ra (L.getD i []).length rc) (L.getD i []) := by
  obtain ⟨a', c', he, h⟩ := h
  simp only [Value.slice.injEq] at he
  obtain ⟨rfl, rfl, rfl⟩ := he
  obtain ⟨b, off, rfl, hlt, hc⟩ := h.resolve_left (by intro h; subst h; simp at hi)
  obtain ⟨r, h1, h2⟩ := hc i hi
  have h3 := h2
  obtain ⟨ra, rc, rfl, _⟩ := h2
  exact ⟨b, off, rfl, hlt, ra, rc, h1, h3⟩
/-- A slice of slices of slices of integers, as a reading met it. -/
def IsCube (w : World) (a : Option Addr) (len cap : Nat) (L : List (List (List Int))) : Prop := Fc true w (.slice a len cap) L ∧ len ≤ 9223372036854775807 ∧ (∀ i, (L.getD i []).length ≤ 9223372036854775807) ∧ (∀ i j, Fits ((L.getD i []).getD j []))
theorem IsCube.len {w : World} {a : Option Addr} {len cap : Nat} {L : List (List (List Int))} (h : IsCube w a len cap L) : L.length = len := by
  obtain ⟨⟨_, _, he, _⟩, _⟩ := h
  simp only [Value.slice.injEq] at he
  exact he.2.1.symm
/-- A cell that holds a slice of slices of integers. -/
theorem grid_cell_of_trod {H : Type} {enc : TypeId × Value → H} {P : Program} {w : World} {t e q : TypeId} {fuel : Nat} {v : Value} {x : DataW H × List MemPlace} (ht : P.underlying t = some (.slice e)) (he : P.underlying e = some (.slice q)) (hq : P.underlying q = some (.int .i64))
    (ce : P.cellsOf e = 1) (cq : P.cellsOf q = 1) (h : DataW.trod enc P w 0 (fun _ => true) true fuel t [v] = some x) : ∃ a len cap L, v = .slice a len cap ∧ IsGrid w a len cap L := by
  have hs : ∃ a len cap, v = .slice a len cap := by
    rcases Deep.open_int_rows ht he hq ce cq h with ⟨hcs, _⟩ | ⟨ad, l, c, A, LL, C, Z, hcs, _⟩
    · simp only [List.cons.injEq, and_true] at hcs
      exact ⟨_, _, _, hcs⟩
    · simp only [List.cons.injEq, and_true] at hcs
      exact ⟨_, _, _, hcs⟩
  obtain ⟨a, len, cap, rfl⟩ := hs
  obtain ⟨L, hL⟩ := grid_of_trod ht he hq ce cq h
  exact ⟨a, len, cap, L, rfl, hL⟩
theorem cube_of_trod {H : Type} {enc : TypeId × Value → H} {P : Program} {w : World} {s t e q : TypeId} {fuel : Nat} {a : Option Addr} {len cap : Nat} {x : DataW H × List MemPlace} (hs : P.underlying s = some (.slice t)) (ht : P.underlying t = some (.slice e)) (he : P.underlying e = some (.slice q)) (hq : P.underlying q = some (.int .i64))
    (ct : P.cellsOf t = 1) (ce : P.cellsOf e = 1) (cq : P.cellsOf q = 1) (h : DataW.trod enc P w 0 (fun _ => true) true fuel s [.slice a len cap] = some x) : ∃ L, IsCube w a len cap L := by
  rcases Deep.open_slice1 hs ct h with ⟨hcs, _⟩ | ⟨ad, l, c, m, n, V, D, Pl, hcs, _, hl, hm, hmm, _, hall⟩
  · simp only [List.cons.injEq, and_true, Value.slice.injEq] at hcs
    obtain ⟨rfl, rfl, rfl⟩ := hcs
    exact ⟨[], ⟨none, 0, rfl, .inl rfl⟩, by omega, fun i => by simp, fun i j => by simpa using fits_nil⟩
  · simp only [List.cons.injEq, and_true, Value.slice.injEq] at hcs
    obtain ⟨rfl, rfl, rfl⟩ := hcs
    simp only [if_true] at hmm
    have hmm2 := hmm.symm
    subst hmm2
    have each : ∀ i, ∃ r : List (List Int), i < len → ∃ a' l' c', V i = .slice a' l' c' ∧ IsGrid w a' l' c' r := by
      intro i
      by_cases hi : i < len
      · obtain ⟨a', l', c', L, e1, e2⟩ := grid_cell_of_trod ht he hq ce cq (hall i (by omega)).2
        exact ⟨L, fun _ => ⟨a', l', c', e1, e2⟩⟩
      · exact ⟨[], fun h => absurd h hi⟩
    obtain ⟨R, hR⟩ := Classical.axiomOfChoice each
    have hgd : ∀ i, i < len → ((List.range len).map R).getD i [] = R i := fun i hi => by simp [List.getD_eq_getElem?_getD, hi]
    have hout : ∀ i, ¬ i < len → ((List.range len).map R).getD i [] = [] := fun i hi => by rw [List.getD_eq_getElem?_getD, List.getElem?_eq_none (by simp; omega)]; rfl
    refine ⟨(List.range len).map R, ⟨some ad, cap, by simp, ?_⟩, by unfold maxLen at hm; omega, fun i => ?_, fun i j => ?_⟩
    · by_cases h0 : len = 0
      · left; subst h0; rfl
      · right
        obtain ⟨b, off, spot⟩ := ad
        have hc := (hall 0 (by omega)).1
        have hspot : spot = none := by simpa [Addr.add] using World.cell?_spot hc
        subst hspot
        refine ⟨b, off, rfl, World.block_lt_of_cell? w _ hc, fun i hi => ?_⟩
        have hi : i < len := by simpa using hi
        obtain ⟨a', l', c', e1, e2⟩ := hR i hi
        have h1 := (hall i (by omega)).1
        rw [Addr.add_lit] at h1
        rw [hgd i hi]
        exact ⟨_, h1, by rw [e1]; exact e2.1⟩
    · by_cases hi : i < len
      · rw [hgd i hi]
        obtain ⟨a', l', c', e1, e2⟩ := hR i hi
        have := e2.len
        have := e2.2.2
        omega
      · rw [hout i hi]; simp
    · by_cases hi : i < len
      · rw [hgd i hi]
        obtain ⟨a', l', c', e1, e2⟩ := hR i hi
        exact e2.2.1 j
      · rw [hout i hi]; simpa using fits_nil
theorem cube_cell_of_trod {H : Type} {enc : TypeId × Value → H} {P : Program} {w : World} {s t e q : TypeId} {fuel : Nat} {v : Value} {x : DataW H × List MemPlace} (hs : P.underlying s = some (.slice t)) (ht : P.underlying t = some (.slice e)) (he : P.underlying e = some (.slice q)) (hq : P.underlying q = some (.int .i64))
    (ct : P.cellsOf t = 1) (ce : P.cellsOf e = 1) (cq : P.cellsOf q = 1) (h : DataW.trod enc P w 0 (fun _ => true) true fuel s [v] = some x) : ∃ a len cap L, v = .slice a len cap ∧ IsCube w a len cap L := by
  have hv : ∃ a len cap, v = .slice a len cap := by
    rcases Deep.open_slice1 hs ct h with ⟨hcs, _⟩ | ⟨ad, l, c, m, n, V, D, Pl, hcs, _⟩
    · simp only [List.cons.injEq, and_true] at hcs
      exact ⟨_, _, _, hcs⟩
    · simp only [List.cons.injEq, and_true] at hcs
      exact ⟨_, _, _, hcs⟩
  obtain ⟨a, len, cap, rfl⟩ := hv
  obtain ⟨L, hL⟩ := cube_of_trod hs ht he hq ct ce cq h
  exact ⟨a, len, cap, L, rfl, hL⟩

/-! ### What lies in blocks of which p holds -/
/-- A way to lie in memory that is kept where the blocks of which p holds are kept. -/
structure Keeps {α : Type} (K : (Nat → Prop) → World → Value → α → Prop) : Prop where
  mono : ∀ {p q : Nat → Prop} {w : World} {v : Value} {x : α}, K p w v x → (∀ b, b < w.heap.size → p b → q b) → K q w v x
  below : ∀ {p : Nat → Prop} {w w' : World} {v : Value} {x : α}, K p w v x → Below w.heap.size w w' → K p w' v x
  grown : ∀ {p : Nat → Prop} {w w' : World} {v : Value} {x : α} {G : Option Nat}, K p w v x → w.grownBy w' G → (∀ b, p b → some b ≠ G) → K p w' v x
/-- The slice v holds the numbers xs, in a block of which p holds. -/
def Rp (p : Nat → Prop) (w : World) (v : Value) (xs : List Int) : Prop :=
  ∃ a c, v = .slice a xs.length c ∧ (xs = [] ∨ ∃ b off, a = some ⟨b, off, none⟩ ∧ p b ∧ b < w.heap.size ∧ ∀ i, i < xs.length → w.cell? ⟨b, off + i, none⟩ = some (.int .i64 (xs.getD i 0)))
theorem Rp.keeps : Keeps Rp where
  mono := by
    rintro p q w v x ⟨a, c, hv, h⟩ hpq
    refine ⟨a, c, hv, ?_⟩
    rcases h with h | ⟨b, off, ha, hp, hlt, hc⟩
    · exact .inl h
    · exact .inr ⟨b, off, ha, hpq b hlt hp, hlt, hc⟩
  below := by
    rintro p w w' v x ⟨a, c, hv, h⟩ hb
    refine ⟨a, c, hv, ?_⟩
    rcases h with h | ⟨b, off, ha, hp, hlt, hc⟩
    · exact .inl h
    · exact .inr ⟨b, off, ha, hp, Nat.lt_of_lt_of_le hlt hb.size, fun i hi => ((bcell hb).1 _ _ hlt).trans (hc i hi)⟩
  grown := by
    rintro p w w' v x G ⟨a, c, hv, h⟩ hg hG
    refine ⟨a, c, hv, ?_⟩
    rcases h with h | ⟨b, off, ha, hp, hlt, hc⟩
    · exact .inl h
    · exact .inr ⟨b, off, ha, hp, Nat.lt_of_lt_of_le hlt hg.size, fun i hi => (World.cell?_of_block (w := w) (hg.block b hlt (hG b hp))).trans (hc i hi)⟩
theorem Rp.rw {p : Nat → Prop} {w : World} {v : Value} {xs : List Int} (h : Rp p w v xs) : Rw .i64 w v xs := by
  obtain ⟨a, c, hv, h⟩ := h
  refine ⟨a, c, hv, ?_⟩
  rcases h with h | ⟨b, off, ha, _, hlt, hc⟩
  · exact .inl h
  · exact .inr ⟨b, off, ha, hlt, hc⟩
theorem Rp.ofF {B : Nat} {w : World} {v : Value} {xs : List Int} (h : RwF B .i64 w v xs) : Rp (fun b => B ≤ b) w v xs := by
  obtain ⟨a, c, hv, h⟩ := h
  refine ⟨a, c, hv, ?_⟩
  rcases h with h | ⟨b, off, ha, hlo, hlt, hc⟩
  · exact .inl h
  · exact .inr ⟨b, off, ha, hlo, hlt, hc⟩
theorem Rp.of_hl {p : Nat → Prop} {t : TypeId} {w : World} {g n c : Nat} {xs : List Int} (h : Hl .i64 t w g xs) (hn : xs.length = n) (hp : p g) : Rp p w (.slice (some ⟨g, 0, none⟩) n c) xs := by
  subst hn
  exact ⟨_, c, rfl, .inr ⟨g, 0, rfl, hp, h.lt, fun i hi => by rw [Nat.zero_add]; exact h.cell i hi⟩⟩
/-- A slice of such things, it too in a block of which p holds. -/
def Lp {α : Type} (K : (Nat → Prop) → World → Value → α → Prop) (d : α) (p : Nat → Prop) (w : World) (v : Value) (L : List α) : Prop :=
  ∃ a c, v = .slice a L.length c ∧ (L = [] ∨ ∃ b off, a = some ⟨b, off, none⟩ ∧ p b ∧ b < w.heap.size ∧ ∀ i, i < L.length → ∃ r, w.cell? ⟨b, off + i, none⟩ = some r ∧ K p w r (L.getD i d))
theorem Lp.keeps {α : Type} {K : (Nat → Prop) → World → Value → α → Prop} (hK : Keeps K) (d : α) : Keeps (Lp K d) where
  mono := by
    rintro p q w v x ⟨a, c, hv, h⟩ hpq
    refine ⟨a, c, hv, ?_⟩
    rcases h with h | ⟨b, off, ha, hp, hlt, hc⟩
    · exact .inl h
    · exact .inr ⟨b, off, ha, hpq b hlt hp, hlt, fun i hi => by obtain ⟨r, h1, h2⟩ := hc i hi; exact ⟨r, h1, hK.mono h2 hpq⟩⟩
  below := by
    rintro p w w' v x ⟨a, c, hv, h⟩ hb
    refine ⟨a, c, hv, ?_⟩
    rcases h with h | ⟨b, off, ha, hp, hlt, hc⟩
    · exact .inl h
    · exact .inr ⟨b, off, ha, hp, Nat.lt_of_lt_of_le hlt hb.size, fun i hi => by obtain ⟨r, h1, h2⟩ := hc i hi; exact ⟨r, ((bcell hb).1 _ _ hlt).trans h1, hK.below h2 hb⟩⟩
  grown := by
    rintro p w w' v x G ⟨a, c, hv, h⟩ hg hG
    refine ⟨a, c, hv, ?_⟩
    rcases h with h | ⟨b, off, ha, hp, hlt, hc⟩
    · exact .inl h
    · exact .inr ⟨b, off, ha, hp, Nat.lt_of_lt_of_le hlt hg.size, fun i hi => by obtain ⟨r, h1, h2⟩ := hc i hi; exact ⟨r, (World.cell?_of_block (w := w) (hg.block b hlt (hG b hp))).trans h1, hK.grown h2 hg hG⟩⟩
theorem Lp.at {α : Type} {K : (Nat → Prop) → World → Value → α → Prop} {d : α} {p : Nat → Prop} {w : World} {a : Option Addr} {n c : Nat} {L : List α} (h : Lp K d p w (.slice a n c) L) (i : Nat) (hi : i < n) :
    ∃ b off r, a = some ⟨b, off, none⟩ ∧ b < w.heap.size ∧ w.cell? ⟨b, off + i, none⟩ = some r ∧ K p w r (L.getD i d) := by
  obtain ⟨a', c', he, h⟩ := h
  simp only [Value.slice.injEq] at he
  obtain ⟨rfl, rfl, rfl⟩ := he
  obtain ⟨b, off, rfl, _, hlt, hc⟩ := h.resolve_left (by intro h; subst h; simp at hi)
  obtain ⟨r, h1, h2⟩ := hc i hi
  exact ⟨b, off, r, rfl, hlt, h1, h2⟩
/-- Slices of slices, slices of slices of slices. -/
def Gp : (Nat → Prop) → World → Value → List (List Int) → Prop := Lp Rp []
def Cp : (Nat → Prop) → World → Value → List (List (List Int)) → Prop := Lp Gp []
theorem Gp.keeps : Keeps Gp := Lp.keeps Rp.keeps []
theorem Cp.keeps : Keeps Cp := Lp.keeps Gp.keeps []
theorem Gp.fr {p : Nat → Prop} {w : World} {v : Value} {L : List (List Int)} (h : Gp p w v L) : Fr false w v L := by
  obtain ⟨a, c, hv, h⟩ := h
  refine ⟨a, c, hv, ?_⟩
  rcases h with h | ⟨b, off, ha, _, hlt, hc⟩
  · exact .inl h
  · refine .inr ⟨b, off, ha, hlt, fun i hi => ?_⟩
    obtain ⟨r, h1, h2⟩ := hc i hi
    exact ⟨r, h1, Rx.ofF h2.rw.any (fun b e => by cases e)⟩
theorem Cp.fc {p : Nat → Prop} {w : World} {v : Value} {L : List (List (List Int))} (h : Cp p w v L) : Fc false w v L := by
  obtain ⟨a, c, hv, h⟩ := h
  refine ⟨a, c, hv, ?_⟩
  rcases h with h | ⟨b, off, ha, _, hlt, hc⟩
  · exact .inl h
  · refine .inr ⟨b, off, ha, hlt, fun i hi => ?_⟩
    obtain ⟨r, h1, h2⟩ := hc i hi
    exact ⟨r, h1, Gp.fr h2⟩
theorem Fr.weak {ok : Bool} {w : World} {v : Value} {L : List (List Int)} (h : Fr ok w v L) : Fr false w v L := by
  obtain ⟨a, c, hv, h⟩ := h
  refine ⟨a, c, hv, ?_⟩
  rcases h with h | ⟨b, off, ha, hlt, hc⟩
  · exact .inl h
  · refine .inr ⟨b, off, ha, hlt, fun i hi => ?_⟩
    obtain ⟨r, h1, h2⟩ := hc i hi
    exact ⟨r, h1, Rx.ofF h2.rw.any (fun b e => by cases e)⟩
theorem Fc.weak {ok : Bool} {w : World} {v : Value} {L : List (List (List Int))} (h : Fc ok w v L) : Fc false w v L := by
  obtain ⟨a, c, hv, h⟩ := h
  refine ⟨a, c, hv, ?_⟩
  rcases h with h | ⟨b, off, ha, hlt, hc⟩
  · exact .inl h
  · refine .inr ⟨b, off, ha, hlt, fun i hi => ?_⟩
    obtain ⟨r, h1, h2⟩ := hc i hi
    exact ⟨r, h1, h2.weak⟩

/-! ### Put one behind another by append -/
/-- A row of the call's own that grows by append, of things that the call has made (from block B on), none of them in the row's own block. -/
def Ap {α : Type} (K : (Nat → Prop) → World → Value → α → Prop) (ts : TypeId) (B : Nat) (w : World) (v : Value) (n : Nat) (vs : List Value) (L : Nat → α) : Prop :=
  w.ownsRow B ts 1 v n vs ∧ ∀ j, j < n → K (fun b => B ≤ b ∧ some b ≠ v.ownBlock) w (vs.getD j undef) (L j)
theorem Ap.nil {α : Type} {K : (Nat → Prop) → World → Value → α → Prop} (ts : TypeId) (B : Nat) (w : World) (L : Nat → α) : Ap K ts B w (.slice none 0 0) 0 [] L := ⟨World.ownsRow_nil _ _ _ _, fun j hj => by omega⟩
theorem Ap.below {α : Type} {K : (Nat → Prop) → World → Value → α → Prop} (hK : Keeps K) {ts : TypeId} {B : Nat} {w w' : World} {v : Value} {n : Nat} {vs : List Value} {L : Nat → α} (h : Ap K ts B w v n vs L) (hb : Below w.heap.size w w') : Ap K ts B w' v n vs L :=
  ⟨owns_below h.1 hb, fun j hj => hK.below (h.2 j hj) hb⟩
theorem Ap.push {α : Type} {K : (Nat → Prop) → World → Value → α → Prop} (hK : Keeps K) {ts : TypeId} {B : Nat} {w w1 w2 : World} {v v1 : Value} {n g c : Nat} {vs : List Value} {L : Nat → α} {o : Obj} (h : Ap K ts B w v n vs L) (hB : B ≤ w.heap.size) (hb : Below w.heap.size w w1) (hr : K (fun b => w.heap.size ≤ b) w1 v1 (L n))
    (hown : w2.ownsRow B ts 1 (.slice (some ⟨g, 0, none⟩) (n + 1) c) (n + 1) (vs ++ [v1])) (hgrow : (w1.alloc o).grownBy w2 v.ownBlock) (hat : v.ownBlock = some g ∨ g = w1.heap.size + 1) :
    Ap K ts B w2 (.slice (some ⟨g, 0, none⟩) (n + 1) c) (n + 1) (vs ++ [v1]) L := by
  refine ⟨hown, fun j hj => ?_⟩
  have hl : vs.length = n := by have := h.1.1; simpa using this
  have hsw : ∀ {v' : Value} {x : α}, K (fun b => B ≤ b ∧ some b ≠ v.ownBlock) w1 v' x → K (fun b => B ≤ b ∧ some b ≠ Value.ownBlock (.slice (some ⟨g, 0, none⟩) (n + 1) c)) w2 v' x := fun {v' x} hx => by
    have hx1 : K (fun b => (B ≤ b ∧ some b ≠ v.ownBlock) ∧ b ≠ g) w1 v' x := hK.mono hx fun b hlt hp => ⟨hp, fun e => by
      subst e
      rcases hat with e3 | e3
      · exact hp.2 e3.symm
      · omega⟩
    have h1 := hK.grown (hK.below hx1 (below1 w1 o)) hgrow (fun b hp => hp.1.2)
    exact hK.mono h1 fun b _ hp => ⟨hp.1.1, fun e => hp.2 (by simpa [Value.ownBlock] using e)⟩
  by_cases e : j < n
  · rw [show (vs ++ [v1]).getD j undef = vs.getD j undef by simp [List.getD_eq_getElem?_getD, List.getElem?_append_left (show j < vs.length by omega)]]
    exact hsw (hK.below (h.2 j e) hb)
  · have e2 : j = n := by omega
    subst e2
    rw [show (vs ++ [v1]).getD j undef = v1 by simp [List.getD_eq_getElem?_getD, hl]]
    exact hsw (hK.mono hr fun b _ hp => ⟨by omega, fun e => by have := (h.1.lt b e.symm).2; omega⟩)
theorem Ap.all {α : Type} {K : (Nat → Prop) → World → Value → α → Prop} (hK : Keeps K) (d : α) {ts : TypeId} {B : Nat} {w : World} {v : Value} {n : Nat} {vs : List Value} {L : Nat → α} (h : Ap K ts B w v n vs L) : Lp K d (fun b => B ≤ b) w v ((List.range n).map L) := by
  obtain ⟨⟨hl, h2⟩, h3⟩ := h
  have hl : vs.length = n := by simpa using hl
  rcases h2 with ⟨rfl, rfl⟩ | ⟨g, cap, cur, rfl, hg, hh, hcap, hm, hs, ht⟩
  · exact ⟨none, 0, rfl, .inl rfl⟩
  · refine ⟨some ⟨g, 0, none⟩, cap, by simp, .inr ⟨g, 0, rfl, hg, block_in hh, fun i hi => ?_⟩⟩
    have hi : i < n := by simpa using hi
    have e1 : (cur.toList.take (n * 1))[i]? = some (vs.getD i undef) := by
      rw [ht, List.getD_eq_getElem?_getD, List.getElem?_eq_getElem (by omega)]; simp
    rw [List.getElem?_take_of_lt (by omega)] at e1
    refine ⟨vs.getD i undef, ?_, ?_⟩
    · simp [World.cell?, hh] at e1 ⊢
      exact e1
    · have := hK.mono (q := fun b => B ≤ b) (h3 i hi) fun b _ hp => hp.1
      simpa [List.getD_eq_getElem?_getD, hi] using this

/-! ### Laid into a block that was made -/
/-- Things that the call lays into a block G that it made, one behind the other; none of them lies in G. -/
structure Mk {α : Type} (K : (Nat → Prop) → World → Value → α → Prop) (ts : TypeId) (B : Nat) (w : World) (G c : Nat) (L : Nat → α) (i : Nat) : Prop where
  cells : ∃ cur : Array Value, w.heap[G]? = some (.cells cur ts (0, 0)) ∧ cur.size = c
  base : B ≤ G
  rows : ∀ j, j < i → ∃ r, w.cell? ⟨G, j, none⟩ = some r ∧ K (fun b => B ≤ b ∧ b ≠ G) w r (L j)
theorem Mk.lt {α : Type} {K : (Nat → Prop) → World → Value → α → Prop} {ts : TypeId} {B : Nat} {w : World} {G c i : Nat} {L : Nat → α} (h : Mk K ts B w G c L i) : G < w.heap.size := by
  obtain ⟨cur, h, _⟩ := h.cells
  exact block_in h
theorem Mk.cell {α : Type} {K : (Nat → Prop) → World → Value → α → Prop} {ts : TypeId} {B : Nat} {w : World} {G c i : Nat} {L : Nat → α} (h : Mk K ts B w G c L i) (j : Nat) (hj : j < c) : ∃ r, w.cell? ⟨G, j, none⟩ = some r ∧ w.frozen? ⟨G, j, none⟩ = false := by
  obtain ⟨cur, h, hc⟩ := h.cells
  refine ⟨cur[j]'(by omega), ?_, ?_⟩
  · simp [World.cell?, h, hc, hj]
  · simp [World.frozen?, h]
theorem Mk.below {α : Type} {K : (Nat → Prop) → World → Value → α → Prop} (hK : Keeps K) {ts : TypeId} {B : Nat} {w w' : World} {G c i : Nat} {L : Nat → α} (h : Mk K ts B w G c L i) (hb : Below w.heap.size w w') : Mk K ts B w' G c L i := by
  have hlt := h.lt
  obtain ⟨⟨cur, h1, h2⟩, h0, h3⟩ := h
  refine ⟨⟨cur, (hb.block _ hlt).trans h1, h2⟩, h0, fun j hj => ?_⟩
  obtain ⟨r, e1, e2⟩ := h3 j hj
  exact ⟨r, ((bcell hb).1 _ _ hlt).trans e1, hK.below e2 hb⟩
theorem Mk.put {α : Type} {K : (Nat → Prop) → World → Value → α → Prop} (hK : Keeps K) {ts : TypeId} {B : Nat} {w : World} {G c i : Nat} {L : Nat → α} {r : Value} (h : Mk K ts B w G c L i) (hi : i < c) (hr : K (fun b => B ≤ b ∧ b ≠ G) w r (L i)) : Mk K ts B (w.setCell ⟨G, i, none⟩ r) G c L (i + 1) := by
  have hgr : w.grownBy (w.setCell ⟨G, i, none⟩ r) (some G) := grownBy_set ⟨rfl, rfl, rfl, Nat.le_refl _, fun _ _ _ => rfl⟩ i r
  obtain ⟨⟨cur, h1, h2⟩, h0, h3⟩ := h
  refine ⟨⟨cur.setIfInBounds i r, ?_, by simp [h2]⟩, h0, fun j hj => ?_⟩
  · simp [World.setCell, Array.getElem?_modify, h1]
  · by_cases e : j = i
    · subst e
      refine ⟨r, ?_, hK.grown hr hgr (fun b hp e => hp.2 (Option.some.inj e))⟩
      simp [World.cell?, World.setCell, Array.getElem?_modify, h1, h2, hi]
    · obtain ⟨r2, e1, e2⟩ := h3 j (by omega)
      refine ⟨r2, ?_, hK.grown e2 hgr (fun b hp e => hp.2 (Option.some.inj e))⟩
      simp [World.cell?, h1] at e1
      simp [World.cell?, World.setCell, Array.getElem?_modify, h1, Array.getElem?_setIfInBounds, Ne.symm e]
      exact e1
theorem Mk.all {α : Type} {K : (Nat → Prop) → World → Value → α → Prop} (hK : Keeps K) (d : α) {ts : TypeId} {B : Nat} {w : World} {G c cc : Nat} {L : Nat → α} (h : Mk K ts B w G c L c) : Lp K d (fun b => B ≤ b) w (.slice (some ⟨G, 0, none⟩) c cc) ((List.range c).map L) := by
  refine ⟨_, cc, by simp, .inr ⟨G, 0, rfl, h.base, h.lt, fun j hj => ?_⟩⟩
  have hj : j < c := by simpa using hj
  obtain ⟨r, e1, e2⟩ := h.rows j hj
  refine ⟨r, by rw [Nat.zero_add]; exact e1, ?_⟩
  have := hK.mono (q := fun b => B ≤ b) e2 fun b _ hp => hp.1
  simpa [List.getD_eq_getElem?_getD, hj] using this
theorem Mk.made {α : Type} {K : (Nat → Prop) → World → Value → α → Prop} {ts : TypeId} {B : Nat} {w : World} {G c base : Nat} {L : Nat → α} (h : w.ownsRow base ts 1 (.slice (some ⟨G, 0, none⟩) c c) c (madeCells #[.slice none 0 0] c).toList) (hB : B ≤ base) : Mk K ts B w G c L 0 := by
  obtain ⟨h1, h2, _⟩ := owns_full h
  refine ⟨⟨_, h1, ?_⟩, by omega, fun j hj => by omega⟩
  rw [made_one]
  simp
end Go.Proofs.Ytolfnjlkcppplaa
