/- Rows of numbers in memory: what the walks say of a slice of integers, and how it is carried along. Nothing of the program is imported. -/
import Derived.WalkKit
import Derived.WalkSpells
import Derived.WalkLawsBesides
import Derived.Below
import Derived.BigQuiet
import Derived.Lib.QuietBelow
import Derived.Lib.EndianBits
import Derived.Laws.BytesArg
import Derived.Laws.CopyOwn
import Derived.Laws.AppendOwnNone
namespace Go.Proofs.Ytdgacbelpenmmaa
open Go.RowKit
set_option linter.unusedVariables false
set_option linter.unusedSimpArgs false

theorem bcell {W w1 : World} (hb : Below W.heap.size W w1) : (∀ b o, b < W.heap.size → w1.cell? ⟨b, o, none⟩ = W.cell? ⟨b, o, none⟩) ∧ (∀ b o, b < W.heap.size → w1.frozen? ⟨b, o, none⟩ = W.frozen? ⟨b, o, none⟩) :=
  ⟨fun b o h => hb.cell (p := ⟨b, o, none⟩) h, fun b o h => hb.frozen (p := ⟨b, o, none⟩) h⟩

/-- The slice v holds the numbers xs, of kind k. -/
def Rw (k : IntKind) (w : World) (v : Value) (xs : List Int) : Prop :=
  ∃ a cap, v = .slice a xs.length cap ∧ (xs = [] ∨ ∃ b off, a = some ⟨b, off, none⟩ ∧ b < w.heap.size ∧ ∀ i, i < xs.length → w.cell? ⟨b, off + i, none⟩ = some (.int k (xs.getD i 0)))

theorem Rw.below {k : IntKind} {w w' : World} {v : Value} {xs : List Int} (h : Rw k w v xs) (hb : Below w.heap.size w w') : Rw k w' v xs := by
  obtain ⟨a, cap, rfl, h⟩ := h
  refine ⟨a, cap, rfl, ?_⟩
  rcases h with h | ⟨b, off, ha, hlt, hc⟩
  · exact .inl h
  · exact .inr ⟨b, off, ha, Nat.lt_of_lt_of_le hlt hb.size, fun i hi => ((bcell hb).1 _ _ hlt).trans (hc i hi)⟩

theorem Rw.of_owns {k : IntKind} {w : World} {base : Nat} {e : TypeId} {v : Value} {n : Nat} {xs : List Int} (h : w.ownsRow base e 1 v n (xs.map (Value.int k))) : Rw k w v xs := by
  obtain ⟨h1, h2⟩ := h
  have hn : xs.length = n := by simpa using h1
  subst hn
  rcases h2 with ⟨rfl, h0⟩ | ⟨g, cap, cur, rfl, hg, hh, hcap, hm, hs, ht⟩
  · have : xs = [] := List.eq_nil_of_length_eq_zero h0
    subst this
    exact ⟨none, 0, rfl, .inl rfl⟩
  · refine ⟨some ⟨g, 0, none⟩, cap, rfl, .inr ⟨g, 0, rfl, ?_, fun i hi => ?_⟩⟩
    · rcases Nat.lt_or_ge g w.heap.size with h | h
      · exact h
      · rw [Array.getElem?_eq_none h] at hh; cases hh
    · have e1 : (cur.toList.take (xs.length * 1))[i]? = some (.int k (xs.getD i 0)) := by
        rw [ht]; simp [hi]
      rw [List.getElem?_take_of_lt (by omega)] at e1
      simp [World.cell?, hh] at e1 ⊢
      exact e1

/-- Behind calls that make memory, what is owned is still owned. -/
theorem owns_below {w w' : World} {base : Nat} {e : TypeId} {size : Nat} {v : Value} {n : Nat} {xs : List Value} (h : w.ownsRow base e size v n xs) (hb : Below w.heap.size w w') : w'.ownsRow base e size v n xs := by
  obtain ⟨h1, h2⟩ := h
  refine ⟨h1, ?_⟩
  rcases h2 with h2 | ⟨g, cap, cur, hv, hg, hh, r⟩
  · exact .inl h2
  · refine .inr ⟨g, cap, cur, hv, hg, ?_, r⟩
    rcases Nat.lt_or_ge g w.heap.size with h | h
    · rw [hb.block g h]; exact hh
    · rw [Array.getElem?_eq_none h] at hh; cases hh

theorem owns_base {w : World} {base base' : Nat} {e : TypeId} {size : Nat} {v : Value} {n : Nat} {xs : List Value} (h : w.ownsRow base e size v n xs) (hb : base' ≤ base) : w.ownsRow base' e size v n xs := by
  obtain ⟨h1, h2⟩ := h
  refine ⟨h1, ?_⟩
  rcases h2 with h2 | ⟨g, cap, cur, hv, hg, r⟩
  · exact .inl h2
  · exact .inr ⟨g, cap, cur, hv, Nat.le_trans hb hg, r⟩

theorem ret_int {k : IntKind} {a b : Int} (h : a = b) : Ending.returned (.int k a) = .returned (.int k b) := by rw [h]
theorem ret_bool {a b : Bool} (h : a = b) : Ending.returned (.bool a) = .returned (.bool b) := by rw [h]

theorem and1_u8 (x : Int) (h0 : 0 ≤ x) (h1 : x < 256) : bits .and .u8 x 1 = x % 2 := by
  have := bits_mask .u8 8 (by decide) wraps_u8 1 (by decide) x h0 h1
  simpa using this
theorem and1_u64 (x : Int) (h0 : 0 ≤ x) (h1 : x < 2 ^ 64) : bits .and .u64 x 1 = x % 2 := by
  have := bits_mask .u64 64 (by decide) wraps_u64 1 (by decide) x h0 h1
  simpa using this
theorem nat_u64 (n : Nat) (h : n < 2 ^ 64) : IntKind.u64.wrap (n : Int) = n := wraps_u64 _ (by omega) (by omega)
theorem nat_u8 (n : Nat) (h : n < 2 ^ 8) : IntKind.u8.wrap (n : Int) = n := wraps_u8 _ (by omega) (by omega)
theorem nat_shr (a b : Nat) : ((a : Int) / 2 ^ b) = ((a / 2 ^ b : Nat) : Int) := by simp
theorem nat_mod2 (a b : Nat) : ((a : Int) % 2 ^ b) = ((a % 2 ^ b : Nat) : Int) := by simp
theorem nat_shl (a b : Nat) : ((a : Int) * 2 ^ b) = ((a * 2 ^ b : Nat) : Int) := by simp
theorem nat_or_low (y b k : Nat) (hy : y < 2 ^ k) (hy1 : y < 2 ^ 64) (hb : b * 2 ^ k < 2 ^ 64) : bits .or .u64 (y : Int) ((b * 2 ^ k : Nat) : Int) = ((y + b * 2 ^ k : Nat) : Int) := by
  rw [bits_join_low .u64 64 (by decide) wraps_u64 k _ _ (by omega) (by exact_mod_cast hy) (by omega) (by omega) (by exact_mod_cast Nat.mul_mod_left b (2 ^ k)) (by omega)]
  simp
theorem nat_or_low8 (y b k : Nat) (hy : y < 2 ^ k) (hy1 : y < 2 ^ 8) (hb : b * 2 ^ k < 2 ^ 8) : bits .or .u8 (y : Int) ((b * 2 ^ k : Nat) : Int) = ((y + b * 2 ^ k : Nat) : Int) := by
  rw [bits_join_low .u8 8 (by decide) wraps_u8 k _ _ (by omega) (by exact_mod_cast hy) (by omega) (by omega) (by exact_mod_cast Nat.mul_mod_left b (2 ^ k)) (by omega)]
  simp
theorem bit_mul (b k m : Nat) (hb : b < 2) (hk : k ≤ m) : b * 2 ^ k ≤ 2 ^ m := by
  have hkp : (2 : Nat) ^ k ≤ 2 ^ m := Nat.pow_le_pow_right (by decide) hk
  have : b = 0 ∨ b = 1 := by omega
  rcases this with rfl | rfl
  · simp
  · simpa using hkp

theorem below1 (w : World) (a : Obj) : Below w.heap.size w (w.alloc a) := (Below.refl _ _).alloc (Nat.le_refl _) _
theorem below2 (w : World) (a b : Obj) : Below w.heap.size w ((w.alloc a).alloc b) := (below1 w a).alloc (by simp) _
theorem below3 (w : World) (a b c : Obj) : Below w.heap.size w (((w.alloc a).alloc b).alloc c) := (below2 w a b).alloc (by simp; omega) _
/-- Behind a call whose world grew out of one that had grown. -/
theorem bthen {B : Nat} {a b c : World} (h : Below B a b) (k : Below b.heap.size b c) (hB : B ≤ b.heap.size) : Below B a c := h.trans (k.mono hB)

/-- Two cells of a struct of the call's own are written behind a call. -/
theorem bset2 {B : Nat} {a w : World} (h : Below B a w) (p q i j : Nat) (x y : Value) (hp : B ≤ p) (hq : B ≤ q) : Below B a ((w.setCell ⟨p, i, none⟩ x).setCell ⟨q, j, none⟩ y) :=
  (h.setCell (p := ⟨p, i, none⟩) hp x).setCell (p := ⟨q, j, none⟩) hq y

/-- A row of bytes, turned into a string. -/
theorem conv_rw {P : Program} {w : World} {v : Value} {xs : List Int} (h : Rw .u8 w v xs) (src dst e : TypeId) (hs : P.underlying src = some (.slice e)) (he : P.underlying e = some (.int .u8)) (hd : P.underlying dst = some .string) :
    (convert src dst v).run P w = .ok (.string (strOfNums xs)) w := by
  obtain ⟨a, cap, rfl, ha⟩ := h
  rcases ha with rfl | ⟨b, off, rfl, hb, hc⟩
  · cases a with
    | none => exact run_convert_bytes_nil w src e hs he _ _ dst hd
    | some a =>
      rw [run_convert_bytes_string w src dst e _ _ cap hs he hd]
      show (Conv.bytesToString (.slice (some a) 0 cap)).run P w = _
      rw [run_bytesToString w a 0 cap [] (by simp [loadCells, loadCellsFrom, Sem.run_pure])]
      rfl
  · exact run_convert_bytes_arg w src e hs he b off _ cap xs rfl hc dst hd


theorem owns_full {w : World} {base g n : Nat} {e : TypeId} {xs : List Value} (h : w.ownsRow base e 1 (.slice (some ⟨g, 0, none⟩) n n) n xs) : w.heap[g]? = some (.cells xs.toArray e (0, 0)) ∧ base ≤ g ∧ xs.length = n := by
  obtain ⟨h1, h2⟩ := h
  rcases h2 with ⟨hv, _⟩ | ⟨g', cap, cur, hv, hg, hh, hcap, hm, hs, ht⟩
  · cases hv
  · simp only [Value.slice.injEq, Option.some.injEq, Addr.mk.injEq] at hv
    obtain ⟨⟨rfl, _⟩, _, rfl⟩ := hv
    have : cur.toList = xs := by rw [← ht, List.take_of_length_le]; simp [hs]
    exact ⟨by rw [hh, ← this], hg, by simpa using h1⟩
theorem owns_of_full {w : World} {base g n : Nat} {e : TypeId} {xs : List Value} (h : w.heap[g]? = some (.cells xs.toArray e (0, 0))) (hb : base ≤ g) (hn : xs.length = n) (hm : n ≤ maxLen) : w.ownsRow base e 1 (.slice (some ⟨g, 0, none⟩) n n) n xs :=
  ⟨by simp [hn], .inr ⟨g, n, xs.toArray, rfl, hb, h, Nat.le_refl _, hm, by simp [hn], by simp [← hn]⟩⟩
theorem grown_of_none {w w' : World} (h : w.grownBy w' none) : Below w.heap.size w w' := ⟨h.os, h.tape, h.output, h.size, fun k hk => h.block k hk (by simp)⟩

theorem made_one (z : Value) (n : Nat) : (madeCells #[z] n).toList = List.replicate n z := by
  exact toList_madeCells_one z n

theorem cell_of_row {w : World} {g : Nat} {k : IntKind} {e : TypeId} {cur : List Int} (h : w.heap[g]? = some (.cells (cur.map (Value.int k)).toArray e (0, 0))) (i : Nat) (hi : i < cur.length) :
    w.cell? ⟨g, i, none⟩ = some (.int k (cur.getD i 0)) ∧ w.frozen? ⟨g, i, none⟩ = false := by
  constructor
  · simp [World.cell?, h, hi]
  · simp [World.frozen?, h]
theorem row_set {w : World} {g : Nat} {k : IntKind} {e : TypeId} {cur : List Int} (h : w.heap[g]? = some (.cells (cur.map (Value.int k)).toArray e (0, 0))) (i : Nat) (y : Int) :
    (w.setCell ⟨g, i, none⟩ (.int k y)).heap[g]? = some (.cells ((cur.set i y).map (Value.int k)).toArray e (0, 0)) := by
  simp [World.setCell, Array.getElem?_modify, h]
theorem grownBy_set {W w : World} {g : Nat} (h : W.grownBy w (some g)) (i : Nat) (v : Value) : W.grownBy (w.setCell ⟨g, i, none⟩ v) (some g) :=
  ⟨h.os, h.tape, h.output, by simpa [World.setCell] using h.size, fun k hk hne => by
    rw [Below.heap_setCell _ _ _ _ (by intro he; exact hne (by rw [he]))]; exact h.block k hk hne⟩
theorem grownBy_cells {W w : World} {g : Nat} (h : W.grownBy w (some g)) (b o : Nat) (hb : b < W.heap.size) (hne : b ≠ g) : w.cell? ⟨b, o, none⟩ = W.cell? ⟨b, o, none⟩ ∧ w.frozen? ⟨b, o, none⟩ = W.frozen? ⟨b, o, none⟩ := by
  have := h.block b hb (by simpa using hne)
  exact ⟨World.cell?_of_block (w := W) this, World.frozen?_of_block (w := W) this⟩
theorem Rw.of_row {w : World} {g : Nat} {k : IntKind} {e : TypeId} {cur : List Int} {n c : Nat} (h : w.heap[g]? = some (.cells (cur.map (Value.int k)).toArray e (0, 0))) (hn : cur.length = n) : Rw k w (.slice (some ⟨g, 0, none⟩) n c) cur := by
  subst hn
  refine ⟨_, c, rfl, .inr ⟨g, 0, rfl, ?_, fun i hi => ?_⟩⟩
  · rcases Nat.lt_or_ge g w.heap.size with h' | h'
    · exact h'
    · rw [Array.getElem?_eq_none h'] at h; cases h
  · rw [Nat.zero_add]; exact (cell_of_row h i hi).1

/-- The slice v holds the numbers xs, in a block from 'base' on: memory that the call has made. -/
def RwF (base : Nat) (k : IntKind) (w : World) (v : Value) (xs : List Int) : Prop :=
  ∃ a cap, v = .slice a xs.length cap ∧ (xs = [] ∨ ∃ b off, a = some ⟨b, off, none⟩ ∧ base ≤ b ∧ b < w.heap.size ∧ ∀ i, i < xs.length → w.cell? ⟨b, off + i, none⟩ = some (.int k (xs.getD i 0)))
theorem RwF.rw {base : Nat} {k : IntKind} {w : World} {v : Value} {xs : List Int} (h : RwF base k w v xs) : Rw k w v xs := by
  obtain ⟨a, cap, hv, h⟩ := h
  refine ⟨a, cap, hv, ?_⟩
  rcases h with h | ⟨b, off, ha, _, hlt, hc⟩
  · exact .inl h
  · exact .inr ⟨b, off, ha, hlt, hc⟩
theorem RwF.mono {base base' : Nat} {k : IntKind} {w : World} {v : Value} {xs : List Int} (h : RwF base k w v xs) (hb : base' ≤ base) : RwF base' k w v xs := by
  obtain ⟨a, cap, hv, h⟩ := h
  refine ⟨a, cap, hv, ?_⟩
  rcases h with h | ⟨b, off, ha, hlo, r⟩
  · exact .inl h
  · exact .inr ⟨b, off, ha, by omega, r⟩
theorem RwF.below {base : Nat} {k : IntKind} {w w' : World} {v : Value} {xs : List Int} (h : RwF base k w v xs) (hb : Below w.heap.size w w') : RwF base k w' v xs := by
  obtain ⟨a, cap, hv, h⟩ := h
  refine ⟨a, cap, hv, ?_⟩
  rcases h with h | ⟨b, off, ha, hlo, hlt, hc⟩
  · exact .inl h
  · exact .inr ⟨b, off, ha, hlo, Nat.lt_of_lt_of_le hlt hb.size, fun i hi => ((bcell hb).1 _ _ hlt).trans (hc i hi)⟩
theorem RwF.set {base : Nat} {k : IntKind} {w : World} {v : Value} {xs : List Int} (h : RwF base k w v xs) (p o : Nat) (x : Value) (hp : p < base) : RwF base k (w.setCell ⟨p, o, none⟩ x) v xs := by
  obtain ⟨a, cap, hv, h⟩ := h
  refine ⟨a, cap, hv, ?_⟩
  rcases h with h | ⟨b, off, ha, hlo, hlt, hc⟩
  · exact .inl h
  · refine .inr ⟨b, off, ha, hlo, by simpa [World.setCell] using hlt, fun i hi => ?_⟩
    rw [World.cell?_of_block (w := w) (Below.heap_setCell w ⟨p, o, none⟩ x b (by show b ≠ p; omega))]
    exact hc i hi
theorem RwF.of_row {base : Nat} {w : World} {g : Nat} {k : IntKind} {e : TypeId} {cur : List Int} {n c : Nat} (h : w.heap[g]? = some (.cells (cur.map (Value.int k)).toArray e (0, 0))) (hn : cur.length = n) (hb : base ≤ g) : RwF base k w (.slice (some ⟨g, 0, none⟩) n c) cur := by
  subst hn
  refine ⟨_, c, rfl, .inr ⟨g, 0, rfl, hb, ?_, fun i hi => ?_⟩⟩
  · rcases Nat.lt_or_ge g w.heap.size with h' | h'
    · exact h'
    · rw [Array.getElem?_eq_none h'] at h; cases h
  · rw [Nat.zero_add]; exact (cell_of_row h i hi).1
theorem RwF.of_owns {k : IntKind} {w : World} {base : Nat} {e : TypeId} {v : Value} {n : Nat} {xs : List Int} (h : w.ownsRow base e 1 v n (xs.map (Value.int k))) : RwF base k w v xs := by
  obtain ⟨h1, h2⟩ := h
  have hn : xs.length = n := by simpa using h1
  subst hn
  rcases h2 with ⟨rfl, h0⟩ | ⟨g, cap, cur, rfl, hg, hh, hcap, hm, hs, ht⟩
  · have : xs = [] := List.eq_nil_of_length_eq_zero h0
    subst this
    exact ⟨none, 0, rfl, .inl rfl⟩
  · refine ⟨some ⟨g, 0, none⟩, cap, rfl, .inr ⟨g, 0, rfl, hg, ?_, fun i hi => ?_⟩⟩
    · rcases Nat.lt_or_ge g w.heap.size with h | h
      · exact h
      · rw [Array.getElem?_eq_none h] at hh; cases hh
    · have e1 : (cur.toList.take (xs.length * 1))[i]? = some (.int k (xs.getD i 0)) := by
        rw [ht]; simp [hi]
      rw [List.getElem?_take_of_lt (by omega)] at e1
      simp [World.cell?, hh] at e1 ⊢
      exact e1
/-- Any row, in some block. -/
theorem Rw.any {k : IntKind} {w : World} {v : Value} {xs : List Int} (h : Rw k w v xs) : RwF 0 k w v xs := by
  obtain ⟨a, cap, hv, h⟩ := h
  refine ⟨a, cap, hv, ?_⟩
  rcases h with h | ⟨b, off, ha, hlt, hc⟩
  · exact .inl h
  · exact .inr ⟨b, off, ha, by omega, hlt, hc⟩

/-- What a call finds of its own two structs behind a call that it made. -/
theorem two_boxes {w w' : World} {x0 x1 y0 y1 : Value} {t t' : TypeId} (hb : Below ((w.alloc (.cells #[x0, x1] t)).alloc (.cells #[y0, y1] t')).heap.size ((w.alloc (.cells #[x0, x1] t)).alloc (.cells #[y0, y1] t')) w') :
    w'.cell? ⟨w.heap.size, 0, none⟩ = some x0 ∧ w'.cell? ⟨w.heap.size, 1, none⟩ = some x1 ∧ w'.cell? ⟨w.heap.size + 1, 0, none⟩ = some y0 ∧ w'.cell? ⟨w.heap.size + 1, 1, none⟩ = some y1 ∧
      w'.frozen? ⟨w.heap.size, 0, none⟩ = false ∧ w'.frozen? ⟨w.heap.size, 1, none⟩ = false ∧ w'.frozen? ⟨w.heap.size + 1, 0, none⟩ = false ∧ w'.frozen? ⟨w.heap.size + 1, 1, none⟩ = false ∧ w.heap.size + 1 < w'.heap.size := by
  obtain ⟨hc, hf⟩ := bcell hb
  have hz := hb.size
  simp at hz
  refine ⟨?_, ?_, ?_, ?_, ?_, ?_, ?_, ?_, by omega⟩
  · rw [hc _ _ (by simp; omega)]; simp [go_sem]
  · rw [hc _ _ (by simp; omega)]; simp [go_sem]
  · rw [hc _ _ (by simp)]; simp [go_sem]
  · rw [hc _ _ (by simp)]; simp [go_sem]
  · rw [hf _ _ (by simp; omega)]; simp [go_sem]
  · rw [hf _ _ (by simp; omega)]; simp [go_sem]
  · rw [hf _ _ (by simp)]; simp [go_sem]
  · rw [hf _ _ (by simp)]; simp [go_sem]

/-- Two structs of two cells each, in memory: what a region's loads read. -/
def Four (w : World) (b c : Nat) (x0 x1 y0 y1 : Value) : Prop := w.cell? ⟨b, 0, none⟩ = some x0 ∧ w.cell? ⟨b, 1, none⟩ = some x1 ∧ w.cell? ⟨c, 0, none⟩ = some y0 ∧ w.cell? ⟨c, 1, none⟩ = some y1
theorem Four.below {w w' : World} {b c : Nat} {x0 x1 y0 y1 : Value} (h : Four w b c x0 x1 y0 y1) (hb : Below w.heap.size w w') (h1 : b < w.heap.size) (h2 : c < w.heap.size) : Four w' b c x0 x1 y0 y1 := by
  obtain ⟨hc, _⟩ := bcell hb
  exact ⟨(hc _ _ h1).trans h.1, (hc _ _ h1).trans h.2.1, (hc _ _ h2).trans h.2.2.1, (hc _ _ h2).trans h.2.2.2⟩
theorem four_new {w : World} {b : Nat} {y0 y1 x0 x1 : Value} {t : TypeId} (hb : b < w.heap.size) (h0 : w.cell? ⟨b, 0, none⟩ = some y0) (h1 : w.cell? ⟨b, 1, none⟩ = some y1) : Four (w.alloc (.cells #[x0, x1] t)) b w.heap.size y0 y1 x0 x1 :=
  ⟨(World.cell?_alloc_past _ _ _ hb).trans h0, (World.cell?_alloc_past _ _ _ hb).trans h1, by simp [go_sem], by simp [go_sem]⟩
theorem drew_below {w w' : World} (h : Below w.drew.heap.size w.drew w') : Below w.heap.size w w' := ⟨h.os, h.tape, h.output, h.size, h.block⟩
theorem wraps_i64 (n : Int) (h0 : -9223372036854775808 ≤ n) (h1 : n < 9223372036854775808) : IntKind.i64.wrap n = n := by rw [IntKind.wrap_i64]; omega

/-- A whole row of integers, nil or not, behind a row of the call's own. -/
theorem wpList_append_rw {P : Program} {w : World} {ops : Array Oper} {rest : List Oper} {o : Oper} {a : Act} {Q : Exit → Act → World → Prop} (hgd : o.guard = none) (s x : Operand) (t : TypeId)
    (ho : o.op = .call { callee := .builtin .append, args := #[s, x], argTypes := #[t, t] })
    (base : Nat) (e : TypeId) (i : TypeInfo) (z : Value) (bytes : Nat) (ht : P.underlying t = some (.slice e)) (hi : P.info? e = some i) (hz : i.zero = some z)
    (hsize : i.size = 1) (hby : i.bytes = bytes) (hzs : z.cells.size = 1)
    (k : IntKind) (v : Value) (n : Nat) (xs : List Value) (hs : a.eval s = v) (hown : w.ownsRow base e 1 v n xs)
    (ad : Option Addr) (c : Nat) (ys : List Int) (hx : a.eval x = .slice ad ys.length c) (hrw : Rw k w (.slice ad ys.length c) ys) (hn : ad = none → c = 0)
    (h63 : n + ys.length ≤ maxLen) (hbytes : (n + ys.length) * bytes ≤ 140737488355328) (hbase : base ≤ w.heap.size)
    (h : ∀ v' w', w'.ownsRow base e 1 v' (n + ys.length) (xs ++ ys.map (Value.int k)) → w.grownBy w' v.ownBlock → wpList P ops Q rest (a.put o.dst v') w') : wpList P ops Q (o :: rest) a w := by
  obtain ⟨a', c', he, hr⟩ := hrw
  simp only [Value.slice.injEq, true_and] at he
  obtain ⟨rfl, rfl⟩ := he
  cases ad with
  | none =>
    have hc := hn rfl
    subst hc
    have hy : ys = [] := by
      rcases hr with h | ⟨b, off, hh, _⟩
      · exact h
      · cases hh
    subst hy
    refine wpList_append_own_none hgd s x t ho base e i 1 ht hi v n xs hs hown hx (h v w ?_ (World.grownBy.refl w _))
    simpa using hown
  | some ad =>
    refine wpList_append_own w hgd s x t ho base e i z 1 bytes ht hi hz hsize hby hzs (by decide) v n xs hs hown ad ys.length c (ys.map (Value.int k)) hx (by simp) ?_ (ints_oneCell k ys) h63 hbytes hbase (fun v' w' h1 h2 _ => h v' w' h1 h2)
    intro j u hj
    have hjl : j < ys.length := by
      have := (List.getElem?_eq_some_iff.1 hj).1
      simpa using this
    obtain ⟨b, off, hh, hb, hc⟩ := hr.resolve_left (by intro h; subst h; simp at hjl)
    cases hh
    rw [Addr.add_lit, hc j hjl, ← hj]
    simp [hjl]
end Go.Proofs.Ytdgacbelpenmmaa
