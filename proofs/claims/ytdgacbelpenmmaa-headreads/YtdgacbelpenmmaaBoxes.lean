/- Structs of a call's own in memory (two, three, four cells); rows of its own, carried along; structs that a region makes; slices of structs that came in. Nothing of the program is imported. -/
import Derived.Test.YtdgacbelpenmmaaMath
import Derived.Deep.SlicePairs
import Derived.OneCell
namespace Go.Proofs.Ytdgacbelpenmmaa
open Go.RowKit
set_option linter.unusedVariables false
set_option linter.unusedSimpArgs false

/-- A struct of three cells, of the call's own. -/
structure B3 (w : World) (b : Nat) (x0 x1 x2 : Value) : Prop where
  z : b < w.heap.size
  c0 : w.cell? ⟨b, 0, none⟩ = some x0
  c1 : w.cell? ⟨b, 1, none⟩ = some x1
  c2 : w.cell? ⟨b, 2, none⟩ = some x2
  f0 : w.frozen? ⟨b, 0, none⟩ = false
  f1 : w.frozen? ⟨b, 1, none⟩ = false
  f2 : w.frozen? ⟨b, 2, none⟩ = false
theorem B3.below {w w' : World} {b : Nat} {x0 x1 x2 : Value} (h : B3 w b x0 x1 x2) (hb : Below w.heap.size w w') : B3 w' b x0 x1 x2 := by
  obtain ⟨hc, hf⟩ := bcell hb
  have hz := h.z
  exact ⟨Nat.lt_of_lt_of_le hz hb.size, (hc _ _ hz).trans h.c0, (hc _ _ hz).trans h.c1, (hc _ _ hz).trans h.c2, (hf _ _ hz).trans h.f0, (hf _ _ hz).trans h.f1, (hf _ _ hz).trans h.f2⟩
theorem B3.new (w : World) (x0 x1 x2 : Value) (t : TypeId) : B3 (w.alloc (.cells #[x0, x1, x2] t)) w.heap.size x0 x1 x2 :=
  ⟨by simp, by simp [go_sem], by simp [go_sem], by simp [go_sem], by simp [go_sem], by simp [go_sem], by simp [go_sem]⟩
theorem B3.other {w : World} {b : Nat} {x0 x1 x2 : Value} (h : B3 w b x0 x1 x2) (c o : Nat) (y : Value) (hne : b ≠ c) : B3 (w.setCell ⟨c, o, none⟩ y) b x0 x1 x2 := by
  have e := Below.heap_setCell w ⟨c, o, none⟩ y b hne
  exact ⟨by simpa [World.setCell] using h.z, (World.cell?_of_block (w := w) e).trans h.c0, (World.cell?_of_block (w := w) e).trans h.c1, (World.cell?_of_block (w := w) e).trans h.c2, (World.frozen?_of_block (w := w) e).trans h.f0, (World.frozen?_of_block (w := w) e).trans h.f1, (World.frozen?_of_block (w := w) e).trans h.f2⟩
theorem B3.set {w : World} {b : Nat} {x0 x1 x2 : Value} (h : B3 w b x0 x1 x2) (y0 y1 y2 : Value) : B3 (((w.setCell ⟨b, 0, none⟩ y0).setCell ⟨b, 1, none⟩ y1).setCell ⟨b, 2, none⟩ y2) b y0 y1 y2 :=
  ⟨by simpa [World.setCell] using h.z, by simp [go_sem, h.c0, h.c1, h.c2], by simp [go_sem, h.c0, h.c1, h.c2], by simp [go_sem, h.c0, h.c1, h.c2], by simp [h.f0], by simp [h.f1], by simp [h.f2]⟩
theorem B3.set0 {w : World} {b : Nat} {x0 x1 x2 : Value} (h : B3 w b x0 x1 x2) (y : Value) : B3 (w.setCell ⟨b, 0, none⟩ y) b y x1 x2 :=
  ⟨by simpa [World.setCell] using h.z, by simp [go_sem, h.c0, h.c1, h.c2], by simp [go_sem, h.c0, h.c1, h.c2], by simp [go_sem, h.c0, h.c1, h.c2], by simp [h.f0], by simp [h.f1], by simp [h.f2]⟩
theorem B3.set1 {w : World} {b : Nat} {x0 x1 x2 : Value} (h : B3 w b x0 x1 x2) (y : Value) : B3 (w.setCell ⟨b, 1, none⟩ y) b x0 y x2 :=
  ⟨by simpa [World.setCell] using h.z, by simp [go_sem, h.c0, h.c1, h.c2], by simp [go_sem, h.c0, h.c1, h.c2], by simp [go_sem, h.c0, h.c1, h.c2], by simp [h.f0], by simp [h.f1], by simp [h.f2]⟩
theorem B3.set2 {w : World} {b : Nat} {x0 x1 x2 : Value} (h : B3 w b x0 x1 x2) (y : Value) : B3 (w.setCell ⟨b, 2, none⟩ y) b x0 x1 y :=
  ⟨by simpa [World.setCell] using h.z, by simp [go_sem, h.c0, h.c1, h.c2], by simp [go_sem, h.c0, h.c1, h.c2], by simp [go_sem, h.c0, h.c1, h.c2], by simp [h.f0], by simp [h.f1], by simp [h.f2]⟩
/-- A struct of four cells, of the call's own. -/
structure B4 (w : World) (b : Nat) (x0 x1 x2 x3 : Value) : Prop where
  z : b < w.heap.size
  c0 : w.cell? ⟨b, 0, none⟩ = some x0
  c1 : w.cell? ⟨b, 1, none⟩ = some x1
  c2 : w.cell? ⟨b, 2, none⟩ = some x2
  c3 : w.cell? ⟨b, 3, none⟩ = some x3
  f0 : w.frozen? ⟨b, 0, none⟩ = false
  f1 : w.frozen? ⟨b, 1, none⟩ = false
  f2 : w.frozen? ⟨b, 2, none⟩ = false
  f3 : w.frozen? ⟨b, 3, none⟩ = false
theorem B4.below {w w' : World} {b : Nat} {x0 x1 x2 x3 : Value} (h : B4 w b x0 x1 x2 x3) (hb : Below w.heap.size w w') : B4 w' b x0 x1 x2 x3 := by
  obtain ⟨hc, hf⟩ := bcell hb
  have hz := h.z
  exact ⟨Nat.lt_of_lt_of_le hz hb.size, (hc _ _ hz).trans h.c0, (hc _ _ hz).trans h.c1, (hc _ _ hz).trans h.c2, (hc _ _ hz).trans h.c3, (hf _ _ hz).trans h.f0, (hf _ _ hz).trans h.f1, (hf _ _ hz).trans h.f2, (hf _ _ hz).trans h.f3⟩
theorem B4.new (w : World) (x0 x1 x2 x3 : Value) (t : TypeId) : B4 (w.alloc (.cells #[x0, x1, x2, x3] t)) w.heap.size x0 x1 x2 x3 :=
  ⟨by simp, by simp [go_sem], by simp [go_sem], by simp [go_sem], by simp [go_sem], by simp [go_sem], by simp [go_sem], by simp [go_sem], by simp [go_sem]⟩
theorem B4.other {w : World} {b : Nat} {x0 x1 x2 x3 : Value} (h : B4 w b x0 x1 x2 x3) (c o : Nat) (y : Value) (hne : b ≠ c) : B4 (w.setCell ⟨c, o, none⟩ y) b x0 x1 x2 x3 := by
  have e := Below.heap_setCell w ⟨c, o, none⟩ y b hne
  exact ⟨by simpa [World.setCell] using h.z, (World.cell?_of_block (w := w) e).trans h.c0, (World.cell?_of_block (w := w) e).trans h.c1, (World.cell?_of_block (w := w) e).trans h.c2, (World.cell?_of_block (w := w) e).trans h.c3, (World.frozen?_of_block (w := w) e).trans h.f0, (World.frozen?_of_block (w := w) e).trans h.f1, (World.frozen?_of_block (w := w) e).trans h.f2, (World.frozen?_of_block (w := w) e).trans h.f3⟩
theorem B4.set0 {w : World} {b : Nat} {x0 x1 x2 x3 : Value} (h : B4 w b x0 x1 x2 x3) (y : Value) : B4 (w.setCell ⟨b, 0, none⟩ y) b y x1 x2 x3 :=
  ⟨by simpa [World.setCell] using h.z, by simp [go_sem, h.c0], by simp [go_sem, h.c1], by simp [go_sem, h.c2], by simp [go_sem, h.c3], by simp [h.f0], by simp [h.f1], by simp [h.f2], by simp [h.f3]⟩
theorem B4.set1 {w : World} {b : Nat} {x0 x1 x2 x3 : Value} (h : B4 w b x0 x1 x2 x3) (y : Value) : B4 (w.setCell ⟨b, 1, none⟩ y) b x0 y x2 x3 :=
  ⟨by simpa [World.setCell] using h.z, by simp [go_sem, h.c0], by simp [go_sem, h.c1], by simp [go_sem, h.c2], by simp [go_sem, h.c3], by simp [h.f0], by simp [h.f1], by simp [h.f2], by simp [h.f3]⟩
theorem B4.set2 {w : World} {b : Nat} {x0 x1 x2 x3 : Value} (h : B4 w b x0 x1 x2 x3) (y : Value) : B4 (w.setCell ⟨b, 2, none⟩ y) b x0 x1 y x3 :=
  ⟨by simpa [World.setCell] using h.z, by simp [go_sem, h.c0], by simp [go_sem, h.c1], by simp [go_sem, h.c2], by simp [go_sem, h.c3], by simp [h.f0], by simp [h.f1], by simp [h.f2], by simp [h.f3]⟩
theorem B4.set3 {w : World} {b : Nat} {x0 x1 x2 x3 : Value} (h : B4 w b x0 x1 x2 x3) (y : Value) : B4 (w.setCell ⟨b, 3, none⟩ y) b x0 x1 x2 y :=
  ⟨by simpa [World.setCell] using h.z, by simp [go_sem, h.c0], by simp [go_sem, h.c1], by simp [go_sem, h.c2], by simp [go_sem, h.c3], by simp [h.f0], by simp [h.f1], by simp [h.f2], by simp [h.f3]⟩
theorem B4.set {w : World} {b : Nat} {x0 x1 x2 x3 : Value} (h : B4 w b x0 x1 x2 x3) (y0 y1 y2 y3 : Value) : B4 ((((w.setCell ⟨b, 0, none⟩ y0).setCell ⟨b, 1, none⟩ y1).setCell ⟨b, 2, none⟩ y2).setCell ⟨b, 3, none⟩ y3) b y0 y1 y2 y3 := (((h.set0 y0).set1 y1).set2 y2).set3 y3
theorem bset1 {B : Nat} {a w : World} (h : Below B a w) (p i : Nat) (x : Value) (hp : B ≤ p) : Below B a (w.setCell ⟨p, i, none⟩ x) := h.setCell (p := ⟨p, i, none⟩) hp x
theorem bset3 {B : Nat} {a w : World} (h : Below B a w) (p : Nat) (x0 x1 x2 : Value) (hp : B ≤ p) : Below B a (((w.setCell ⟨p, 0, none⟩ x0).setCell ⟨p, 1, none⟩ x1).setCell ⟨p, 2, none⟩ x2) :=
  bset1 (bset1 (bset1 h p 0 x0 hp) p 1 x1 hp) p 2 x2 hp
theorem bset4 {B : Nat} {a w : World} (h : Below B a w) (p : Nat) (x0 x1 x2 x3 : Value) (hp : B ≤ p) : Below B a ((((w.setCell ⟨p, 0, none⟩ x0).setCell ⟨p, 1, none⟩ x1).setCell ⟨p, 2, none⟩ x2).setCell ⟨p, 3, none⟩ x3) :=
  bset1 (bset3 h p x0 x1 x2 hp) p 3 x3 hp
/-- A byte of a row, in memory. -/
theorem Rw.at {k : IntKind} {w : World} {a : Option Addr} {cap : Nat} {xs : List Int} (h : Rw k w (.slice a xs.length cap) xs) (i : Nat) (hi : i < xs.length) : ∃ b off, a = some ⟨b, off, none⟩ ∧ b < w.heap.size ∧ w.cell? ⟨b, off + i, none⟩ = some (.int k (xs.getD i 0)) := by
  obtain ⟨a', cap', he, ha⟩ := h
  simp only [Value.slice.injEq] at he
  obtain ⟨rfl, _, rfl⟩ := he
  obtain ⟨b, off, rfl, hb, hc⟩ := ha.resolve_left (by intro h; subst h; simp at hi)
  exact ⟨b, off, rfl, hb, hc i hi⟩
theorem B4.new2 (w : World) (o : Obj) (x0 x1 x2 x3 : Value) (t : TypeId) : B4 ((w.alloc o).alloc (.cells #[x0, x1, x2, x3] t)) (w.heap.size + 1) x0 x1 x2 x3 := by
  simpa using B4.new (w.alloc o) x0 x1 x2 x3 t
theorem B3.new2 (w : World) (o : Obj) (x0 x1 x2 : Value) (t : TypeId) : B3 ((w.alloc o).alloc (.cells #[x0, x1, x2] t)) (w.heap.size + 1) x0 x1 x2 := by
  simpa using B3.new (w.alloc o) x0 x1 x2 t
theorem B4.new3 (w : World) (o o' : Obj) (x0 x1 x2 x3 : Value) (t : TypeId) : B4 (((w.alloc o).alloc o').alloc (.cells #[x0, x1, x2, x3] t)) (w.heap.size + 1 + 1) x0 x1 x2 x3 := by
  simpa using B4.new ((w.alloc o).alloc o') x0 x1 x2 x3 t
theorem owns_other {w : World} {base : Nat} {e : TypeId} {size : Nat} {v : Value} {n : Nat} {xs : List Value} (h : w.ownsRow base e size v n xs) (p o : Nat) (x : Value) (hp : p < base) : (w.setCell ⟨p, o, none⟩ x).ownsRow base e size v n xs := by
  obtain ⟨h1, h2⟩ := h
  refine ⟨h1, ?_⟩
  rcases h2 with h2 | ⟨g, cap, cur, hv, hg, hh, r⟩
  · exact .inl h2
  · exact .inr ⟨g, cap, cur, hv, hg, by rw [Below.heap_setCell _ _ _ _ (by show g ≠ p; omega)]; exact hh, r⟩
theorem owns_open {w : World} {base : Nat} {e : TypeId} {v : Value} {n : Nat} {xs : List Value} (h : w.ownsRow base e 1 v n xs) : ∃ a cap, v = .slice a n cap ∧ n ≤ cap ∧ cap ≤ maxLen ∧ (a = none → cap = 0) := by
  obtain ⟨h1, h2⟩ := h
  rcases h2 with ⟨rfl, rfl⟩ | ⟨g, cap, cur, rfl, hg, hh, hcap, hm, r⟩
  · exact ⟨none, 0, rfl, by omega, by omega, fun _ => rfl⟩
  · exact ⟨_, cap, rfl, hcap, hm, fun h => by cases h⟩
theorem cell_four_new (w : World) (x y z u : Value) (t : TypeId) : ∀ j v, [x, y, z, u][j]? = some v → (w.alloc (.cells #[x, y, z, u] t)).cell? ((⟨w.heap.size, 0, none⟩ : Addr).add j) = some v := by
  intro j v h
  match j, h with
  | 0, h => simp at h; subst h; simp [Addr.add, go_sem]
  | 1, h => simp at h; subst h; simp [Addr.add, go_sem]
  | 2, h => simp at h; subst h; simp [Addr.add, go_sem]
  | 3, h => simp at h; subst h; simp [Addr.add, go_sem]
  | j + 4, h => simp at h
theorem cell_four_at {W : World} {k : Nat} (hk : W.heap.size = k) (x y z u : Value) (t : TypeId) : ∀ j v, [x, y, z, u][j]? = some v → (W.alloc (.cells #[x, y, z, u] t)).cell? ((⟨k, 0, none⟩ : Addr).add j) = some v := by
  subst hk; exact cell_four_new W x y z u t
theorem cell_one_at {W : World} {k : Nat} (hk : W.heap.size = k) (x : Value) (t : TypeId) : ∀ j v, [x][j]? = some v → (W.alloc (.cells #[x] t)).cell? ((⟨k, 0, none⟩ : Addr).add j) = some v := by
  subst hk
  intro j v h
  match j, h with
  | 0, h => simp at h; subst h; simp [Addr.add, go_sem]
  | j + 1, h => simp at h
theorem owns_at {w : World} {base : Nat} {e : TypeId} {a : Option Addr} {n cap : Nat} {k : IntKind} {xs : List Int} (h : w.ownsRow base e 1 (.slice a n cap) n (xs.map (Value.int k))) (i : Nat) (hi : i < n) :
    ∃ g, a = some ⟨g, 0, none⟩ ∧ base ≤ g ∧ g < w.heap.size ∧ w.cell? ⟨g, i, none⟩ = some (.int k (xs.getD i 0)) ∧ w.frozen? ⟨g, i, none⟩ = false := by
  have hn : xs.length = n := by have := h.1; simpa using this
  rcases h.2 with ⟨hv, h0⟩ | ⟨g, cap', cur, hv, hg, hh, hcap, hm, hs, ht⟩
  · omega
  · simp only [Value.slice.injEq] at hv
    obtain ⟨rfl, _, rfl⟩ := hv
    refine ⟨g, rfl, hg, ?_, ?_, ?_⟩
    · rcases Nat.lt_or_ge g w.heap.size with h' | h'
      · exact h'
      · rw [Array.getElem?_eq_none h'] at hh; cases hh
    · have e1 : (cur.toList.take (n * 1))[i]? = some (.int k (xs.getD i 0)) := by
        rw [ht]; simp [hn, hi]
      rw [List.getElem?_take_of_lt (by omega)] at e1
      simp [World.cell?, hh] at e1 ⊢
      exact e1
    · simp [World.frozen?, hh]
theorem owns_set {w : World} {base : Nat} {e : TypeId} {g n cap : Nat} {k : IntKind} {xs : List Int} (h : w.ownsRow base e 1 (.slice (some ⟨g, 0, none⟩) n cap) n (xs.map (Value.int k))) (i : Nat) (y : Int) :
    (w.setCell ⟨g, i, none⟩ (.int k y)).ownsRow base e 1 (.slice (some ⟨g, 0, none⟩) n cap) n ((xs.set i y).map (Value.int k)) := by
  have := (h.stored i (.int k y)).1
  rw [List.map_set]
  exact this
theorem B3.grown {w w' : World} {b : Nat} {x0 x1 x2 : Value} {o : Option Nat} (h : B3 w b x0 x1 x2) (hg : w.grownBy w' o) (hne : o ≠ some b) : B3 w' b x0 x1 x2 := by
  have e := hg.block b h.z (fun hh => hne hh.symm)
  exact ⟨Nat.lt_of_lt_of_le h.z hg.size, (World.cell?_of_block (w := w) e).trans h.c0, (World.cell?_of_block (w := w) e).trans h.c1, (World.cell?_of_block (w := w) e).trans h.c2, (World.frozen?_of_block (w := w) e).trans h.f0, (World.frozen?_of_block (w := w) e).trans h.f1, (World.frozen?_of_block (w := w) e).trans h.f2⟩
theorem B3.belowB {w w' : World} {b B : Nat} {x0 x1 x2 : Value} (h : B3 w b x0 x1 x2) (hb : Below B w w') (hB : b < B) : B3 w' b x0 x1 x2 :=
  ⟨Nat.lt_of_lt_of_le h.z hb.size, (hb.cell (p := ⟨b, 0, none⟩) hB).trans h.c0, (hb.cell (p := ⟨b, 1, none⟩) hB).trans h.c1, (hb.cell (p := ⟨b, 2, none⟩) hB).trans h.c2, (hb.frozen (p := ⟨b, 0, none⟩) hB).trans h.f0, (hb.frozen (p := ⟨b, 1, none⟩) hB).trans h.f1, (hb.frozen (p := ⟨b, 2, none⟩) hB).trans h.f2⟩
/-- A struct of two cells, of the call's own. -/
structure B2 (w : World) (b : Nat) (x0 x1 : Value) : Prop where
  z : b < w.heap.size
  c0 : w.cell? ⟨b, 0, none⟩ = some x0
  c1 : w.cell? ⟨b, 1, none⟩ = some x1
  f0 : w.frozen? ⟨b, 0, none⟩ = false
  f1 : w.frozen? ⟨b, 1, none⟩ = false
theorem B2.below {w w' : World} {b : Nat} {x0 x1 : Value} (h : B2 w b x0 x1) (hb : Below w.heap.size w w') : B2 w' b x0 x1 := by
  obtain ⟨hc, hf⟩ := bcell hb
  have hz := h.z
  exact ⟨Nat.lt_of_lt_of_le hz hb.size, (hc _ _ hz).trans h.c0, (hc _ _ hz).trans h.c1, (hf _ _ hz).trans h.f0, (hf _ _ hz).trans h.f1⟩
theorem B2.new (w : World) (x0 x1 : Value) (t : TypeId) : B2 (w.alloc (.cells #[x0, x1] t)) w.heap.size x0 x1 :=
  ⟨by simp, by simp [go_sem], by simp [go_sem], by simp [go_sem], by simp [go_sem]⟩
theorem B2.new2 (w : World) (o : Obj) (x0 x1 : Value) (t : TypeId) : B2 ((w.alloc o).alloc (.cells #[x0, x1] t)) (w.heap.size + 1) x0 x1 := by
  simpa using B2.new (w.alloc o) x0 x1 t
theorem B2.of_block {w w' : World} {b : Nat} {x0 x1 : Value} (h : B2 w b x0 x1) (e : w'.heap[b]? = w.heap[b]?) (hz : b < w'.heap.size) : B2 w' b x0 x1 :=
  ⟨hz, (World.cell?_of_block (w := w) e).trans h.c0, (World.cell?_of_block (w := w) e).trans h.c1, (World.frozen?_of_block (w := w) e).trans h.f0, (World.frozen?_of_block (w := w) e).trans h.f1⟩
theorem B2.other {w : World} {b : Nat} {x0 x1 : Value} (h : B2 w b x0 x1) (c o : Nat) (y : Value) (hne : b ≠ c) : B2 (w.setCell ⟨c, o, none⟩ y) b x0 x1 :=
  h.of_block (Below.heap_setCell w ⟨c, o, none⟩ y b hne) (by simpa [World.setCell] using h.z)
theorem B2.set0 {w : World} {b : Nat} {x0 x1 : Value} (h : B2 w b x0 x1) (y : Value) : B2 (w.setCell ⟨b, 0, none⟩ y) b y x1 :=
  ⟨by simpa [World.setCell] using h.z, by simp [go_sem, h.c0], by simp [go_sem, h.c1], by simp [h.f0], by simp [h.f1]⟩
theorem B2.set1 {w : World} {b : Nat} {x0 x1 : Value} (h : B2 w b x0 x1) (y : Value) : B2 (w.setCell ⟨b, 1, none⟩ y) b x0 y :=
  ⟨by simpa [World.setCell] using h.z, by simp [go_sem, h.c0], by simp [go_sem, h.c1], by simp [h.f0], by simp [h.f1]⟩
theorem B2.grown {w w' : World} {b : Nat} {x0 x1 : Value} {o : Option Nat} (h : B2 w b x0 x1) (hg : w.grownBy w' o) (hne : o ≠ some b) : B2 w' b x0 x1 :=
  h.of_block (hg.block b h.z (fun hh => hne hh.symm)) (Nat.lt_of_lt_of_le h.z hg.size)
theorem bset2' {B : Nat} {a w : World} (h : Below B a w) (p : Nat) (x0 x1 : Value) (hp : B ≤ p) : Below B a ((w.setCell ⟨p, 0, none⟩ x0).setCell ⟨p, 1, none⟩ x1) :=
  bset1 (bset1 h p 0 x0 hp) p 1 x1 hp
/-- An append onto a row of the call's own, at a step of a region that draws its order. -/
theorem step_append_own {P : Program} {w : World} {ops : Array Oper} {o : Oper} {a : Act} {K : Act → World → Prop} {Q : Exit → Act → World → Prop} {E : Prop} (hgd : o.guard = none) (s x : Operand) (t : TypeId)
    (ho : o.op = .call { callee := .builtin .append, args := #[s, x], argTypes := #[t, t] })
    (base : Nat) (e : TypeId) (i : TypeInfo) (z : Value) (bytes : Nat) (ht : P.underlying t = some (.slice e)) (hi : P.info? e = some i) (hz : i.zero = some z)
    (hsize : i.size = 1) (hby : i.bytes = bytes) (hzs : z.cells.size = 1)
    (v : Value) (n : Nat) (xs : List Value) (hs : a.eval s = v) (hown : w.ownsRow base e 1 v n xs)
    (ad : Addr) (m c : Nat) (news : List Value) (hx : a.eval x = .slice (some ad) m c) (hl : news.length = m * 1) (hnews : ∀ j u, news[j]? = some u → w.cell? (ad.add j) = some u) (h1 : ∀ u ∈ news, u.oneCell' = true)
    (h63 : n + m ≤ maxLen) (hbytes : (n + m) * bytes ≤ 140737488355328) (hbase : base ≤ w.heap.size)
    (h : ∀ v' w', w'.ownsRow base e 1 v' (n + m) (xs ++ news) → w.grownBy w' v.ownBlock → K (a.put o.dst v') w') :
    if Region.wanted o (yielded ops a.tmps) = true then Oper.wp P o a w K Q else E := by
  have hw : Region.wanted o (yielded ops a.tmps) = true := by simp [Region.wanted, hgd]
  rw [if_pos hw]
  obtain ⟨v', w', hr, h2, h3, _⟩ := run_append_own (P := P) w base t o.type e i z 1 bytes ht hi hz hsize hby hzs (by decide) v n xs hown ad m c news hl hnews h1 h63 hbytes hbase
  unfold Oper.wp execOp
  simp only [ho, resolve, invoke, builtin, Sem.run_bind, Sem.run_pure, Result.andThen_ok, List.map_toArray, List.map_cons, List.map_nil, hs, hx, hr]
  exact h v' w' h2 h3
theorem rw_lit4 (base : Nat) (w : World) (b : Nat) (x y z u : Int) (k : IntKind) (c : Nat) (h : w.cell? ⟨b, 0, none⟩ = some (.int k x)) (h1 : w.cell? ⟨b, 1, none⟩ = some (.int k y)) (h2 : w.cell? ⟨b, 2, none⟩ = some (.int k z)) (h3 : w.cell? ⟨b, 3, none⟩ = some (.int k u)) (hb : b < w.heap.size) (hB : base ≤ b) : RwF base k w (.slice (some ⟨b, 0, none⟩) 4 c) [x, y, z, u] := by
  refine ⟨some ⟨b, 0, none⟩, c, rfl, .inr ⟨b, 0, rfl, hB, hb, fun i hi => ?_⟩⟩
  simp at hi
  have : i = 0 ∨ i = 1 ∨ i = 2 ∨ i = 3 := by omega
  rcases this with rfl | rfl | rfl | rfl
  · simpa using h
  · simpa using h1
  · simpa using h2
  · simpa using h3
theorem owns_drew {w : World} {base : Nat} {e : TypeId} {size : Nat} {v : Value} {n : Nat} {xs : List Value} (h : w.ownsRow base e size v n xs) : w.drew.ownsRow base e size v n xs := h
theorem owns_new {w : World} {base : Nat} {e : TypeId} {size : Nat} {v : Value} {n : Nat} {xs : List Value} (h : w.ownsRow base e size v n xs) (o : Obj) : (w.alloc o).drew.ownsRow base e size v n xs := owns_drew (h.alloc o)
theorem cell_one_drew (W : World) (x : Value) (t : TypeId) : ∀ j v, [x][j]? = some v → (W.alloc (.cells #[x] t)).drew.cell? ((⟨W.heap.size, 0, none⟩ : Addr).add j) = some v := cell_one_at rfl x t
theorem one_cell (k : IntKind) (y : Int) : ∀ u ∈ [Value.int k y], u.oneCell' = true := by intro u hu; simp at hu; subst hu; rfl
theorem own_empty {w : World} {base : Nat} {e : TypeId} (h : base ≤ w.heap.size) : (w.alloc (.cells #[] e)).ownsRow base e 1 (.slice (some ⟨w.heap.size, 0, none⟩) 0 0) 0 [] :=
  ⟨by simp, .inr ⟨w.heap.size, 0, #[], rfl, h, heap_alloc_new w _, by omega, by unfold maxLen; omega, by simp, by simp⟩⟩
theorem owns_off {w : World} {base : Nat} {e : TypeId} {size : Nat} {v : Value} {n : Nat} {xs : List Value} (h : w.ownsRow base e size v n xs) (p o : Nat) (hp : v.ownBlock ≠ some p) (u : Value) : (w.setCell ⟨p, o, none⟩ u).ownsRow base e size v n xs := ownsRow_setCell_other h (a := ⟨p, o, none⟩) hp u
theorem drewN_below {B : Nat} {w w' : World} (h : Below B w w') (n : Nat) : Below B w (w'.drewN n) := below_drewN h n
/-- A slice of triples of integers that came in. -/
def IsTriples (k0 k1 k2 : IntKind) (w : World) (a : Option Addr) (len : Nat) (z0 z1 z2 : Nat → Int) : Prop :=
  len ≤ maxLen ∧ (len = 0 ∨ ∃ b off, a = some ⟨b, off, none⟩ ∧ b < w.heap.size ∧ ∀ i, i < len → w.cell? ⟨b, off + i * 3, none⟩ = some (.int k0 (z0 i)) ∧ w.cell? ⟨b, off + i * 3 + 1, none⟩ = some (.int k1 (z1 i)) ∧ w.cell? ⟨b, off + i * 3 + 2, none⟩ = some (.int k2 (z2 i)) ∧ (Lit.int k0 (z0 i)).wf = true ∧ (Lit.int k1 (z1 i)).wf = true ∧ (Lit.int k2 (z2 i)).wf = true)
theorem triples_of_trod {H : Type} {enc : TypeId × Value → H} {P : Program} {w : World} {t e : TypeId} {f0 f1 f2 : Field} {k0 k1 k2 : IntKind} {fuel : Nat} {a : Option Addr} {len cap : Nat} {x : DataW H × List MemPlace} (ht : P.underlying t = some (.slice e)) (he : P.underlying e = some (.struct #[f0, f1, f2]))
    (ce : P.cellsOf e = 3) (o0 : f0.offset = 0) (o1 : f1.offset = 1) (o2 : f2.offset = 2) (c0 : P.cellsOf f0.type = 1) (c1 : P.cellsOf f1.type = 1) (c2 : P.cellsOf f2.type = 1) (u0 : P.underlying f0.type = some (.int k0)) (u1 : P.underlying f1.type = some (.int k1)) (u2 : P.underlying f2.type = some (.int k2))
    (h : DataW.trod enc P w 0 (fun _ => true) true fuel t [.slice a len cap] = some x) : ∃ z0 z1 z2, IsTriples k0 k1 k2 w a len z0 z1 z2 := by
  rcases Deep.open_slice ht h with ⟨hcs, _⟩ | ⟨ad, l, c, m, n, D, Pl, hcs, _, hl, hm, hmm, _, hx⟩
  · simp only [List.cons.injEq, and_true, Value.slice.injEq] at hcs
    obtain ⟨rfl, rfl, rfl⟩ := hcs
    exact ⟨fun _ => 0, fun _ => 0, fun _ => 0, by unfold maxLen; omega, .inl rfl⟩
  · simp only [List.cons.injEq, and_true, Value.slice.injEq] at hcs
    obtain ⟨rfl, rfl, rfl⟩ := hcs
    simp only [if_true] at hmm
    subst hmm
    have each : ∀ i, i < m → ∃ q : Int × Int × Int, w.cell? (ad.add (i * 3)) = some (.int k0 q.1) ∧ w.cell? (ad.add (i * 3 + 1)) = some (.int k1 q.2.1) ∧ w.cell? (ad.add (i * 3 + 2)) = some (.int k2 q.2.2) ∧ (Lit.int k0 q.1).wf = true ∧ (Lit.int k1 q.2.1).wf = true ∧ (Lit.int k2 q.2.2).wf = true := by
      intro i hi
      obtain ⟨cs', h1, h2⟩ := hx i hi
      rw [ce] at h1
      obtain ⟨_, hlen, hcell⟩ := World.cells?_some h1
      obtain ⟨xs, k, hk, hxy, _, hxl, hf⟩ := DataW.trod_struct he h2
      match xs, hxl, cs', hlen with
      | [y0, y1, y2], _, [v0, v1, v2], _ =>
        have g0 := hf 0 f0 rfl
        have g1 := hf 1 f1 rfl
        have g2 := hf 2 f2 rfl
        simp [o0, o1, o2, c0, c1, c2] at g0 g1 g2
        have e0 := hcell 0 (by omega)
        have e1 := hcell 1 (by omega)
        have e2 := hcell 2 (by omega)
        rw [Deep.add_add] at e0 e1 e2
        obtain ⟨x0, q0, _, w0⟩ := DataW.trod_int u0 g0
        obtain ⟨x1, q1, _, w1⟩ := DataW.trod_int u1 g1
        obtain ⟨x2, q2, _, w2⟩ := DataW.trod_int u2 g2
        simp only [List.cons.injEq, and_true] at q0 q1 q2
        subst q0 q1 q2
        exact ⟨(x0, x1, x2), by simpa using e0, by simpa using e1, by simpa using e2, w0, w1, w2⟩
    by_cases h0 : len = 0
    · exact ⟨fun _ => 0, fun _ => 0, fun _ => 0, by omega, .inl h0⟩
    · obtain ⟨q, hq⟩ := Deep.choose_lt each
      obtain ⟨b, off, spot⟩ := ad
      have hc := (hq 0 (by omega)).1
      have hspot : spot = none := by simpa [Addr.add] using World.cell?_spot hc
      subst hspot
      refine ⟨fun i => (q i).1, fun i => (q i).2.1, fun i => (q i).2.2, by omega, .inr ⟨b, off, rfl, World.block_lt_of_cell? w _ hc, fun i hi => ?_⟩⟩
      obtain ⟨g0, g1, g2, r0, r1, r2⟩ := hq i (by omega)
      rw [Addr.add_lit] at g0 g1 g2
      exact ⟨g0, g1, g2, r0, r1, r2⟩
theorem bthen' {a b c : World} (h : Below a.heap.size a b) (k : Below b.heap.size b c) : Below a.heap.size a c := bthen h k h.size
theorem cell_three_new (W : World) (x y z : Value) (t : TypeId) : ∀ j v, [x, y, z][j]? = some v → (W.alloc (.cells #[x, y, z] t)).cell? ((⟨W.heap.size, 0, none⟩ : Addr).add j) = some v := by
  intro j v h
  match j, h with
  | 0, h => simp at h; subst h; simp [Addr.add, go_sem]
  | 1, h => simp at h; subst h; simp [Addr.add, go_sem]
  | 2, h => simp at h; subst h; simp [Addr.add, go_sem]
  | j + 3, h => simp at h
def Made3 (wr wz : World) (p : Value) (x0 x1 x2 : Value) : Prop := ∃ bx, p = .pointer (some ⟨bx, 0, none⟩) ∧ B3 wz bx x0 x1 x2 ∧ wr.heap.size ≤ bx ∧ Below wr.heap.size wr wz
theorem made3_after {y wr : World} {x0 x1 x2 : Value} {t : TypeId} (h : Below wr.heap.size wr y) : Made3 wr (y.alloc (.cells #[x0, x1, x2] t)) (.pointer (some ⟨y.heap.size, 0, none⟩)) x0 x1 x2 :=
  ⟨y.heap.size, rfl, B3.new _ _ _ _ _, h.size, h.alloc h.size _⟩
theorem made3_before {y wr : World} {x0 x1 x2 z0 z1 z2 : Value} {t : TypeId} (e : Below (wr.alloc (.cells #[z0, z1, z2] t)).drew.heap.size (wr.alloc (.cells #[z0, z1, z2] t)).drew y) : Made3 wr (((y.setCell ⟨wr.heap.size, 0, none⟩ x0).setCell ⟨wr.heap.size, 1, none⟩ x1).setCell ⟨wr.heap.size, 2, none⟩ x2) (.pointer (some ⟨wr.heap.size, 0, none⟩)) x0 x1 x2 :=
  ⟨wr.heap.size, rfl, ((B3.new wr z0 z1 z2 t).below (drew_below e)).set x0 x1 x2, Nat.le_refl _, bset3 (bthen' (below1 _ _) (drew_below e)) _ _ _ _ (Nat.le_refl _)⟩
def Made4 (wr wz : World) (p : Value) (x0 x1 x2 x3 : Value) : Prop := ∃ bx, p = .pointer (some ⟨bx, 0, none⟩) ∧ B4 wz bx x0 x1 x2 x3 ∧ wr.heap.size ≤ bx ∧ Below wr.heap.size wr wz
theorem made4_after {y wr : World} {x0 x1 x2 x3 : Value} {t : TypeId} (h : Below wr.heap.size wr y) : Made4 wr (y.alloc (.cells #[x0, x1, x2, x3] t)) (.pointer (some ⟨y.heap.size, 0, none⟩)) x0 x1 x2 x3 :=
  ⟨y.heap.size, rfl, B4.new _ _ _ _ _ _, h.size, h.alloc h.size _⟩
theorem made4_before {y wr : World} {x0 x1 x2 x3 z0 z1 z2 z3 : Value} {t : TypeId} (e : Below (wr.alloc (.cells #[z0, z1, z2, z3] t)).drew.heap.size (wr.alloc (.cells #[z0, z1, z2, z3] t)).drew y) : Made4 wr ((((y.setCell ⟨wr.heap.size, 0, none⟩ x0).setCell ⟨wr.heap.size, 1, none⟩ x1).setCell ⟨wr.heap.size, 2, none⟩ x2).setCell ⟨wr.heap.size, 3, none⟩ x3) (.pointer (some ⟨wr.heap.size, 0, none⟩)) x0 x1 x2 x3 :=
  ⟨wr.heap.size, rfl, ((B4.new wr z0 z1 z2 z3 t).below (drew_below e)).set x0 x1 x2 x3, Nat.le_refl _, bset4 (bthen' (below1 _ _) (drew_below e)) _ _ _ _ _ (Nat.le_refl _)⟩
theorem row_after {y : World} {base : Nat} {k : IntKind} {v : Value} {xs : List Int} (r : RwF base k y v xs) (o : Obj) : RwF base k (y.alloc o) v xs := r.below (below1 _ _)
theorem row_before3 {y wr : World} {k : IntKind} {v : Value} {xs : List Int} {z0 z1 z2 : Value} {t : TypeId} (r : RwF (wr.alloc (.cells #[z0, z1, z2] t)).drew.heap.size k y v xs) (x0 x1 x2 : Value) : RwF wr.heap.size k (((y.setCell ⟨wr.heap.size, 0, none⟩ x0).setCell ⟨wr.heap.size, 1, none⟩ x1).setCell ⟨wr.heap.size, 2, none⟩ x2) v xs := by
  have hlt : wr.heap.size < (wr.alloc (.cells #[z0, z1, z2] t)).drew.heap.size := by show wr.heap.size < (wr.alloc (.cells #[z0, z1, z2] t)).heap.size; simp
  exact (((r.set wr.heap.size 0 x0 hlt).set wr.heap.size 1 x1 hlt).set wr.heap.size 2 x2 hlt).mono (Nat.le_of_lt hlt)
theorem RwF.grown {base : Nat} {k : IntKind} {w w' : World} {v : Value} {xs : List Int} {row : Option Nat} (h : RwF base k w v xs) (hg : w.grownBy w' row) (hr : ∀ i, row = some i → i < base) : RwF base k w' v xs := by
  obtain ⟨a, cap, hv, h⟩ := h
  refine ⟨a, cap, hv, ?_⟩
  rcases h with h | ⟨b, off, ha, hlo, hlt, hc⟩
  · exact .inl h
  · refine .inr ⟨b, off, ha, hlo, Nat.lt_of_lt_of_le hlt hg.size, fun i hi => ?_⟩
    exact hg.cell (hc i hi) (fun e => by have := hr _ e.symm; simp at this; omega)
theorem held6 {wr w' : World} {b c o : Nat} {x0 x1 x2 y0 y1 y2 : Value} (h : Below wr.heap.size wr w') (hb : B3 wr b x0 x1 x2) (hc : c < wr.heap.size) (d0 : wr.cell? ⟨c, o, none⟩ = some y0) (d1 : wr.cell? ⟨c, o + 1, none⟩ = some y1) (d2 : wr.cell? ⟨c, o + 2, none⟩ = some y2) :
    w'.cell? ⟨b, 0, none⟩ = some x0 ∧ w'.cell? ⟨b, 1, none⟩ = some x1 ∧ w'.cell? ⟨b, 2, none⟩ = some x2 ∧ w'.cell? ⟨c, o, none⟩ = some y0 ∧ w'.cell? ⟨c, o + 1, none⟩ = some y1 ∧ w'.cell? ⟨c, o + 2, none⟩ = some y2 :=
  ⟨(hb.below h).c0, (hb.below h).c1, (hb.below h).c2, ((bcell h).1 _ _ hc).trans d0, ((bcell h).1 _ _ hc).trans d1, ((bcell h).1 _ _ hc).trans d2⟩
theorem held7 {wr w' : World} {b c o : Nat} {x0 x1 x2 x3 y0 y1 y2 : Value} (h : Below wr.heap.size wr w') (hb : B4 wr b x0 x1 x2 x3) (hc : c < wr.heap.size) (d0 : wr.cell? ⟨c, o, none⟩ = some y0) (d1 : wr.cell? ⟨c, o + 1, none⟩ = some y1) (d2 : wr.cell? ⟨c, o + 2, none⟩ = some y2) :
    w'.cell? ⟨b, 0, none⟩ = some x0 ∧ w'.cell? ⟨b, 1, none⟩ = some x1 ∧ w'.cell? ⟨b, 2, none⟩ = some x2 ∧ w'.cell? ⟨b, 3, none⟩ = some x3 ∧ w'.cell? ⟨c, o, none⟩ = some y0 ∧ w'.cell? ⟨c, o + 1, none⟩ = some y1 ∧ w'.cell? ⟨c, o + 2, none⟩ = some y2 :=
  ⟨(hb.below h).c0, (hb.below h).c1, (hb.below h).c2, (hb.below h).c3, ((bcell h).1 _ _ hc).trans d0, ((bcell h).1 _ _ hc).trans d1, ((bcell h).1 _ _ hc).trans d2⟩
theorem held3 {wr w' : World} {b : Nat} {x0 x1 x2 : Value} (h : Below wr.heap.size wr w') (hb : B3 wr b x0 x1 x2) :
    w'.cell? ⟨b, 0, none⟩ = some x0 ∧ w'.cell? ⟨b, 1, none⟩ = some x1 ∧ w'.cell? ⟨b, 2, none⟩ = some x2 := ⟨(hb.below h).c0, (hb.below h).c1, (hb.below h).c2⟩
theorem Rw.off {k : IntKind} {w : World} {a : Option Addr} {n cap b : Nat} {xs : List Int} (h : Rw k w (.slice a n cap) xs) (hne : ∀ b' off, a = some ⟨b', off, none⟩ → b' ≠ b) (o : Nat) (y : Value) : Rw k (w.setCell ⟨b, o, none⟩ y) (.slice a n cap) xs := by
  obtain ⟨a', cap', he, ha⟩ := h
  simp only [Value.slice.injEq] at he
  obtain ⟨rfl, hl, rfl⟩ := he
  refine ⟨a, cap, by rw [hl], ?_⟩
  rcases ha with ha | ⟨b1, off, rfl, hz, hc⟩
  · exact .inl ha
  · refine .inr ⟨b1, off, rfl, by simpa [World.setCell] using hz, fun i hi => ?_⟩
    rw [World.cell?_of_block (w := w) (Below.heap_setCell w ⟨b, o, none⟩ y b1 (hne b1 off rfl))]
    exact hc i hi
theorem res_block {w w' : World} {o : Obj} {o' : Obj} (hb : Below ((w.alloc o).alloc o').heap.size ((w.alloc o).alloc o') w') : w'.heap[w.heap.size + 1]? = some o' := by
  rw [hb.block _ (by simp)]
  have := heap_alloc_new (w.alloc o) o'
  simpa using this
def IsPairs (k0 k1 : IntKind) (w : World) (a : Option Addr) (len : Nat) (z0 z1 : Nat → Int) : Prop :=
  len ≤ maxLen ∧ (len = 0 ∨ ∃ b off, a = some ⟨b, off, none⟩ ∧ b < w.heap.size ∧ ∀ i, i < len → w.cell? ⟨b, off + i * 2, none⟩ = some (.int k0 (z0 i)) ∧ w.cell? ⟨b, off + i * 2 + 1, none⟩ = some (.int k1 (z1 i)) ∧ (Lit.int k0 (z0 i)).wf = true ∧ (Lit.int k1 (z1 i)).wf = true)
theorem pairs_of_trod {H : Type} {enc : TypeId × Value → H} {P : Program} {w : World} {t e : TypeId} {f0 f1 : Field} {k0 k1 : IntKind} {fuel : Nat} {a : Option Addr} {len cap : Nat} {x : DataW H × List MemPlace} (ht : P.underlying t = some (.slice e)) (he : P.underlying e = some (.struct #[f0, f1]))
    (ce : P.cellsOf e = 2) (o0 : f0.offset = 0) (o1 : f1.offset = 1) (c0 : P.cellsOf f0.type = 1) (c1 : P.cellsOf f1.type = 1) (u0 : P.underlying f0.type = some (.int k0)) (u1 : P.underlying f1.type = some (.int k1))
    (h : DataW.trod enc P w 0 (fun _ => true) true fuel t [.slice a len cap] = some x) : ∃ z0 z1, IsPairs k0 k1 w a len z0 z1 := by
  rcases Deep.open_slice_pairs ht he ce o0 o1 c0 c1 h with ⟨hcs, _⟩ | ⟨ad, l, c, m, n, V0, V1, D0, D1, P0, P1, hcs, _, hl, hm, hmm, _, hall⟩
  · simp only [List.cons.injEq, and_true, Value.slice.injEq] at hcs
    obtain ⟨rfl, rfl, rfl⟩ := hcs
    exact ⟨fun _ => 0, fun _ => 0, by unfold maxLen; omega, .inl rfl⟩
  · simp only [List.cons.injEq, and_true, Value.slice.injEq] at hcs
    obtain ⟨rfl, rfl, rfl⟩ := hcs
    simp only [if_true] at hmm
    subst hmm
    by_cases h0 : len = 0
    · exact ⟨fun _ => 0, fun _ => 0, by omega, .inl h0⟩
    · obtain ⟨b, off, spot⟩ := ad
      have hc := (hall 0 (by omega)).1
      have hspot : spot = none := by simpa [Addr.add] using World.cell?_spot hc
      subst hspot
      refine ⟨fun i => intOf (V0 i), fun i => intOf (V1 i), by omega, .inr ⟨b, off, rfl, World.block_lt_of_cell? w _ hc, fun i hi => ?_⟩⟩
      obtain ⟨g0, g1, r0, r1⟩ := hall i (by omega)
      obtain ⟨x0, e0, _, w0⟩ := DataW.trod_int u0 r0
      obtain ⟨x1, e1, _, w1⟩ := DataW.trod_int u1 r1
      simp only [List.cons.injEq, and_true] at e0 e1
      rw [Addr.add_lit] at g0 g1
      have a0 : (fun i => intOf (V0 i)) i = x0 := by show intOf (V0 i) = x0; rw [e0]; rfl
      have a1 : (fun i => intOf (V1 i)) i = x1 := by show intOf (V1 i) = x1; rw [e1]; rfl
      rw [a0, a1]
      exact ⟨by rw [g0, e0], by rw [Nat.add_assoc, g1, e1], w0, w1⟩
theorem cell_pair_new (W : World) (x y : Value) (t : TypeId) : ∀ j v, [x, y][j]? = some v → (W.alloc (.cells #[x, y] t)).cell? ((⟨W.heap.size, 0, none⟩ : Addr).add j) = some v := by
  intro j v h
  match j, h with
  | 0, h => simp at h; subst h; simp [Addr.add, go_sem]
  | 1, h => simp at h; subst h; simp [Addr.add, go_sem]
  | j + 2, h => simp at h
theorem held5 {wr w' : World} {b c o : Nat} {x0 x1 x2 y0 y1 : Value} (h : Below wr.heap.size wr w') (hb : B3 wr b x0 x1 x2) (hc : c < wr.heap.size) (d0 : wr.cell? ⟨c, o, none⟩ = some y0) (d1 : wr.cell? ⟨c, o + 1, none⟩ = some y1) :
    w'.cell? ⟨b, 0, none⟩ = some x0 ∧ w'.cell? ⟨b, 1, none⟩ = some x1 ∧ w'.cell? ⟨b, 2, none⟩ = some x2 ∧ w'.cell? ⟨c, o, none⟩ = some y0 ∧ w'.cell? ⟨c, o + 1, none⟩ = some y1 :=
  ⟨(hb.below h).c0, (hb.below h).c1, (hb.below h).c2, ((bcell h).1 _ _ hc).trans d0, ((bcell h).1 _ _ hc).trans d1⟩
theorem held42 {wr w' : World} {b c o : Nat} {x0 x1 x2 x3 y0 y1 : Value} (h : Below wr.heap.size wr w') (hb : B4 wr b x0 x1 x2 x3) (hc : c < wr.heap.size) (d0 : wr.cell? ⟨c, o, none⟩ = some y0) (d1 : wr.cell? ⟨c, o + 1, none⟩ = some y1) :
    w'.cell? ⟨b, 0, none⟩ = some x0 ∧ w'.cell? ⟨b, 1, none⟩ = some x1 ∧ w'.cell? ⟨b, 2, none⟩ = some x2 ∧ w'.cell? ⟨b, 3, none⟩ = some x3 ∧ w'.cell? ⟨c, o, none⟩ = some y0 ∧ w'.cell? ⟨c, o + 1, none⟩ = some y1 :=
  ⟨(hb.below h).c0, (hb.below h).c1, (hb.below h).c2, (hb.below h).c3, ((bcell h).1 _ _ hc).trans d0, ((bcell h).1 _ _ hc).trans d1⟩
end Go.Proofs.Ytdgacbelpenmmaa
