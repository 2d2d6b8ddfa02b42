/- Structs of a call's own in memory; a decoder: the next byte, and what opens it. -/
import Derived.Test.YtocccimlojeaeaaCb
import Derived.Deep.RegionHeld3
namespace Go.Proofs.Ytocccimlojeaeaa
open Go.RowKit
set_option linter.unusedVariables false
set_option linter.unusedSimpArgs false

/-- A struct of three cells, of the call's own. -/
structure B3 (w : World) (b : Nat) (x0 x1 x2 : Value) : Prop where
  z : b < w.heap.size
  c0 : w.cell? ⟨b, 0, none⟩ = some x0
  c1 : w.cell? ⟨b, 1, none⟩ = some x1
  c2 : w.cell? ⟨b, 2, none⟩ = some x2
  f0 : w.frozen? ⟨b, 0, none⟩ = false
  f1 : w.frozen? ⟨b, 1, none⟩ = false
  f2 : w.frozen? ⟨b, 2, none⟩ = false
theorem B3.below {w w' : World} {b : Nat} {x0 x1 x2 : Value} (h : B3 w b x0 x1 x2) (hb : Below w.heap.size w w') : B3 w' b x0 x1 x2 := by
  obtain ⟨hc, hf⟩ := bcell hb
  have hz := h.z
  exact ⟨Nat.lt_of_lt_of_le hz hb.size, (hc _ _ hz).trans h.c0, (hc _ _ hz).trans h.c1, (hc _ _ hz).trans h.c2, (hf _ _ hz).trans h.f0, (hf _ _ hz).trans h.f1, (hf _ _ hz).trans h.f2⟩
theorem B3.new (w : World) (x0 x1 x2 : Value) (t : TypeId) : B3 (w.alloc (.cells #[x0, x1, x2] t)) w.heap.size x0 x1 x2 :=
  ⟨by simp, by simp [go_sem], by simp [go_sem], by simp [go_sem], by simp [go_sem], by simp [go_sem], by simp [go_sem]⟩
theorem B3.other {w : World} {b : Nat} {x0 x1 x2 : Value} (h : B3 w b x0 x1 x2) (c o : Nat) (y : Value) (hne : b ≠ c) : B3 (w.setCell ⟨c, o, none⟩ y) b x0 x1 x2 := by
  have e := Below.heap_setCell w ⟨c, o, none⟩ y b hne
  exact ⟨by simpa [World.setCell] using h.z, (World.cell?_of_block (w := w) e).trans h.c0, (World.cell?_of_block (w := w) e).trans h.c1, (World.cell?_of_block (w := w) e).trans h.c2, (World.frozen?_of_block (w := w) e).trans h.f0, (World.frozen?_of_block (w := w) e).trans h.f1, (World.frozen?_of_block (w := w) e).trans h.f2⟩
theorem B3.set {w : World} {b : Nat} {x0 x1 x2 : Value} (h : B3 w b x0 x1 x2) (y0 y1 y2 : Value) : B3 (((w.setCell ⟨b, 0, none⟩ y0).setCell ⟨b, 1, none⟩ y1).setCell ⟨b, 2, none⟩ y2) b y0 y1 y2 :=
  ⟨by simpa [World.setCell] using h.z, by simp [go_sem, h.c0, h.c1, h.c2], by simp [go_sem, h.c0, h.c1, h.c2], by simp [go_sem, h.c0, h.c1, h.c2], by simp [h.f0], by simp [h.f1], by simp [h.f2]⟩
theorem B3.set0 {w : World} {b : Nat} {x0 x1 x2 : Value} (h : B3 w b x0 x1 x2) (y : Value) : B3 (w.setCell ⟨b, 0, none⟩ y) b y x1 x2 :=
  ⟨by simpa [World.setCell] using h.z, by simp [go_sem, h.c0, h.c1, h.c2], by simp [go_sem, h.c0, h.c1, h.c2], by simp [go_sem, h.c0, h.c1, h.c2], by simp [h.f0], by simp [h.f1], by simp [h.f2]⟩
theorem B3.set1 {w : World} {b : Nat} {x0 x1 x2 : Value} (h : B3 w b x0 x1 x2) (y : Value) : B3 (w.setCell ⟨b, 1, none⟩ y) b x0 y x2 :=
  ⟨by simpa [World.setCell] using h.z, by simp [go_sem, h.c0, h.c1, h.c2], by simp [go_sem, h.c0, h.c1, h.c2], by simp [go_sem, h.c0, h.c1, h.c2], by simp [h.f0], by simp [h.f1], by simp [h.f2]⟩
theorem B3.set2 {w : World} {b : Nat} {x0 x1 x2 : Value} (h : B3 w b x0 x1 x2) (y : Value) : B3 (w.setCell ⟨b, 2, none⟩ y) b x0 x1 y :=
  ⟨by simpa [World.setCell] using h.z, by simp [go_sem, h.c0, h.c1, h.c2], by simp [go_sem, h.c0, h.c1, h.c2], by simp [go_sem, h.c0, h.c1, h.c2], by simp [h.f0], by simp [h.f1], by simp [h.f2]⟩

/-- A struct of four cells, of the call's own. -/
structure B4 (w : World) (b : Nat) (x0 x1 x2 x3 : Value) : Prop where
  z : b < w.heap.size
  c0 : w.cell? ⟨b, 0, none⟩ = some x0
  c1 : w.cell? ⟨b, 1, none⟩ = some x1
  c2 : w.cell? ⟨b, 2, none⟩ = some x2
  c3 : w.cell? ⟨b, 3, none⟩ = some x3
  f0 : w.frozen? ⟨b, 0, none⟩ = false
  f1 : w.frozen? ⟨b, 1, none⟩ = false
  f2 : w.frozen? ⟨b, 2, none⟩ = false
  f3 : w.frozen? ⟨b, 3, none⟩ = false
theorem B4.below {w w' : World} {b : Nat} {x0 x1 x2 x3 : Value} (h : B4 w b x0 x1 x2 x3) (hb : Below w.heap.size w w') : B4 w' b x0 x1 x2 x3 := by
  obtain ⟨hc, hf⟩ := bcell hb
  have hz := h.z
  exact ⟨Nat.lt_of_lt_of_le hz hb.size, (hc _ _ hz).trans h.c0, (hc _ _ hz).trans h.c1, (hc _ _ hz).trans h.c2, (hc _ _ hz).trans h.c3, (hf _ _ hz).trans h.f0, (hf _ _ hz).trans h.f1, (hf _ _ hz).trans h.f2, (hf _ _ hz).trans h.f3⟩
theorem B4.new (w : World) (x0 x1 x2 x3 : Value) (t : TypeId) : B4 (w.alloc (.cells #[x0, x1, x2, x3] t)) w.heap.size x0 x1 x2 x3 :=
  ⟨by simp, by simp [go_sem], by simp [go_sem], by simp [go_sem], by simp [go_sem], by simp [go_sem], by simp [go_sem], by simp [go_sem], by simp [go_sem]⟩
theorem B4.other {w : World} {b : Nat} {x0 x1 x2 x3 : Value} (h : B4 w b x0 x1 x2 x3) (c o : Nat) (y : Value) (hne : b ≠ c) : B4 (w.setCell ⟨c, o, none⟩ y) b x0 x1 x2 x3 := by
  have e := Below.heap_setCell w ⟨c, o, none⟩ y b hne
  exact ⟨by simpa [World.setCell] using h.z, (World.cell?_of_block (w := w) e).trans h.c0, (World.cell?_of_block (w := w) e).trans h.c1, (World.cell?_of_block (w := w) e).trans h.c2, (World.cell?_of_block (w := w) e).trans h.c3, (World.frozen?_of_block (w := w) e).trans h.f0, (World.frozen?_of_block (w := w) e).trans h.f1, (World.frozen?_of_block (w := w) e).trans h.f2, (World.frozen?_of_block (w := w) e).trans h.f3⟩
theorem B4.set0 {w : World} {b : Nat} {x0 x1 x2 x3 : Value} (h : B4 w b x0 x1 x2 x3) (y : Value) : B4 (w.setCell ⟨b, 0, none⟩ y) b y x1 x2 x3 :=
  ⟨by simpa [World.setCell] using h.z, by simp [go_sem, h.c0], by simp [go_sem, h.c1], by simp [go_sem, h.c2], by simp [go_sem, h.c3], by simp [h.f0], by simp [h.f1], by simp [h.f2], by simp [h.f3]⟩
theorem B4.set1 {w : World} {b : Nat} {x0 x1 x2 x3 : Value} (h : B4 w b x0 x1 x2 x3) (y : Value) : B4 (w.setCell ⟨b, 1, none⟩ y) b x0 y x2 x3 :=
  ⟨by simpa [World.setCell] using h.z, by simp [go_sem, h.c0], by simp [go_sem, h.c1], by simp [go_sem, h.c2], by simp [go_sem, h.c3], by simp [h.f0], by simp [h.f1], by simp [h.f2], by simp [h.f3]⟩
theorem B4.set2 {w : World} {b : Nat} {x0 x1 x2 x3 : Value} (h : B4 w b x0 x1 x2 x3) (y : Value) : B4 (w.setCell ⟨b, 2, none⟩ y) b x0 x1 y x3 :=
  ⟨by simpa [World.setCell] using h.z, by simp [go_sem, h.c0], by simp [go_sem, h.c1], by simp [go_sem, h.c2], by simp [go_sem, h.c3], by simp [h.f0], by simp [h.f1], by simp [h.f2], by simp [h.f3]⟩
theorem B4.set3 {w : World} {b : Nat} {x0 x1 x2 x3 : Value} (h : B4 w b x0 x1 x2 x3) (y : Value) : B4 (w.setCell ⟨b, 3, none⟩ y) b x0 x1 x2 y :=
  ⟨by simpa [World.setCell] using h.z, by simp [go_sem, h.c0], by simp [go_sem, h.c1], by simp [go_sem, h.c2], by simp [go_sem, h.c3], by simp [h.f0], by simp [h.f1], by simp [h.f2], by simp [h.f3]⟩
theorem B4.set {w : World} {b : Nat} {x0 x1 x2 x3 : Value} (h : B4 w b x0 x1 x2 x3) (y0 y1 y2 y3 : Value) : B4 ((((w.setCell ⟨b, 0, none⟩ y0).setCell ⟨b, 1, none⟩ y1).setCell ⟨b, 2, none⟩ y2).setCell ⟨b, 3, none⟩ y3) b y0 y1 y2 y3 := (((h.set0 y0).set1 y1).set2 y2).set3 y3
theorem bset1 {B : Nat} {a w : World} (h : Below B a w) (p i : Nat) (x : Value) (hp : B ≤ p) : Below B a (w.setCell ⟨p, i, none⟩ x) := h.setCell (p := ⟨p, i, none⟩) hp x
theorem bset3 {B : Nat} {a w : World} (h : Below B a w) (p : Nat) (x0 x1 x2 : Value) (hp : B ≤ p) : Below B a (((w.setCell ⟨p, 0, none⟩ x0).setCell ⟨p, 1, none⟩ x1).setCell ⟨p, 2, none⟩ x2) :=
  bset1 (bset1 (bset1 h p 0 x0 hp) p 1 x1 hp) p 2 x2 hp
theorem bset4 {B : Nat} {a w : World} (h : Below B a w) (p : Nat) (x0 x1 x2 x3 : Value) (hp : B ≤ p) : Below B a ((((w.setCell ⟨p, 0, none⟩ x0).setCell ⟨p, 1, none⟩ x1).setCell ⟨p, 2, none⟩ x2).setCell ⟨p, 3, none⟩ x3) :=
  bset1 (bset3 h p x0 x1 x2 hp) p 3 x3 hp

/-! ### The next byte -/
def bAt (B : List Int) (A : Nat) : Nat := (B.getD A 0).toNat
def aAt (B : List Int) (A : Nat) : Nat := if A < B.length then A + 1 else A
theorem bAt_lt {B : List Int} (h : Byts B) (A : Nat) : bAt B A < 256 := by have := h.getD A; unfold bAt; omega
theorem bAt_get {B : List Int} (h : Byts B) (A : Nat) : B.getD A 0 = (bAt B A : Int) := by have := h.getD A; unfold bAt; omega
theorem bAt_past {B : List Int} {A : Nat} (h : B.length ≤ A) : bAt B A = 0 := by unfold bAt; rw [List.getD_eq_getElem?_getD, List.getElem?_eq_none h]; rfl
theorem and24 (C : Nat) (h : C < 2 ^ 64) : bits .and .u64 (C : Int) 16777215 = ((C % 16777216 : Nat) : Int) := by
  have := bits_mask .u64 64 (by decide) wraps_u64 24 (by decide) (C : Int) (by omega) (by omega)
  simpa using this
theorem or8 (c y : Nat) (hc : c < 16777216) (hy : y < 256) : bits .or .u64 ((c * 256 : Nat) : Int) (y : Int) = ((c * 256 + y : Nat) : Int) := by
  rw [bits_join .u64 64 (by decide) wraps_u64 8 _ _ (by omega) (by omega) (by omega) (by omega) (by omega) (by omega)]
  simp

/-- A byte of a row, in memory. -/
theorem Rw.at {k : IntKind} {w : World} {a : Option Addr} {cap : Nat} {xs : List Int} (h : Rw k w (.slice a xs.length cap) xs) (i : Nat) (hi : i < xs.length) : ∃ b off, a = some ⟨b, off, none⟩ ∧ b < w.heap.size ∧ w.cell? ⟨b, off + i, none⟩ = some (.int k (xs.getD i 0)) := by
  obtain ⟨a', cap', he, ha⟩ := h
  simp only [Value.slice.injEq] at he
  obtain ⟨rfl, _, rfl⟩ := he
  obtain ⟨b, off, rfl, hb, hc⟩ := ha.resolve_left (by intro h; subst h; simp at hi)
  exact ⟨b, off, rfl, hb, hc i hi⟩

set_option maxHeartbeats 1000000 in
theorem nextByte_any (C R A : Nat) (a : Option Addr) (cap : Nat) (B : List Int) (w : World) (hv : Rw .u8 w (.slice a B.length cap) B) (hB : Byts B) (hl : B.length ≤ 5000) (hC : C < 4294967296) (hA : A < 9223372036854775808) :
    Calls Try.prog 45 #[.agg #[.int .u64 C, .int .u32 R, .slice a B.length cap, .int .i64 A]] w fun e w' => e = .returned (.agg #[.int .u64 ((C % 16777216 * 256 + bAt B A : Nat) : Int), .int .u32 R, .slice a B.length cap, .int .i64 (aAt B A : Nat)]) ∧ Below w.heap.size w w' := by
  have h24 := and24 C (by omega)
  have hc : C % 16777216 < 16777216 := Nat.mod_lt _ (by decide)
  have h8 := or8 (C % 16777216) (bAt B A) hc (bAt_lt hB A)
  have hb8 := bAt_lt hB A
  have hg := bAt_get hB A
  generalize C % 16777216 = c at h24 hc h8 ⊢
  have hmul : ((c : Int) * 2 ^ 8) = ((c * 256 : Nat) : Int) := by simp
  have hW := below2 w (.cells #[.int .u64 C, .int .u32 R, .slice a B.length cap, .int .i64 A] 42) (.cells #[.int .u64 0, .int .u32 0, .slice none 0 0, .int .i64 0] 42)
  by_cases h : A < B.length
  · have hA' : aAt B A = A + 1 := by unfold aAt; rw [if_pos h]
    rw [hA', show ((A + 1 : Nat) : Int) = (A : Int) + 1 by omega]
    obtain ⟨b, off, rfl, hb, hcell⟩ := hv.at A h
    rw [hg] at hcell
    generalize bAt B A = y at *
    have i0 : (0 : Int) ≤ (A : Int) := by omega
    have i1 : (A : Int) < (B.length : Int) := by omega
    have i2 : IntKind.i64.wrap (A : Int) = A := wraps_i64 _ (by omega) (by omega)
    have i3 : IntKind.u64.wrap (y : Int) = y := nat_u64 _ (by omega)
    have hbs : b ≠ w.heap.size := by omega
    rw [show ((c * 256 : Nat) : Int) = (c : Int) * 256 by omega] at h8
    go_enter Try.func45, Try.ntmps45
    go_wp2
    have hcell2 : ((w.alloc (.cells #[.int .u64 ((c : Int) * 256), .int .u32 R, .slice (some ⟨b, off, none⟩) B.length cap, .int .i64 A] 42)).alloc (.cells #[.int .u64 0, .int .u32 0, .slice none 0 0, .int .i64 0] 42)).cell? ⟨b, off + A, none⟩ = some (.int .u8 y) := ((bcell (below2 w _ _)).1 b _ hb).trans hcell
    go_region
    go_wp2
    exact bodyPost_ret (v := .agg #[.int .u64 ((c * 256 + y : Nat) : Int), .int .u32 R, .slice (some ⟨b, off, none⟩) B.length cap, .int .i64 ((A : Int) + 1)]) (by simp [results, Try.results45, go_sem]) rfl ⟨rfl, (below2 _ _ _).drew⟩
  · have hA' : aAt B A = A := by unfold aAt; rw [if_neg h]
    have hy : bAt B A = 0 := bAt_past (by omega)
    rw [hA', hy, Nat.add_zero]
    clear h8 hg hb8 hA' hy
    go_enter Try.func45, Try.ntmps45
    go_wp2
    exact bodyPost_ret (v := .agg #[.int .u64 ((c : Int) * 256), .int .u32 R, .slice a B.length cap, .int .i64 A]) (by simp [results, Try.results45, go_sem]) rfl ⟨by rw [show ((c : Int) * 256) = ((c * 256 : Nat) : Int) by omega], below2 _ _ _⟩
end Go.Proofs.Ytocccimlojeaeaa
