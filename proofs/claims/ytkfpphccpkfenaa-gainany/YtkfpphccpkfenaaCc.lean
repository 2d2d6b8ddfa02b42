/- Structs of a call's own in memory; a decoder: the next byte, and what opens it. -/
import Derived.Test.YtkfpphccpkfenaaCb
import Derived.Deep.RegionHeld3
namespace Go.Proofs.Ytkfpphccpkfenaa
open Go.RowKit
set_option linter.unusedVariables false
set_option linter.unusedSimpArgs false

/-! ### The next byte -/
def bAt (B : List Int) (A : Nat) : Nat := (B.getD A 0).toNat
def aAt (B : List Int) (A : Nat) : Nat := if A < B.length then A + 1 else A
theorem bAt_lt {B : List Int} (h : Byts B) (A : Nat) : bAt B A < 256 := by have := h.getD A; unfold bAt; omega
theorem bAt_get {B : List Int} (h : Byts B) (A : Nat) : B.getD A 0 = (bAt B A : Int) := by have := h.getD A; unfold bAt; omega
theorem bAt_past {B : List Int} {A : Nat} (h : B.length ≤ A) : bAt B A = 0 := by unfold bAt; rw [List.getD_eq_getElem?_getD, List.getElem?_eq_none h]; rfl
theorem and24 (C : Nat) (h : C < 2 ^ 64) : bits .and .u64 (C : Int) 16777215 = ((C % 16777216 : Nat) : Int) := by
  have := bits_mask .u64 64 (by decide) wraps_u64 24 (by decide) (C : Int) (by omega) (by omega)
  simpa using this
theorem or8 (c y : Nat) (hc : c < 16777216) (hy : y < 256) : bits .or .u64 ((c * 256 : Nat) : Int) (y : Int) = ((c * 256 + y : Nat) : Int) := by
  rw [bits_join .u64 64 (by decide) wraps_u64 8 _ _ (by omega) (by omega) (by omega) (by omega) (by omega) (by omega)]
  simp

set_option maxHeartbeats 1000000 in
theorem nextByte_any (C R A : Nat) (a : Option Addr) (cap : Nat) (B : List Int) (w : World) (hv : Rw .u8 w (.slice a B.length cap) B) (hB : Byts B) (hl : B.length ≤ 5000) (hC : C < 4294967296) (hA : A < 9223372036854775808) :
    Calls Try.prog 41 #[.agg #[.int .u64 C, .int .u32 R, .slice a B.length cap, .int .i64 A]] w fun e w' => e = .returned (.agg #[.int .u64 ((C % 16777216 * 256 + bAt B A : Nat) : Int), .int .u32 R, .slice a B.length cap, .int .i64 (aAt B A : Nat)]) ∧ Below w.heap.size w w' := by
  have h24 := and24 C (by omega)
  have hc : C % 16777216 < 16777216 := Nat.mod_lt _ (by decide)
  have h8 := or8 (C % 16777216) (bAt B A) hc (bAt_lt hB A)
  have hb8 := bAt_lt hB A
  have hg := bAt_get hB A
  generalize C % 16777216 = c at h24 hc h8 ⊢
  have hmul : ((c : Int) * 2 ^ 8) = ((c * 256 : Nat) : Int) := by simp
  have hW := below2 w (.cells #[.int .u64 C, .int .u32 R, .slice a B.length cap, .int .i64 A] 30) (.cells #[.int .u64 0, .int .u32 0, .slice none 0 0, .int .i64 0] 30)
  by_cases h : A < B.length
  · have hA' : aAt B A = A + 1 := by unfold aAt; rw [if_pos h]
    rw [hA', show ((A + 1 : Nat) : Int) = (A : Int) + 1 by omega]
    obtain ⟨b, off, rfl, hb, hcell⟩ := hv.at A h
    rw [hg] at hcell
    generalize bAt B A = y at *
    have i0 : (0 : Int) ≤ (A : Int) := by omega
    have i1 : (A : Int) < (B.length : Int) := by omega
    have i2 : IntKind.i64.wrap (A : Int) = A := wraps_i64 _ (by omega) (by omega)
    have i3 : IntKind.u64.wrap (y : Int) = y := nat_u64 _ (by omega)
    have hbs : b ≠ w.heap.size := by omega
    rw [show ((c * 256 : Nat) : Int) = (c : Int) * 256 by omega] at h8
    go_enter Try.func41, Try.ntmps41
    go_wp2
    have hcell2 : ((w.alloc (.cells #[.int .u64 ((c : Int) * 256), .int .u32 R, .slice (some ⟨b, off, none⟩) B.length cap, .int .i64 A] 30)).alloc (.cells #[.int .u64 0, .int .u32 0, .slice none 0 0, .int .i64 0] 30)).cell? ⟨b, off + A, none⟩ = some (.int .u8 y) := ((bcell (below2 w _ _)).1 b _ hb).trans hcell
    go_region
    go_wp2
    exact bodyPost_ret (v := .agg #[.int .u64 ((c * 256 + y : Nat) : Int), .int .u32 R, .slice (some ⟨b, off, none⟩) B.length cap, .int .i64 ((A : Int) + 1)]) (by simp [results, Try.results41, go_sem]) rfl ⟨rfl, (below2 _ _ _).drew⟩
  · have hA' : aAt B A = A := by unfold aAt; rw [if_neg h]
    have hy : bAt B A = 0 := bAt_past (by omega)
    rw [hA', hy, Nat.add_zero]
    clear h8 hg hb8 hA' hy
    go_enter Try.func41, Try.ntmps41
    go_wp2
    exact bodyPost_ret (v := .agg #[.int .u64 ((c : Int) * 256), .int .u32 R, .slice a B.length cap, .int .i64 A]) (by simp [results, Try.results41, go_sem]) rfl ⟨by rw [show ((c : Int) * 256) = ((c * 256 : Nat) : Int) by omega], below2 _ _ _⟩
end Go.Proofs.Ytkfpphccpkfenaa
