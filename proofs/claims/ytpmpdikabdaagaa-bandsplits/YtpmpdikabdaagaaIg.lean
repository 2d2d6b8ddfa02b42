/- Contract of the examples at the end of all statements. -/
import Derived.Test.YtpmpdikabdaagaaIf
namespace Go.Proofs.Ytpmpdikabdaagaa
open Go.RowKit
set_option linter.unusedVariables false
set_option linter.unusedSimpArgs false

def C0 : List Int := [1, 0, 3, -4, 0, 0, 0, 0, 2, 0, 0, 0, 0, 0, 0, 0]
theorem e_gn : gn [3, -4] = 5 := by decide
theorem e_gns : gns C0 = [1, 0, 5, 0, 3] := by decide
theorem e_v5 : vlI 5 = 4 := by decide
theorem e_v1 : vlI 1 = 1 := by decide
theorem e_v0 : vlI 0 = 0 := by decide
theorem e_fair : fairX [3, -4] = true := by decide
theorem e_fair2 : fairF C0 = true := by decide
theorem lit16 (w : World) (a b c d e f g h i j k l m n o p : Int) (t : TypeId) : Rw .i64 (w.alloc (.cells #[.int .i64 a, .int .i64 b, .int .i64 c, .int .i64 d, .int .i64 e, .int .i64 f, .int .i64 g, .int .i64 h, .int .i64 i, .int .i64 j, .int .i64 k, .int .i64 l, .int .i64 m, .int .i64 n, .int .i64 o, .int .i64 p] t)) (.slice (some ⟨w.heap.size, 0, none⟩) 16 16) [a, b, c, d, e, f, g, h, i, j, k, l, m, n, o, p] :=
  Rw.of_row (e := t) (cur := [a, b, c, d, e, f, g, h, i, j, k, l, m, n, o, p]) (heap_alloc_last w _) rfl
theorem lit5 (w : World) (a b c d e : Int) (t : TypeId) : Rw .i64 (w.alloc (.cells #[.int .i64 a, .int .i64 b, .int .i64 c, .int .i64 d, .int .i64 e] t)) (.slice (some ⟨w.heap.size, 0, none⟩) 5 5) [a, b, c, d, e] :=
  Rw.of_row (e := t) (cur := [a, b, c, d, e]) (heap_alloc_last w _) rfl
theorem k1 (w : World) : Calls Try.prog 17 #[.slice (some ⟨w.heap.size, 0, none⟩) 2 2] (w.alloc (.cells #[.int .i64 3, .int .i64 (-4)] 2)) fun e w' => e = .returned (.tuple #[.int .i64 5, .int .i64 0]) ∧ Below w.heap.size w w' := by
  refine Calls.mono (gain_ok _ 2 [3, -4] _ (lit2 w 3 (-4) _) (fits_fair e_fair) e_fair (by decide)) ?_
  rintro e w' ⟨rfl, rfl⟩
  exact ⟨by rw [e_gn]; rfl, below1 _ _⟩
theorem k2 (w : World) {g : Nat} (h : Rw .i64 w (.slice (some ⟨g, 0, none⟩) 16 16) C0) : Calls Try.prog 21 #[.slice (some ⟨g, 0, none⟩) 16 16] w fun e w' => ∃ g : Nat, e = .returned (.tuple #[.slice (some ⟨g, 0, none⟩) 5 5, .int .i64 0]) ∧ Rw .i64 w' (.slice (some ⟨g, 0, none⟩) 5 5) [1, 0, 5, 0, 3] ∧ Below w.heap.size w w' := by
  have := gains_ok (some ⟨g, 0, none⟩) 16 C0 w h (fits_fair (fairF_parts e_fair2).2) e_fair2
  rw [e_gns] at this
  exact this
set_option maxRecDepth 10000 in
set_option maxHeartbeats 2000000 in
theorem knows_any (w : World) : Calls Try.prog 15 #[] w fun e w' => e = .returned (.bool true) ∧ Below w.heap.size w w' := by
  have hf := fun w => from_any 3 w
  have hw := fun w => width_any 3 w
  have h5 := fun w => value_any 5 w
  have h1 := fun w => value_any 1 w
  have h0 := fun w => value_any 0 w
  rw [e_v5] at h5
  rw [e_v1] at h1
  rw [e_v0] at h0
  rw [show frI 3 = 4 by rfl] at hf
  rw [show wdI 3 = 4 by rfl] at hw
  go_enter Try.func15, Try.ntmps15
  go_wp2_with (first | (go_at_call 17; refine (k1 _).mono ?_; rintro e w1 ⟨rfl, hb1⟩) | (go_at_call 21; refine (k2 _ (lit16 _ 1 0 3 (-4) 0 0 0 0 2 0 0 0 0 0 0 0 _)).mono ?_; rintro e w2 ⟨g2, rfl, hr2, hb2⟩; have hb2 := bthen' hb1 (bthen' (below1 _ _) hb2)) | (go_at_call 9; refine (hf _).mono ?_; rintro e w9 ⟨rfl, h9⟩; have h9 := h9.symm; subst h9) | (go_at_call 11; refine (hw _).mono ?_; rintro e w9 ⟨rfl, h9⟩; have h9 := h9.symm; subst h9) | (go_at_call_of 13 (Value.int .i64 5); refine (h5 _).mono ?_; rintro e w9 ⟨rfl, h9⟩; have h9 := h9.symm; subst h9) | (go_at_call_of 13 (Value.int .i64 1); refine (h1 _).mono ?_; rintro e w9 ⟨rfl, h9⟩; have h9 := h9.symm; subst h9) | (go_at_call_of 13 (Value.int .i64 0); refine (h0 _).mono ?_; rintro e w9 ⟨rfl, h9⟩; have h9 := h9.symm; subst h9) | (go_at_call 25; refine (same_yes _ _ [1, 0, 5, 0, 3] _ (hr2.below (below1 _ _)) (lit5 _ 1 0 5 0 3 _) (by decide)).mono ?_; rintro e w5 ⟨rfl, hb5⟩; have hb5 := bthen' hb2 (bthen' (below1 _ _) hb5)))
  go_ret
  exact ⟨rfl, hb5⟩
end Go.Proofs.Ytpmpdikabdaagaa
