/- Contract of the examples at the end of all statements; what the laws hand from one call to the next. -/
import Derived.Test.YteboljbflcmglaaGf
namespace Go.Proofs.Yteboljbflcmglaa
open Go.RowKit
set_option linter.unusedVariables false
set_option linter.unusedSimpArgs false

theorem fits_bd {lo hi : Int} {x : List Int} (h : Bd lo hi x) (h1 : -9223372036854775808 ≤ lo) (h2 : hi ≤ 9223372036854775807) : Fits x := fun j => by
  by_cases hj : j < x.length
  · have := h j hj; omega
  · rw [List.getD_eq_getElem?_getD, List.getElem?_eq_none (by omega)]; simp
theorem lit2 (w : World) (x y : Int) (t : TypeId) : Rw .i64 (w.alloc (.cells #[.int .i64 x, .int .i64 y] t)) (.slice (some ⟨w.heap.size, 0, none⟩) 2 2) [x, y] :=
  Rw.of_row (e := t) (cur := [x, y]) (heap_alloc_last w _) rfl
theorem lit4 (w : World) (x y z u : Int) (t : TypeId) : Rw .i64 (w.alloc (.cells #[.int .i64 x, .int .i64 y, .int .i64 z, .int .i64 u] t)) (.slice (some ⟨w.heap.size, 0, none⟩) 4 4) [x, y, z, u] :=
  Rw.of_row (e := t) (cur := [x, y, z, u]) (heap_alloc_last w _) rfl
theorem bd1 : Bd (-16777216) 16777216 [1, 4, 5, 5] := fun j hj => by
  have : j = 0 ∨ j = 1 ∨ j = 2 ∨ j = 3 := by simp at hj; omega
  rcases this with rfl | rfl | rfl | rfl <;> decide
theorem bd2 : Bd (-67108864) 67108864 [3, 3, 3, 0] := fun j hj => by
  have : j = 0 ∨ j = 1 ∨ j = 2 ∨ j = 3 := by simp at hj; omega
  rcases this with rfl | rfl | rfl | rfl <;> decide
theorem bd3 : Bd (-16777216) 16777216 [4, 1] := fun j hj => by
  have : j = 0 ∨ j = 1 := by simp at hj; omega
  rcases this with rfl | rfl <;> decide
theorem e_f1 : fw (1 + 1) [1, 4, 5, 5] = [3, 3, 3, 0] := by decide
theorem e_i1 : iv (1 + 1) [3, 3, 3, 0] = [1, 4, 5, 5] := by decide
theorem e_f2 : fw (0 + 1) [4, 1] = [2, -3] := by decide
theorem k1 (w : World) : Calls Try.prog 11 #[.slice (some ⟨w.heap.size, 0, none⟩) 4 4] (w.alloc (.cells #[.int .i64 1, .int .i64 4, .int .i64 5, .int .i64 5] 2)) fun e w' => ∃ g : Nat, e = .returned (.tuple #[.slice (some ⟨g, 0, none⟩) 4 4, .int .i64 0]) ∧ Rw .i64 w' (.slice (some ⟨g, 0, none⟩) 4 4) [3, 3, 3, 0] ∧ Below w.heap.size w w' := by
  refine Calls.mono (forward_ok _ [1, 4, 5, 5] 1 _ (lit4 w 1 4 5 5 _) (by omega) rfl bd1 (fits_bd bd1 (by omega) (by omega))) ?_
  rintro e w' ⟨g, rfl, _, hb, hB⟩
  rw [e_f1] at hb
  exact ⟨g, rfl, hb.rw rfl, bthen (below1 _ _) hB (by simp)⟩
theorem k3 (w : World) : Calls Try.prog 11 #[.slice (some ⟨w.heap.size, 0, none⟩) 2 2] (w.alloc (.cells #[.int .i64 4, .int .i64 1] 2)) fun e w' => ∃ g : Nat, e = .returned (.tuple #[.slice (some ⟨g, 0, none⟩) 2 2, .int .i64 0]) ∧ Rw .i64 w' (.slice (some ⟨g, 0, none⟩) 2 2) [2, -3] ∧ Below w.heap.size w w' := by
  refine Calls.mono (forward_ok _ [4, 1] 0 _ (lit2 w 4 1 _) (by omega) rfl bd3 (fits_bd bd3 (by omega) (by omega))) ?_
  rintro e w' ⟨g, rfl, _, hb, hB⟩
  rw [e_f2] at hb
  exact ⟨g, rfl, hb.rw rfl, bthen (below1 _ _) hB (by simp)⟩
theorem k2 (w : World) (g : Nat) (h : Rw .i64 w (.slice (some ⟨g, 0, none⟩) 4 4) [3, 3, 3, 0]) : Calls Try.prog 16 #[.slice (some ⟨g, 0, none⟩) 4 4] w fun e w' => ∃ g : Nat, e = .returned (.tuple #[.slice (some ⟨g, 0, none⟩) 4 4, .int .i64 0]) ∧ Rw .i64 w' (.slice (some ⟨g, 0, none⟩) 4 4) [1, 4, 5, 5] ∧ Below w.heap.size w w' := by
  refine Calls.mono (inverse_ok (some ⟨g, 0, none⟩) 4 [3, 3, 3, 0] 1 w h (by decide) (by omega) rfl bd2 (fits_bd bd2 (by omega) (by omega))) ?_
  rintro e w' ⟨g, rfl, _, hb, hB⟩
  rw [e_i1] at hb
  exact ⟨g, rfl, hb.rw rfl, hB⟩
theorem k4 (w : World) (v : Value) (h : Rw .i64 w v [1, 4, 5, 5]) : Calls Try.prog 13 #[v] w fun e w' => e = .returned (.bool true) ∧ w' = w := by
  have := right_any v [1, 4, 5, 5] w h (fits_bd bd1 (by omega) (by omega)) (by decide)
  rw [show okS 16777216 [1, 4, 5, 5] = true by decide] at this
  exact this
theorem k5 (w : World) : Calls Try.prog 13 #[.slice none 0 0] w fun e w' => e = .returned (.bool false) ∧ w' = w := by
  have := right_any (.slice none 0 0) [] w ⟨none, 0, rfl, .inl rfl⟩ (fun j => by simp) (by decide)
  rw [show okS 16777216 [] = false by decide] at this
  exact this

set_option maxHeartbeats 2000000 in
theorem knows_any (w : World) : Calls Try.prog 10 #[] w fun e w' => e = .returned (.bool true) ∧ Below w.heap.size w w' := by
  go_enter Try.func10, Try.ntmps10
  go_wp2_with (first | (go_at_call_of 11 (Value.slice (some ⟨w.heap.size, 0, none⟩) 4 4); refine (k1 _).mono ?_; rintro e w1 ⟨g1, rfl, hr1, hb1⟩) | (go_at_call 16; refine (k2 _ _ hr1).mono ?_; rintro e w2 ⟨g2, rfl, hr2, hb2⟩) | (go_at_call_of 11 (Value.slice (some ⟨w2.heap.size, 0, none⟩) 2 2); refine (k3 _).mono ?_; rintro e w3 ⟨g3, rfl, hr3, hb3⟩) | (go_at_call_of 14 (Value.slice (some ⟨g1, 0, none⟩) 4 4); refine (same64_yes _ _ [3, 3, 3, 0] _ ((hr1.below (bthen' hb2 hb3)).below (below1 _ _)) (lit4 _ 3 3 3 0 _) (by decide)).mono ?_; rintro e w4 ⟨rfl, hb4⟩; have hb4 := bthen' (below1 _ _) hb4) | (go_at_call_of 14 (Value.slice (some ⟨g2, 0, none⟩) 4 4); refine (same64_yes _ _ [1, 4, 5, 5] _ ((hr2.below (bthen' hb3 hb4)).below (below1 _ _)) (lit4 _ 1 4 5 5 _) (by decide)).mono ?_; rintro e w5 ⟨rfl, hb5⟩; have hb5 := bthen' (below1 _ _) hb5) | (go_at_call_of 14 (Value.slice (some ⟨g3, 0, none⟩) 2 2); refine (same64_yes _ _ [2, -3] _ ((hr3.below (bthen' hb4 hb5)).below (below1 _ _)) (lit2 _ 2 (-3) _) (by decide)).mono ?_; rintro e w6 ⟨rfl, hb6⟩; have hb6 := bthen' (below1 _ _) hb6) | (go_at_call_of 13 (Value.slice (some ⟨g2, 0, none⟩) 4 4); refine (k4 _ _ (hr2.below (bthen' (bthen' hb3 hb4) (bthen' hb5 hb6)))).mono ?_; rintro e w7 ⟨rfl, h7⟩; have h7 := h7.symm; subst h7) | (go_at_call_of 13 (Value.slice none 0 0); refine (k5 _).mono ?_; rintro e w8 ⟨rfl, h8⟩; have h8 := h8.symm; subst h8))
  go_ret
  exact ⟨rfl, bthen' (bthen' (bthen' hb1 hb2) (bthen' hb3 hb4)) (bthen' hb5 hb6)⟩
end Go.Proofs.Yteboljbflcmglaa
