/- Contract of the examples at the end of all statements. -/
import Derived.Test.YtiiiejhdeooabaaFk
namespace Go.Proofs.Ytiiiejhdeooabaa
open Go.RowKit
set_option linter.unusedVariables false
set_option linter.unusedSimpArgs false

theorem lit2 (w : World) (x y : Int) (t : TypeId) : Rw .i64 (w.alloc (.cells #[.int .i64 x, .int .i64 y] t)) (.slice (some ⟨w.heap.size, 0, none⟩) 2 2) [x, y] :=
  Rw.of_row (e := t) (cur := [x, y]) (heap_alloc_last w _) rfl
theorem fits2 (x y : Int) (h1 : -100 ≤ x) (h2 : x ≤ 100) (h3 : -100 ≤ y) (h4 : y ≤ 100) : Fits [x, y] := fun j => by
  match j with
  | 0 => simp; omega
  | 1 => simp; omega
  | j + 2 => simp
theorem e_fnd : fnd [10, -1] 3 = [3, 0] := by decide +kernel
theorem e_sq : sq [3, -4] 2 = 25 := by decide
theorem e_sh1 : tab 2 (shf [0, -2] 7 512) = [0, -7] := by decide +kernel
theorem e_sh2 : tab 2 (shf [1, 1] 100 362) = [71, 71] := by decide +kernel
theorem k1 (w : World) : Calls Try.prog 10 #[.slice (some ⟨w.heap.size, 0, none⟩) 2 2] (w.alloc (.cells #[.int .i64 3, .int .i64 (-4)] 2)) fun e w' => e = .returned (.tuple #[.int .u64 25, .int .i64 0]) ∧ Below w.heap.size w w' := by
  refine Calls.mono (square_ok _ [3, -4] _ (lit2 w 3 (-4) _) (fits2 _ _ (by decide) (by decide) (by decide) (by decide)) (by decide)) ?_
  rintro e w' ⟨rfl, rfl⟩
  exact ⟨rfl, below1 _ _⟩
theorem k2 (w : World) : Calls Try.prog 13 #[.slice (some ⟨w.heap.size, 0, none⟩) 2 2, .int .i64 3] (w.alloc (.cells #[.int .i64 10, .int .i64 (-1)] 2)) fun e w' => ∃ g : Nat, e = .returned (.tuple #[.slice (some ⟨g, 0, none⟩) 2 2, .int .i64 0]) ∧ Rw .i64 w' (.slice (some ⟨g, 0, none⟩) 2 2) [3, 0] ∧ Below w.heap.size w w' := by
  refine Calls.mono (search_ok _ [10, -1] 3 _ (lit2 w 10 (-1) _) (fits2 _ _ (by decide) (by decide) (by decide) (by decide)) (by decide) (by decide)) ?_
  rintro e w' ⟨g, rfl, _, hb, hB⟩
  rw [e_fnd] at hb
  exact ⟨g, rfl, hb.rw rfl, bthen (below1 _ _) hB (by simp)⟩
theorem k3 (w : World) : Calls Try.prog 16 #[.slice (some ⟨w.heap.size, 0, none⟩) 2 2, .int .i64 7] (w.alloc (.cells #[.int .i64 0, .int .i64 (-2)] 3)) fun e w' => ∃ g : Nat, e = .returned (.tuple #[.slice (some ⟨g, 0, none⟩) 2 2, .int .i64 0]) ∧ Rw .i64 w' (.slice (some ⟨g, 0, none⟩) 2 2) [0, -7] ∧ Below w.heap.size w w' := by
  refine Calls.mono (shape_ok _ [0, -2] 7 512 _ (lit2 w 0 (-2) _) (fits2 _ _ (by decide) (by decide) (by decide) (by decide)) (by decide) (by decide) (by decide) ⟨by decide, by decide⟩) ?_
  rintro e w' ⟨g, rfl, _, hb, hB⟩
  have hb' : Blk .i64 2 w' g (tab 2 (shf [0, -2] 7 512)) := hb
  rw [e_sh1] at hb'
  exact ⟨g, rfl, hb'.rw rfl, bthen (below1 _ _) hB (by simp)⟩
theorem k4 (w : World) : Calls Try.prog 16 #[.slice (some ⟨w.heap.size, 0, none⟩) 2 2, .int .i64 100] (w.alloc (.cells #[.int .i64 1, .int .i64 1] 3)) fun e w' => ∃ g : Nat, e = .returned (.tuple #[.slice (some ⟨g, 0, none⟩) 2 2, .int .i64 0]) ∧ Rw .i64 w' (.slice (some ⟨g, 0, none⟩) 2 2) [71, 71] ∧ Below w.heap.size w w' := by
  refine Calls.mono (shape_ok _ [1, 1] 100 362 _ (lit2 w 1 1 _) (fits2 _ _ (by decide) (by decide) (by decide) (by decide)) (by decide) (by decide) (by decide) ⟨by decide, by decide⟩) ?_
  rintro e w' ⟨g, rfl, _, hb, hB⟩
  have hb' : Blk .i64 2 w' g (tab 2 (shf [1, 1] 100 362)) := hb
  rw [e_sh2] at hb'
  exact ⟨g, rfl, hb'.rw rfl, bthen (below1 _ _) hB (by simp)⟩

set_option maxHeartbeats 1000000 in
theorem knows_any (w : World) : Calls Try.prog 9 #[] w fun e w' => e = .returned (.bool true) ∧ Below w.heap.size w w' := by
  go_enter Try.func9, Try.ntmps9
  go_wp2_with (first | (go_at_call 10; refine (k1 _).mono ?_; rintro e w1 ⟨rfl, hb1⟩) | (go_at_call 13; refine (k2 _).mono ?_; rintro e w2 ⟨g2, rfl, hr2, hb2⟩) | (go_at_call_of 16 (Value.int .i64 7); refine (k3 _).mono ?_; rintro e w3 ⟨g3, rfl, hr3, hb3⟩) | (go_at_call_of 16 (Value.int .i64 100); refine (k4 _).mono ?_; rintro e w4 ⟨g4, rfl, hr4, hb4⟩) | (go_at_call 14; refine (same_yes _ _ [3, 0] _ ((hr2.below (bthen' hb3 hb4)).below (below1 _ _)) (lit2 _ 3 0 _) (by decide)).mono ?_; rintro e w5 ⟨rfl, hb5⟩; have hb5 := bthen' (below1 _ _) hb5) | (go_at_call_of 18 (Value.slice (some ⟨g3, 0, none⟩) 2 2); refine (same64_yes _ _ [0, -7] _ ((hr3.below (bthen' hb4 hb5)).below (below1 _ _)) (lit2 _ 0 (-7) _) (by decide)).mono ?_; rintro e w6 ⟨rfl, hb6⟩; have hb6 := bthen' (below1 _ _) hb6) | (go_at_call_of 18 (Value.slice (some ⟨g4, 0, none⟩) 2 2); refine (same64_yes _ _ [71, 71] _ ((hr4.below (bthen' hb5 hb6)).below (below1 _ _)) (lit2 _ 71 71 _) (by decide)).mono ?_; rintro e w7 ⟨rfl, hb7⟩; have hb7 := bthen' (below1 _ _) hb7))
  go_ret
  exact ⟨rfl, bthen' (bthen' (bthen' hb1 hb2) (bthen' hb3 hb4)) (bthen' (bthen' hb5 hb6) hb7)⟩
end Go.Proofs.Ytiiiejhdeooabaa
