/- The document's examples. -/
import Derived.Test.YtjehjpibgficcaaSe
namespace Go.Proofs.Ytjehjpibgficcaa
open Go.RowKit
set_option linter.unusedVariables false
set_option linter.unusedSimpArgs false

theorem lit3 (w : World) (x y z : Int) (t : TypeId) : Rw .i64 (w.alloc (.cells #[.int .i64 x, .int .i64 y, .int .i64 z] t)) (.slice (some ⟨w.heap.size, 0, none⟩) 3 3) [x, y, z] :=
  Rw.of_row (e := t) (cur := [x, y, z]) (heap_alloc_last w _) rfl
theorem lit3b (w : World) (o : Obj) (x y z : Int) (t : TypeId) : Rw .i64 ((w.alloc o).alloc (.cells #[.int .i64 x, .int .i64 y, .int .i64 z] t)) (.slice (some ⟨w.heap.size + 1, 0, none⟩) 3 3) [x, y, z] := by
  have := lit3 (w.alloc o) x y z t
  rw [World.size_alloc] at this
  exact this
theorem sk1 (w : World) : Calls Try.prog 9 #[.int .i64 (-3), .int .i64 2] w fun e w' => e = .returned (.tuple #[.int .i64 (-3), .int .i64 5, .int .i64 0]) ∧ Below w.heap.size w w' := cCouple_any (-3) 2 w
theorem sk2 (w : World) : Calls Try.prog 10 #[.int .i64 (-3), .int .i64 5] w fun e w' => e = .returned (.tuple #[.int .i64 (-3), .int .i64 2, .int .i64 0]) ∧ Below w.heap.size w w' := cPart_any (-3) 5 w
theorem sk3 (w : World) (v1 v2 : Value) (h1 : Rw .i64 w v1 [3, 2, 3]) (h2 : Rw .i64 w v2 [2, 3, -3]) : Calls Try.prog 15 #[v1, v2] w fun e w' => ∃ g1 g2, e = .returned (.tuple #[.slice (some ⟨g1, 0, none⟩) 3 3, .slice (some ⟨g2, 0, none⟩) 3 3, .int .i64 0]) ∧ Rw .i64 w' (.slice (some ⟨g1, 0, none⟩) 3 3) [3, 3, -3] ∧ Rw .i64 w' (.slice (some ⟨g2, 0, none⟩) 3 3) [1, -1, -6] ∧ Below w.heap.size w w' := by
  refine (cAll_ok v1 v2 [3, 2, 3] [2, 3, -3] w h1 h2 (by decide) (by decide)).mono ?_
  rintro e w' ⟨g1, g2, rfl, hr1, hr2, hB⟩
  exact ⟨g1, g2, rfl, hr1.rw rfl, hr2.rw rfl, hB⟩
set_option maxHeartbeats 2000000 in
theorem knows_any (w : World) : Calls Try.prog 13 #[] w fun e w' => e = .returned (.bool true) ∧ Below w.heap.size w w' := by
  go_enter Try.func13, Try.ntmps13
  go_wp2_with (first
    | (go_at_call 9; refine (sk1 _).mono ?_; rintro e w1 ⟨rfl, hb1⟩)
    | (go_at_call 10; refine (sk2 _).mono ?_; rintro e w2 ⟨rfl, hb2⟩; replace hb2 := bthen' hb1 hb2)
    | (go_at_call 15; refine (sk3 _ _ _ ((lit3 w2 3 2 3 _).below (below1 _ _)) (lit3b _ _ 2 3 (-3) _)).mono ?_; rintro e w3 ⟨g1, g2, rfl, hr1, hr2, hb3⟩; replace hb3 := bthen' hb2 (bthen' (below2 _ _ _) hb3))
    | (go_at_call_of 16 (Value.slice (some ⟨g1, 0, none⟩) 3 3); refine (same64_yes _ _ [3, 3, -3] _ (hr1.below (below1 _ _)) (lit3 _ 3 3 (-3) _) (by decide)).mono ?_; rintro e w4 ⟨rfl, hb4⟩; replace hb4 := bthen' (below1 _ _) hb4; have hr2' := hr2.below hb4; replace hb4 := bthen' hb3 hb4)
    | (go_at_call_of 16 (Value.slice (some ⟨g2, 0, none⟩) 3 3); refine (same64_yes _ _ [1, -1, -6] _ (hr2'.below (below1 _ _)) (lit3 _ 1 (-1) (-6) _) (by decide)).mono ?_; rintro e w5 ⟨rfl, hb5⟩; replace hb5 := bthen' hb4 (bthen' (below1 _ _) hb5)))
  go_ret
  exact ⟨rfl, hb5⟩
end Go.Proofs.Ytjehjpibgficcaa
