/- What the laid table gives; the document's examples. -/
import Derived.Test.YtgmikllbpaekfaaDoorRe
import Derived.Lib.LaidTab
import Derived.MakeChecks
namespace Go.Proofs.YtgmikllbpaekfaaDoor
open Go.RowKit
set_option linter.unusedVariables false
set_option linter.unusedSimpArgs false

/-- What the laid table gives. -/
theorem gPlaces : Tryd.prog.globalNamed "psaltery/floor.places" = some 0 := by kernel_rfl
theorem tPlaces : (Tryd.prog.globals[0]?).map (·.type) = some 42 := by kernel_rfl
theorem wp_of_laid {W : World} (h : laidMetH Tryd.prog [("psaltery/floor.places", Rows.laid_psaltery_floor_places)] W) : Wp W := by
  rw [MakeChecks.laidMetH_plain _ _ _ (by kernel_rfl)] at h
  have hT := Lib.tabIs_of_head (zs := [0, 1, 2, 4, 8, 15]) gPlaces tPlaces Tryd.underlying42 Tryd.underlying3 (by kernel_rfl) (by kernel_rfl) h
  intro k hk
  have hc := hT.cell gPlaces k (by simpa using hk)
  rw [hc]
  match k, hk with
  | 0, _ => rfl
  | 1, _ => rfl
  | 2, _ => rfl
  | 3, _ => rfl
  | 4, _ => rfl
  | 5, _ => rfl

/-- The examples. -/
def L0 : List Int := [0, 0, 0, 4, 8, 1]
def X0 : List Int := [0, 0, 0, 2, 4, 5, 6, 7, 8, 7, 6, 5, 4, 3, 2, 1]
def Y0 : List Int := [1, 1, 1, 1, 2, 4, 5, 8, 11, 8, 5, 4, 2, 2, 1, 1]
def G0 : List Int := [20, 20, 20, 20, 20]
def Z0 : List Int := [10, 10, 10, 10, 10, 10]
theorem l0_ok : flOk L0 = true := by decide
theorem l0_ln : lnL L0 = X0 := by decide
set_option maxRecDepth 10000 in
theorem l0_fl : flL L0 = Y0 := by decide
theorem g0_ok : gokB G0 = true := by decide
theorem g0_fit : fitL G0 3 = Z0 := by decide
theorem flit5 (w : World) (a b c d e : Int) (t : TypeId) : Rw .i64 (w.alloc (.cells #[.int .i64 a, .int .i64 b, .int .i64 c, .int .i64 d, .int .i64 e] t)) (.slice (some ⟨w.heap.size, 0, none⟩) 5 5) [a, b, c, d, e] :=
  Rw.of_row (e := t) (cur := [a, b, c, d, e]) (heap_alloc_last w _) rfl
theorem flit6 (w : World) (a b c d e f : Int) (t : TypeId) : Rw .i64 (w.alloc (.cells #[.int .i64 a, .int .i64 b, .int .i64 c, .int .i64 d, .int .i64 e, .int .i64 f] t)) (.slice (some ⟨w.heap.size, 0, none⟩) 6 6) [a, b, c, d, e, f] :=
  Rw.of_row (e := t) (cur := [a, b, c, d, e, f]) (heap_alloc_last w _) rfl
theorem flit16 (w : World) (a0 a1 a2 a3 a4 a5 a6 a7 a8 a9 b0 b1 b2 b3 b4 b5 : Int) (t : TypeId) : Rw .i64 (w.alloc (.cells #[.int .i64 a0, .int .i64 a1, .int .i64 a2, .int .i64 a3, .int .i64 a4, .int .i64 a5, .int .i64 a6, .int .i64 a7, .int .i64 a8, .int .i64 a9, .int .i64 b0, .int .i64 b1, .int .i64 b2, .int .i64 b3, .int .i64 b4, .int .i64 b5] t)) (.slice (some ⟨w.heap.size, 0, none⟩) 16 16) [a0, a1, a2, a3, a4, a5, a6, a7, a8, a9, b0, b1, b2, b3, b4, b5] :=
  Rw.of_row (e := t) (cur := [a0, a1, a2, a3, a4, a5, a6, a7, a8, a9, b0, b1, b2, b3, b4, b5]) (heap_alloc_last w _) rfl
theorem fk1 (w : World) (hw : Wp w) (b : Nat) (h : Rw .i64 w (.slice (some ⟨b, 0, none⟩) 6 6) L0) : Calls Tryd.prog 14 #[.slice (some ⟨b, 0, none⟩) 6 6] w fun e w' => ∃ g, e = .returned (.tuple #[.slice (some ⟨g, 0, none⟩) 16 16, .int .i64 0]) ∧ Rw .i64 w' (.slice (some ⟨g, 0, none⟩) 16 16) X0 ∧ Below w.heap.size w w' := by
  refine (fline_ok (some ⟨b, 0, none⟩) 6 L0 w hw h l0_ok).mono ?_
  rintro e w' ⟨g, rfl, hh, _, hB⟩
  rw [l0_ln] at hh
  exact ⟨g, rfl, hh.rw rfl, hB⟩
theorem fk2 (w : World) (hw : Wp w) (b : Nat) (h : Rw .i64 w (.slice (some ⟨b, 0, none⟩) 6 6) L0) : Calls Tryd.prog 15 #[.slice (some ⟨b, 0, none⟩) 6 6] w fun e w' => ∃ g, e = .returned (.tuple #[.slice (some ⟨g, 0, none⟩) 16 16, .int .i64 0]) ∧ Rw .i64 w' (.slice (some ⟨g, 0, none⟩) 16 16) Y0 ∧ Below w.heap.size w w' := by
  refine (ffloor_ok (some ⟨b, 0, none⟩) 6 L0 w hw h l0_ok).mono ?_
  rintro e w' ⟨g, rfl, hh, _, hB⟩
  rw [l0_fl] at hh
  exact ⟨g, rfl, hh.rw rfl, hB⟩
theorem fk3 (w : World) (b : Nat) (h : Rw .i64 w (.slice (some ⟨b, 0, none⟩) 5 5) G0) : Calls Tryd.prog 18 #[.slice (some ⟨b, 0, none⟩) 5 5, .int .i64 3] w fun e w' => ∃ g, e = .returned (.tuple #[.slice (some ⟨g, 0, none⟩) 6 6, .int .i64 0]) ∧ Rw .i64 w' (.slice (some ⟨g, 0, none⟩) 6 6) Z0 ∧ Below w.heap.size w w' := by
  refine (ffit_ok (some ⟨b, 0, none⟩) 5 G0 3 w h g0_ok (by decide) (by decide)).mono ?_
  rintro e w' ⟨g, rfl, hh, _, hB⟩
  rw [g0_fit] at hh
  exact ⟨g, rfl, hh.rw rfl, hB⟩
theorem fk4 (w : World) (b : Nat) (h : Rw .i64 w (.slice (some ⟨b, 0, none⟩) 6 6) L0) : Calls Tryd.prog 12 #[.slice (some ⟨b, 0, none⟩) 6 6] w fun e w' => e = .returned (.bool true) ∧ w' = w := by
  have := fright_any (some ⟨b, 0, none⟩) 6 L0 w h (by decide)
  rw [l0_ok] at this
  exact this
theorem fk5 (w : World) (hw : Wp w) : Calls Tryd.prog 10 #[.int .i64 4] w fun e w' => e = .returned (.int .i64 8) ∧ w' = w := fat_any 4 w hw
set_option maxRecDepth 10000 in
set_option maxHeartbeats 4000000 in
theorem knows_any (w : World) (hw : Wp w) : Calls Tryd.prog 9 #[] w fun e w' => e = .returned (.bool true) ∧ Below w.heap.size w w' := by
  have HW := hid hw
  clear hw
  go_enter Tryd.func9, Tryd.ntmps9
  go_wp2_with (first
    | (go_at_call 14; refine (fk1 _ (HW.out.below (below1 _ _)) _ (flit6 _ 0 0 0 4 8 1 _)).mono ?_; rintro e w1 ⟨g1, rfl, hr1, hb1⟩; have hL1 := (flit6 w 0 0 0 4 8 1 3).below hb1; have hb1 := bthen' (below1 _ _) hb1)
    | (go_at_call 15; refine (fk2 _ (HW.out.below hb1) _ hL1).mono ?_; rintro e w2 ⟨g2, rfl, hr2, hb2⟩; have hL2 := hL1.below hb2; have hr1 := hr1.below hb2; have hb2 := bthen' hb1 hb2)
    | (go_at_call 18; refine (fk3 _ _ (flit5 _ 20 20 20 20 20 _)).mono ?_; rintro e w3 ⟨g3, rfl, hr3, hb3⟩; have hb3 := bthen' (below1 _ _) hb3; have hL3 := hL2.below hb3; have hr1 := hr1.below hb3; have hr2 := hr2.below hb3; have hb3 := bthen' hb2 hb3)
    | (go_at_call_of 22 (Value.slice (some ⟨g1, 0, none⟩) 16 16); refine (same_yes _ _ X0 _ (hr1.below (below1 _ _)) (flit16 _ 0 0 0 2 4 5 6 7 8 7 6 5 4 3 2 1 _) (by decide)).mono ?_; rintro e w4 ⟨rfl, hb4⟩; have hb4 := bthen' (below1 _ _) hb4; have hL4 := hL3.below hb4; have hr2 := hr2.below hb4; have hr3 := hr3.below hb4; have hb4 := bthen' hb3 hb4)
    | (go_at_call_of 23 (Value.slice (some ⟨g2, 0, none⟩) 16 16); refine (same64_yes _ _ Y0 _ (hr2.below (below1 _ _)) (flit16 _ 1 1 1 1 2 4 5 8 11 8 5 4 2 2 1 1 _) (by decide)).mono ?_; rintro e w5 ⟨rfl, hb5⟩; have hb5 := bthen' (below1 _ _) hb5; have hL5 := hL4.below hb5; have hr3 := hr3.below hb5; have hb5 := bthen' hb4 hb5)
    | (go_at_call_of 22 (Value.slice (some ⟨g3, 0, none⟩) 6 6); refine (same_yes _ _ Z0 _ (hr3.below (below1 _ _)) (flit6 _ 10 10 10 10 10 10 _) (by decide)).mono ?_; rintro e w6 ⟨rfl, hb6⟩; have hb6 := bthen' (below1 _ _) hb6; have hL6 := hL5.below hb6; have hb6 := bthen' hb5 hb6)
    | (go_at_call 10; refine (fk5 _ (HW.out.below hb6)).mono ?_; rintro e w9 ⟨rfl, h9⟩; have h9 := h9.symm; subst h9)
    | (go_at_call 12; refine (fk4 _ _ hL6).mono ?_; rintro e w9 ⟨rfl, h9⟩; have h9 := h9.symm; subst h9))
  go_ret
  exact ⟨rfl, hb6⟩
end Go.Proofs.YtgmikllbpaekfaaDoor
