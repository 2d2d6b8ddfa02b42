/- Contracts: CoupleAll, PartAll; the document's examples. -/
import Derived.Test.YtjehjpibgficcaaSd
import Derived.MakeChecks
namespace Go.Proofs.Ytjehjpibgficcaa
open Go.RowKit
set_option linter.unusedVariables false
set_option linter.unusedSimpArgs false

theorem cAll_len (v1 v2 : Value) (x y : List Int) (w : World) (h1 : Rw .i64 w v1 x) (h2 : Rw .i64 w v2 y) (hne : x.length ≠ y.length) (l1 : x.length ≤ 9223372036854775807) (l2 : y.length ≤ 9223372036854775807) :
    Calls Try.prog 15 #[v1, v2] w fun e w' => e = .returned (.tuple #[.slice none 0 0, .slice none 0 0, .int .i64 1]) ∧ Below w.heap.size w w' := by
  have hm := fun w => coupling_any w
  have hp := fun w h1 h2 => pairs_len cWay 23 v1 v2 x y w h1 h2 hne l1 l2
  have H1 := hid h1
  have H2 := hid h2
  clear h1 h2
  go_enter Try.func15, Try.ntmps15
  go_wp2_with (first | (go_at_call 18; refine (hm _).mono ?_; rintro e w1 ⟨rfl, hb1⟩) | (go_at_call 22; refine (hp _ (H1.out.below hb1) (H2.out.below hb1)).mono ?_; rintro e w2 ⟨rfl, hb2⟩))
  go_ret3
  exact ⟨rfl, bthen' hb1 hb2⟩
theorem cAll_no (v1 v2 : Value) (x y : List Int) (w : World) (h1 : Rw .i64 w v1 x) (h2 : Rw .i64 w v2 y) (he : x.length = y.length) (l1 : x.length ≤ 100) (hno : cWay.all x y = false) :
    Calls Try.prog 15 #[v1, v2] w fun e w' => e = .returned (.tuple #[.slice none 0 0, .slice none 0 0, .int .i64 1]) ∧ Below w.heap.size w w' := by
  have hm := fun w => coupling_any w
  have hp := fun w h1 h2 => (pairs_any cWay 23 turnsC v1 v2 x y w h1 h2 he l1).mono fun e w' (h : _ ∧ _ ∧ _) => (⟨h.2.1 hno, h.2.2⟩ : e = .returned (.tuple #[.slice none 0 0, .slice none 0 0, .int .i64 1]) ∧ Below w.heap.size w w')
  have H1 := hid h1
  have H2 := hid h2
  clear h1 h2 hno
  go_enter Try.func15, Try.ntmps15
  go_wp2_with (first | (go_at_call 18; refine (hm _).mono ?_; rintro e w1 ⟨rfl, hb1⟩) | (go_at_call 22; refine (hp _ (H1.out.below hb1) (H2.out.below hb1)).mono ?_; rintro e w2 ⟨rfl, hb2⟩))
  go_ret3
  exact ⟨rfl, bthen' hb1 hb2⟩
theorem cAll_ok (v1 v2 : Value) (x y : List Int) (w : World) (h1 : Rw .i64 w v1 x) (h2 : Rw .i64 w v2 y) (l1 : x.length ≤ 100) (hok : cWay.all x y = true) :
    Calls Try.prog 15 #[v1, v2] w fun e w' => ∃ g1 g2, e = .returned (.tuple #[.slice (some ⟨g1, 0, none⟩) x.length x.length, .slice (some ⟨g2, 0, none⟩) x.length x.length, .int .i64 0]) ∧ Blk .i64 2 w' g1 (cWay.xs x y) ∧ Blk .i64 2 w' g2 (cWay.ys x y) ∧ Below w.heap.size w w' := by
  have hm := fun w => coupling_any w
  have hp := fun w h1 h2 => (pairs_any cWay 23 turnsC v1 v2 x y w h1 h2 (cWay.all_parts hok).1 l1).mono fun e w' (h : _ ∧ _ ∧ _) => (⟨h.1 hok, h.2.2⟩ : (∃ g1 g2, e = .returned (.tuple #[.slice (some ⟨g1, 0, none⟩) x.length x.length, .slice (some ⟨g2, 0, none⟩) x.length x.length, .int .i64 0]) ∧ Blk .i64 2 w' g1 (cWay.xs x y) ∧ Blk .i64 2 w' g2 (cWay.ys x y)) ∧ Below w.heap.size w w')
  have H1 := hid h1
  have H2 := hid h2
  clear h1 h2 hok l1
  generalize cWay.xs x y = X at *
  generalize cWay.ys x y = Y at *
  generalize x.length = n at *
  go_enter Try.func15, Try.ntmps15
  go_wp2_with (first | (go_at_call 18; refine (hm _).mono ?_; rintro e w1 ⟨rfl, hb1⟩) | (go_at_call 22; refine (hp _ (H1.out.below hb1) (H2.out.below hb1)).mono ?_; rintro e w2 ⟨⟨g1, g2, rfl, hr1, hr2⟩, hb2⟩))
  go_ret3
  exact ⟨g1, g2, rfl, hr1, hr2, bthen' hb1 hb2⟩
theorem pAll_len (v1 v2 : Value) (x y : List Int) (w : World) (h1 : Rw .i64 w v1 x) (h2 : Rw .i64 w v2 y) (hne : x.length ≠ y.length) (l1 : x.length ≤ 9223372036854775807) (l2 : y.length ≤ 9223372036854775807) :
    Calls Try.prog 17 #[v1, v2] w fun e w' => e = .returned (.tuple #[.slice none 0 0, .slice none 0 0, .int .i64 1]) ∧ Below w.heap.size w w' := by
  have hm := fun w => parting_any w
  have hp := fun w h1 h2 => pairs_len pWay 25 v1 v2 x y w h1 h2 hne l1 l2
  have H1 := hid h1
  have H2 := hid h2
  clear h1 h2
  go_enter Try.func17, Try.ntmps17
  go_wp2_with (first | (go_at_call 20; refine (hm _).mono ?_; rintro e w1 ⟨rfl, hb1⟩) | (go_at_call 22; refine (hp _ (H1.out.below hb1) (H2.out.below hb1)).mono ?_; rintro e w2 ⟨rfl, hb2⟩))
  go_ret3
  exact ⟨rfl, bthen' hb1 hb2⟩
theorem pAll_no (v1 v2 : Value) (x y : List Int) (w : World) (h1 : Rw .i64 w v1 x) (h2 : Rw .i64 w v2 y) (he : x.length = y.length) (l1 : x.length ≤ 100) (hno : pWay.all x y = false) :
    Calls Try.prog 17 #[v1, v2] w fun e w' => e = .returned (.tuple #[.slice none 0 0, .slice none 0 0, .int .i64 1]) ∧ Below w.heap.size w w' := by
  have hm := fun w => parting_any w
  have hp := fun w h1 h2 => (pairs_any pWay 25 turnsP v1 v2 x y w h1 h2 he l1).mono fun e w' (h : _ ∧ _ ∧ _) => (⟨h.2.1 hno, h.2.2⟩ : e = .returned (.tuple #[.slice none 0 0, .slice none 0 0, .int .i64 1]) ∧ Below w.heap.size w w')
  have H1 := hid h1
  have H2 := hid h2
  clear h1 h2 hno
  go_enter Try.func17, Try.ntmps17
  go_wp2_with (first | (go_at_call 20; refine (hm _).mono ?_; rintro e w1 ⟨rfl, hb1⟩) | (go_at_call 22; refine (hp _ (H1.out.below hb1) (H2.out.below hb1)).mono ?_; rintro e w2 ⟨rfl, hb2⟩))
  go_ret3
  exact ⟨rfl, bthen' hb1 hb2⟩
theorem pAll_ok (v1 v2 : Value) (x y : List Int) (w : World) (h1 : Rw .i64 w v1 x) (h2 : Rw .i64 w v2 y) (l1 : x.length ≤ 100) (hok : pWay.all x y = true) :
    Calls Try.prog 17 #[v1, v2] w fun e w' => ∃ g1 g2, e = .returned (.tuple #[.slice (some ⟨g1, 0, none⟩) x.length x.length, .slice (some ⟨g2, 0, none⟩) x.length x.length, .int .i64 0]) ∧ Blk .i64 2 w' g1 (pWay.xs x y) ∧ Blk .i64 2 w' g2 (pWay.ys x y) ∧ Below w.heap.size w w' := by
  have hm := fun w => parting_any w
  have hp := fun w h1 h2 => (pairs_any pWay 25 turnsP v1 v2 x y w h1 h2 (pWay.all_parts hok).1 l1).mono fun e w' (h : _ ∧ _ ∧ _) => (⟨h.1 hok, h.2.2⟩ : (∃ g1 g2, e = .returned (.tuple #[.slice (some ⟨g1, 0, none⟩) x.length x.length, .slice (some ⟨g2, 0, none⟩) x.length x.length, .int .i64 0]) ∧ Blk .i64 2 w' g1 (pWay.xs x y) ∧ Blk .i64 2 w' g2 (pWay.ys x y)) ∧ Below w.heap.size w w')
  have H1 := hid h1
  have H2 := hid h2
  clear h1 h2 hok l1
  generalize pWay.xs x y = X at *
  generalize pWay.ys x y = Y at *
  generalize x.length = n at *
  go_enter Try.func17, Try.ntmps17
  go_wp2_with (first | (go_at_call 20; refine (hm _).mono ?_; rintro e w1 ⟨rfl, hb1⟩) | (go_at_call 22; refine (hp _ (H1.out.below hb1) (H2.out.below hb1)).mono ?_; rintro e w2 ⟨⟨g1, g2, rfl, hr1, hr2⟩, hb2⟩))
  go_ret3
  exact ⟨g1, g2, rfl, hr1, hr2, bthen' hb1 hb2⟩
end Go.Proofs.Ytjehjpibgficcaa
