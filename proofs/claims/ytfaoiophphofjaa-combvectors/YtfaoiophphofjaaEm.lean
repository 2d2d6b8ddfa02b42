/- Contract of the examples at the end of all statements. -/
import Derived.Test.YtfaoiophphofjaaEl
namespace Go.Proofs.Ytfaoiophphofjaa
open Go.RowKit
set_option linter.unusedVariables false
set_option linter.unusedSimpArgs false

theorem fits_small {y : List Int} (h : ps y ≤ 12) : Fits y := fun j => by
  by_cases hj : j < y.length
  · have := ps_at y j hj; omega
  · rw [List.getD_eq_getElem?_getD, List.getElem?_eq_none (by omega)]; simp
theorem rw_cells {k : IntKind} {w : World} {g n c : Nat} {ys : List Int} (h : Rw k w (.slice (some ⟨g, 0, none⟩) n c) ys) (hn : 0 < n) : g < w.heap.size ∧ ∀ j, j < n → w.cell? ⟨g, j, none⟩ = some (.int k (ys.getD j 0)) := by
  obtain ⟨a, cap, he, hr⟩ := h
  simp only [Value.slice.injEq] at he
  obtain ⟨rfl, rfl, rfl⟩ := he
  obtain ⟨b, off, ha, hlt, hc⟩ := hr.resolve_left (by intro h0; rw [h0] at hn; simp at hn)
  simp only [Option.some.injEq, Addr.mk.injEq] at ha
  obtain ⟨rfl, rfl, _⟩ := ha
  refine ⟨hlt, fun j hj => ?_⟩
  have := hc j hj
  rw [Nat.zero_add] at this
  exact this
/-- A count by integers. -/
def cnt (n k : Int) : Int := (V n.toNat k.toNat : Nat)
theorem count_at (n k : Int) (w : World) (h1 : 1 ≤ n) (h2 : n ≤ 16) (h3 : 0 ≤ k) (h4 : k ≤ 12) : Calls Try.prog 10 #[.int .i64 n, .int .i64 k] w fun e w' => e = .returned (.tuple #[.int .u64 (cnt n k), .int .i64 0]) ∧ Below w.heap.size w w' := by
  obtain ⟨n, rfl⟩ := Int.eq_ofNat_of_zero_le (show 0 ≤ n by omega)
  obtain ⟨k, rfl⟩ := Int.eq_ofNat_of_zero_le h3
  exact count_any n k w (by omega) (by omega) (by omega)
theorem cnt_three (n k : Int) (h1 : 2 ≤ n) (h2 : n ≤ 16) (h3 : 1 ≤ k) (h4 : k ≤ 12) : cnt n k = cnt (n - 1) k + cnt n (k - 1) + cnt (n - 1) (k - 1) ∧ 0 < cnt n k ∧ cnt n k ≤ 104485552128 ∧ 0 ≤ cnt (n - 1) k ∧ 0 ≤ cnt n (k - 1) ∧ 0 ≤ cnt (n - 1) (k - 1) := by
  unfold cnt
  obtain ⟨m, hm⟩ : ∃ m : Nat, n.toNat = m + 1 := ⟨(n - 1).toNat, by omega⟩
  obtain ⟨j, hj⟩ : ∃ j : Nat, k.toNat = j + 1 := ⟨(k - 1).toNat, by omega⟩
  have e1 : (n - 1).toNat = m := by omega
  have e2 : (k - 1).toNat = j := by omega
  have h5 := V_three m j
  have h6 := V_pos (m + 1) (j + 1) (by omega)
  have h7 := V_small (m + 1) (j + 1) (by omega) (by omega)
  rw [hm, hj, e1, e2]
  omega
theorem k1 (w : World) : Calls Try.prog 10 #[.int .i64 3, .int .i64 2] w fun e w' => e = .returned (.tuple #[.int .u64 18, .int .i64 0]) ∧ Below w.heap.size w w' :=
  count_any 3 2 w (by decide) (by decide) (by decide)
theorem k2 (w : World) : Calls Try.prog 19 #[.int .i64 2, .int .i64 1, .int .u64 1] w fun e w' => ∃ g, e = .returned (.tuple #[.slice (some ⟨g, 0, none⟩) 2 2, .int .i64 0]) ∧ Rw .i64 w' (.slice (some ⟨g, 0, none⟩) 2 2) [0, -1] ∧ Below w.heap.size w w' := by
  refine Calls.mono (vector_ok 2 1 1 w (by decide) (by decide) (by decide) (by decide)) ?_
  rintro e w' ⟨g, ys, rfl, hrow, h1, h2, h3, hb⟩
  have : ys = [0, -1] := ix_inj (n := 2) (k := 1) h1 rfl h2 rfl (h3.trans rfl)
  subst this
  exact ⟨g, rfl, hrow.rw, hb⟩
theorem lit2 (w : World) (x y : Int) : Rw .i64 (w.alloc (.cells #[.int .i64 x, .int .i64 y] 3)) (.slice (some ⟨w.heap.size, 0, none⟩) 2 2) [x, y] := by
  refine Rw.of_row (e := 3) (cur := [x, y]) (heap_alloc_last w _) rfl
theorem k3 (w : World) : Calls Try.prog 16 #[.slice (some ⟨w.heap.size, 0, none⟩) 2 2] (w.alloc (.cells #[.int .i64 1, .int .i64 (-1)] 3)) fun e w' => e = .returned (.tuple #[.int .u64 3, .int .i64 0]) ∧ Below w.heap.size w w' := by
  refine Calls.mono (index_ok _ [1, -1] _ (lit2 w 1 (-1)) ?_ (by decide)) ?_
  · intro j
    match j with
    | 0 => decide
    | 1 => decide
    | j + 2 => simp
  · rintro e w' ⟨rfl, hb⟩
    exact ⟨rfl, bthen (below1 w _) hb (by simp)⟩
theorem k4 (w : World) : Calls Try.prog 11 #[.int .i64 2, .int .i64 1] w fun e w' => e = .returned (.tuple #[.int .i64 2, .int .i64 0]) ∧ Below w.heap.size w w' := by
  obtain ⟨B, h3, _, hc, _⟩ := costs
  have := hc 2 1 w (by decide) (by decide) (by decide)
  rw [show V 2 1 - 1 = 3 from rfl, h3] at this
  exact this

set_option maxHeartbeats 1000000 in
theorem knows_any (w : World) : Calls Try.prog 13 #[] w fun e w' => e = .returned (.bool true) ∧ Below w.heap.size w w' := by
  go_enter Try.func13, Try.ntmps13
  go_wp2_with (first | (go_at_call 10; refine (k1 _).mono ?_; rintro e w1 ⟨rfl, hb1⟩) | (go_at_call 19; refine (k2 _).mono ?_; rintro e w2 ⟨g, rfl, hrow, hb2⟩) | (go_at_call 16; refine (k3 _).mono ?_; rintro e w3 ⟨rfl, hb3⟩) | (go_at_call 11; refine (k4 _).mono ?_; rintro e w4 ⟨rfl, hb4⟩) | (go_at_call 20; refine (same_yes _ _ [0, -1] _ ((hrow.below (bthen' hb3 hb4)).below (below1 _ _)) (lit2 _ 0 (-1)) (by decide)).mono ?_; rintro e w5 ⟨rfl, hb5⟩))
  go_ret
  exact ⟨rfl, bthen' (bthen' (bthen' hb1 hb2) (bthen' hb3 hb4)) (bthen (below1 _ _) hb5 (by simp))⟩
end Go.Proofs.Ytfaoiophphofjaa
