/- The contract of knows: the examples of the document hold. -/
import Derived.Test.YtjlfnihogfgjnaaWm
namespace Go.Proofs.Ytjlfnihogfgjnaa
open Go.RowKit
set_option linter.unusedVariables false
set_option linter.unusedSimpArgs false

theorem byts5 : Byts [5] := by intro x hx; simp at hx; omega
theorem byts13 : Byts [13] := by intro x hx; simp at hx; omega
theorem bytsF : Byts [253, 15] := by intro x hx; simp at hx; omega
theorem rw_nil (w : World) : Rw .u8 w (.slice none 0 0) [] := ⟨none, 0, rfl, .inl rfl⟩

theorem one_box {w w' : World} {x0 x1 : Value} {t : TypeId} (hb : Below (w.alloc (.cells #[x0, x1] t)).heap.size (w.alloc (.cells #[x0, x1] t)) w') :
    w'.cell? ⟨w.heap.size, 0, none⟩ = some x0 ∧ w'.cell? ⟨w.heap.size, 1, none⟩ = some x1 ∧ w'.frozen? ⟨w.heap.size, 0, none⟩ = false ∧ w'.frozen? ⟨w.heap.size, 1, none⟩ = false ∧ w.heap.size < w'.heap.size := by
  obtain ⟨hc, hf⟩ := bcell hb
  have hz := hb.size
  simp at hz
  refine ⟨?_, ?_, ?_, ?_, by omega⟩
  · rw [hc _ _ (by simp)]; simp [go_sem]
  · rw [hc _ _ (by simp)]; simp [go_sem]
  · rw [hf _ _ (by simp)]; simp [go_sem]
  · rw [hf _ _ (by simp)]; simp [go_sem]
/-- A struct of two cells in memory, in a later world. -/
theorem box_below {w w' : World} {b : Nat} {x0 x1 : Value} (hb : Below w.heap.size w w') (h : b < w.heap.size) (h0 : w.cell? ⟨b, 0, none⟩ = some x0) (h1 : w.cell? ⟨b, 1, none⟩ = some x1) (f0 : w.frozen? ⟨b, 0, none⟩ = false) (f1 : w.frozen? ⟨b, 1, none⟩ = false) :
    w'.cell? ⟨b, 0, none⟩ = some x0 ∧ w'.cell? ⟨b, 1, none⟩ = some x1 ∧ w'.frozen? ⟨b, 0, none⟩ = false ∧ w'.frozen? ⟨b, 1, none⟩ = false ∧ b < w'.heap.size := by
  obtain ⟨hc, hf⟩ := bcell hb
  exact ⟨(hc _ _ h).trans h0, (hc _ _ h).trans h1, (hf _ _ h).trans f0, (hf _ _ h).trans f1, Nat.lt_of_lt_of_le h hb.size⟩
/-- A struct of two cells that is written anew. -/
theorem box_set {w : World} {b : Nat} {x0 x1 : Value} (y0 y1 : Value) (h0 : w.cell? ⟨b, 0, none⟩ = some x0) (h1 : w.cell? ⟨b, 1, none⟩ = some x1) (f0 : w.frozen? ⟨b, 0, none⟩ = false) (f1 : w.frozen? ⟨b, 1, none⟩ = false) (h : b < w.heap.size) :
    ((w.setCell ⟨b, 0, none⟩ y0).setCell ⟨b, 1, none⟩ y1).cell? ⟨b, 0, none⟩ = some y0 ∧ ((w.setCell ⟨b, 0, none⟩ y0).setCell ⟨b, 1, none⟩ y1).cell? ⟨b, 1, none⟩ = some y1 ∧
    ((w.setCell ⟨b, 0, none⟩ y0).setCell ⟨b, 1, none⟩ y1).frozen? ⟨b, 0, none⟩ = false ∧ ((w.setCell ⟨b, 0, none⟩ y0).setCell ⟨b, 1, none⟩ y1).frozen? ⟨b, 1, none⟩ = false ∧ b < ((w.setCell ⟨b, 0, none⟩ y0).setCell ⟨b, 1, none⟩ y1).heap.size := by
  refine ⟨by simp [go_sem, h0, h1], by simp [go_sem, h0, h1], by simp [f0], by simp [f1], by simpa [World.setCell] using h⟩

theorem known1 (w : World) : Calls Try.prog 14 #[.agg #[(.slice none 0 0), .int .i64 0], .int .u64 5, .int .i64 3] w fun e w' => ∃ v', e = .returned (.tuple #[.agg #[v', .int .i64 3], .int .i64 0]) ∧ RwF w.heap.size .u8 w' v' [5] ∧ Below w.heap.size w w' := by
  have e1 : putN [] 0 5 3 = 3 := by decide
  have e2 : putE [] 0 5 3 = 0 := by decide
  have e3 : putX [] 0 5 3 = [5] := by decide
  have h := put_any (.slice none 0 0) [] 0 5 3 w (rw_nil w) Byts.nil (by decide)
  rw [e1, e2, e3] at h
  exact h
theorem known2 (w : World) (v : Value) (hv : Rw .u8 w v [5]) : Calls Try.prog 14 #[.agg #[v, .int .i64 3], .int .u64 1, .int .i64 1] w fun e w' => ∃ v', e = .returned (.tuple #[.agg #[v', .int .i64 4], .int .i64 0]) ∧ RwF w.heap.size .u8 w' v' [13] ∧ Below w.heap.size w w' := by
  have e1 : putN [5] 3 1 1 = 4 := by decide
  have e2 : putE [5] 3 1 1 = 0 := by decide
  have e3 : putX [5] 3 1 1 = [13] := by decide
  have h := put_any v [5] 3 1 1 w hv byts5 (by decide)
  rw [e1, e2, e3] at h
  exact h
theorem known3 (w : World) (v : Value) (hv : Rw .u8 w v [13]) : Calls Try.prog 14 #[.agg #[v, .int .i64 4], .int .u64 255, .int .i64 8] w fun e w' => ∃ v', e = .returned (.tuple #[.agg #[v', .int .i64 12], .int .i64 0]) ∧ RwF w.heap.size .u8 w' v' [253, 15] ∧ Below w.heap.size w w' := by
  have e1 : putN [13] 4 255 8 = 12 := by decide
  have e2 : putE [13] 4 255 8 = 0 := by decide
  have e3 : putX [13] 4 255 8 = [253, 15] := by decide
  have h := put_any v [13] 4 255 8 w hv byts13 (by decide)
  rw [e1, e2, e3] at h
  exact h
theorem known4 (w : World) (v : Value) (hv : Rw .u8 w v [253, 15]) : Calls Try.prog 18 #[.agg #[v, .int .i64 0], .int .i64 3] w fun e w' => e = .returned (.tuple #[.agg #[v, .int .i64 3], .int .u64 5, .int .i64 0]) ∧ Below w.heap.size w w' := by
  have e1 : getV [253, 15] 0 3 = 5 := by decide
  have e2 : getE [253, 15] 0 3 = 0 := by decide
  have h := get_any v [253, 15] 0 3 w hv bytsF (by decide)
  rw [e1, e2] at h
  exact h
theorem known5 (w : World) (v : Value) (hv : Rw .u8 w v [253, 15]) : Calls Try.prog 18 #[.agg #[v, .int .i64 12], .int .i64 5] w fun e w' => e = .returned (.tuple #[.agg #[v, .int .i64 12], .int .u64 0, .int .i64 4]) ∧ Below w.heap.size w w' := by
  have e1 : getV [253, 15] 12 5 = 0 := by decide
  have e2 : getE [253, 15] 12 5 = 4 := by decide
  have h := get_any v [253, 15] 12 5 w hv bytsF (by decide)
  rw [e1, e2] at h
  exact h

theorem same_self (v1 v2 : Value) (n : Int) (xs : List Int) (w : World) (h1 : Rw .u8 w v1 xs) (h2 : Rw .u8 w v2 xs) (hx : Byts xs) :
    Calls Try.prog 17 #[.agg #[v1, .int .i64 n], .agg #[v2, .int .i64 n]] w fun e w' => e = .returned (.bool true) ∧ Below w.heap.size w w' := by
  refine (same_eq v1 v2 n xs xs w h1 h2 hx hx).mono ?_
  rintro e w' ⟨rfl, hb⟩
  exact ⟨by simp, hb⟩

set_option maxHeartbeats 2000000 in
theorem knows_any (w : World) : Calls Try.prog 10 #[] w fun e w' => e = .returned (.bool true) ∧ Below w.heap.size w w' := by
  go_enter Try.func10, Try.ntmps10
  go_wp2_with fail
  refine (known1 _).mono ?_
  rintro e w1 ⟨v1, rfl, r1, b1⟩
  obtain ⟨a1, c1, rfl, _⟩ := id r1
  have hW1 := b1.alloc b1.size (.cells #[.slice a1 1 c1, .int .i64 3] 27)
  go_wp2_with fail
  refine (known2 _ _ (r1.rw.below (below1 _ _))).mono ?_
  rintro e w2 ⟨v2, rfl, r2, b2⟩
  have hW2 := bthen hW1 b2 hW1.size
  obtain ⟨q0, q1, f0, f1, hz⟩ := one_box b2
  obtain ⟨a2, c2, rfl, _⟩ := id r2
  obtain ⟨q0, q1, f0, f1, hz⟩ := box_set (.slice a2 1 c2) (.int .i64 4) q0 q1 f0 f1 hz
  have r2 := (r2.set w1.heap.size 0 (.slice a2 1 c2) (by simp)).set w1.heap.size 1 (.int .i64 4) (by simp)
  have hW2 := bset2 hW2 w1.heap.size w1.heap.size 0 1 (.slice a2 1 c2) (.int .i64 4) b1.size b1.size
  clear r1 b2 hW1
  go_wp2_with fail
  generalize ((w2.setCell ⟨w1.heap.size, 0, none⟩ (.slice a2 1 c2)).setCell ⟨w1.heap.size, 1, none⟩ (.int .i64 4)) = W2 at *
  refine (known3 _ _ r2.rw).mono ?_
  rintro e w3 ⟨v3, rfl, r3, b3⟩
  have hW3 := bthen hW2 b3 hW2.size
  obtain ⟨q0, q1, f0, f1, hz3⟩ := box_below b3 hz q0 q1 f0 f1
  obtain ⟨a3, c3, rfl, _⟩ := id r3
  obtain ⟨q0, q1, f0, f1, hz4⟩ := box_set (.slice a3 2 c3) (.int .i64 12) q0 q1 f0 f1 hz3
  have r3 := (r3.set w1.heap.size 0 (.slice a3 2 c3) hz).set w1.heap.size 1 (.int .i64 12) hz
  have hW3 := bset2 hW3 w1.heap.size w1.heap.size 0 1 (.slice a3 2 c3) (.int .i64 12) b1.size b1.size
  clear r2 b3 hW2
  go_wp2_with fail
  generalize ((w3.setCell ⟨w1.heap.size, 0, none⟩ (.slice a3 2 c3)).setCell ⟨w1.heap.size, 1, none⟩ (.int .i64 12)) = W3 at *
  refine (known4 _ _ r3.rw).mono ?_
  rintro e w4 ⟨rfl, b4⟩
  have hW4 := bthen hW3 b4 hW3.size
  obtain ⟨q0, q1, f0, f1, hz5⟩ := box_below b4 hz4 q0 q1 f0 f1
  have r4 := r3.below b4
  clear r3 b4 hW3
  have hW5 := hW4.alloc hW4.size (.cells #[.slice a3 2 c3, .int .i64 3] 32)
  have r5 := r4.below (below1 w4 (.cells #[.slice a3 2 c3, .int .i64 3] 32))
  go_wp2_with fail
  refine (known5 _ _ r5.rw).mono ?_
  rintro e w6 ⟨rfl, b6⟩
  have hW6 := bthen hW5 b6 hW5.size
  obtain ⟨p0, p1, g0, g1, hz6⟩ := one_box b6
  have hn : w1.heap.size < (w4.alloc (.cells #[.slice a3 2 c3, .int .i64 3] 32)).heap.size := by simp; omega
  have q0 := ((bcell b6).1 w1.heap.size 0 hn).trans ((World.cell?_alloc_past _ _ _ hz5).trans q0)
  have q1 := ((bcell b6).1 w1.heap.size 1 hn).trans ((World.cell?_alloc_past _ _ _ hz5).trans q1)
  have hz7 : w1.heap.size < w6.heap.size := by omega
  have r6 := r5.below b6
  clear b6 r4 r5 hW4 hW5
  have hW7 := hW6.alloc hW6.size (.cells #[.slice a3 2 c3, .int .i64 12] 32)
  have r7 := r6.below (below1 w6 (.cells #[.slice a3 2 c3, .int .i64 12] 32))
  have c7 : (convert 22 9 (.slice a3 2 c3)).run Try.prog (w6.alloc (.cells #[.slice a3 2 c3, .int .i64 12] 32)) = .ok (.string (strOfNums [253, 15])) _ := conv_rw (P := Try.prog) r7.rw 22 9 5 Try.underlying22 Try.underlying5 Try.underlying9
  have hs : ((strOfNums [253, 15]).toList == [253, 15]) = true := by rw [ByteArray.toList_eq]; decide
  have hr : rightB [253, 15] 12 = true := by decide
  go_wp2_with (first | (go_at_call 13; refine (left_any _ _ _ _ _ (by decide)).mono ?_; rintro e w8 ⟨rfl, b8⟩; have z0 := ((bcell b8).1 w1.heap.size 0 (by simp; omega)).trans ((World.cell?_alloc_past _ _ _ hz7).trans q0); have z1 := ((bcell b8).1 w1.heap.size 1 (by simp; omega)).trans ((World.cell?_alloc_past _ _ _ hz7).trans q1)) | (go_at_call 11; refine (right_any _ [253, 15] 12 _ (r7.below b8).rw bytsF).mono ?_; rintro e w9 ⟨rfl, b9⟩; rw [hr]))
  go_ret
  exact ⟨rfl, bthen (bthen hW7 b8 hW7.size) b9 (bthen hW7 b8 hW7.size).size⟩
end Go.Proofs.Ytjlfnihogfgjnaa
