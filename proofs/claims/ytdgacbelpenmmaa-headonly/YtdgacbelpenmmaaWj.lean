/- The contract of grown: a copy with more bits, all 0. -/
import Derived.Test.YtdgacbelpenmmaaWi
import Derived.Laws.CopyOwn
namespace Go.Proofs.Ytdgacbelpenmmaa
open Go.RowKit
set_option linter.unusedVariables false
set_option linter.unusedSimpArgs false
set_option maxHeartbeats 1000000 in
theorem grown_any (a : Option Addr) (cap : Nat) (xs : List Int) (N n : Nat) (w : World) (hv : Rw .u8 w (.slice a xs.length cap) xs) (hl : xs.length ≤ (N + n + 7) / 8) (hn : N + n ≤ 40000) :
    Calls Try.prog 42 #[.agg #[.slice a xs.length cap, .int .i64 N], .int .i64 n] w fun e w' => ∃ g, e = .returned (.agg #[.slice (some ⟨g, 0, none⟩) ((N + n + 7) / 8) ((N + n + 7) / 8), .int .i64 (N + n)]) ∧ w.heap.size ≤ g ∧ w'.heap[g]? = some (.cells ((xs ++ List.replicate ((N + n + 7) / 8 - xs.length) 0).map (Value.int .u8)).toArray 5 (0, 0)) ∧ Below w.heap.size w w' := by
  obtain ⟨i0, hi, hz0, hz1, hz2⟩ := info_parts info5
  go_enter Try.func42, Try.ntmps42
  go_wp2_with (first | (go_at_call 44; refine (bytesFor_any _ _ (by omega) (by omega)).mono ?_; rintro e w' ⟨rfl, rfl⟩) | (at_make; refine wpList_make_full _ rfl _ _ 34 rfl w.heap.size 5 i0 (.int .u8 0) 1 Try.underlying34 hi hz0 hz1 .i64 .i64 _ _ ((N + n + 7) / 8) rfl rfl (by omega) (by omega) (by rw [hz2]; omega) (by unfold maxLen; omega) (by simp; omega) ?_))
  intro w1 hown1 hgrow1
  have hb1 := grown_of_none hgrow1
  have hW := below2 w (.cells #[.slice a xs.length cap, .int .i64 N] 50) (.cells #[.slice none 0 0, .int .i64 0] 50)
  have hBw : Below w.heap.size w w1 := bthen hW hb1 hW.size
  have hv1 := hv.below hBw
  have hfull := owns_full hown1
  rw [made_one] at hfull
  obtain ⟨hc1, hf1⟩ := bcell hb1
  clear hown1 hgrow1
  go_wp2_with ((refine wpList_copy_splice rfl (.tmp 12) (.tmp 14) 34 34 rfl 5 Try.underlying34 (by kernel_rfl) _ _ _ _ _ _ rfl rfl (w.heap.size + 1 + 1) 0 (List.replicate ((N + n + 7) / 8) (.int .u8 0)) 5 hfull.1 (xs.map (Value.int .u8)) ?c1 ?c2 ?c3 ?c4 (w.heap.size + 1 + 1) w1 (Below.refl _ _) (Nat.le_refl _) ?_))

  case c1 => simp only [List.length_map]; exact (Nat.min_eq_left hl).symm
  case c2 =>
    intro hpos
    obtain ⟨a', cap', he, ha⟩ := hv1
    simp only [Value.slice.injEq] at he
    obtain ⟨rfl, _, rfl⟩ := he
    obtain ⟨b, off, rfl, hb, hc⟩ := ha.resolve_left (by intro h; subst h; simp at hpos)
    refine ⟨_, rfl, fun j x hj => ?_⟩
    have hjl : j < xs.length := (List.getElem?_eq_some_iff.1 hj).1
    rw [Addr.add_lit, hc j hjl]
    simp [hj]
  case c3 => simp; omega
  case c4 => exact ints_oneCell _ _
  intro w2 H2 hb2
  have hz2 := hb1.size
  have hz3 := hb2.size
  simp at hz2
  have k0 : w2.cell? ⟨w.heap.size, 0, none⟩ = some (.slice a xs.length cap) := by
    rw [hb2.cell (p := ⟨w.heap.size, 0, none⟩) (by show w.heap.size < _; omega), hc1 _ _ (by simp; omega)]; simp [go_sem]
  have k1 : w2.cell? ⟨w.heap.size, 1, none⟩ = some (.int .i64 N) := by
    rw [hb2.cell (p := ⟨w.heap.size, 1, none⟩) (by show w.heap.size < _; omega), hc1 _ _ (by simp; omega)]; simp [go_sem]
  have k2 : w2.cell? ⟨w.heap.size + 1, 0, none⟩ = some (.slice none 0 0) := by
    rw [hb2.cell (p := ⟨w.heap.size + 1, 0, none⟩) (by show w.heap.size + 1 < _; omega), hc1 _ _ (by simp)]; simp [go_sem]
  have k3 : w2.cell? ⟨w.heap.size + 1, 1, none⟩ = some (.int .i64 0) := by
    rw [hb2.cell (p := ⟨w.heap.size + 1, 1, none⟩) (by show w.heap.size + 1 < _; omega), hc1 _ _ (by simp)]; simp [go_sem]
  have f2 : w2.frozen? ⟨w.heap.size + 1, 0, none⟩ = false := by
    rw [hb2.frozen (p := ⟨w.heap.size + 1, 0, none⟩) (by show w.heap.size + 1 < _; omega), hf1 _ _ (by simp)]; simp [go_sem]
  have f3 : w2.frozen? ⟨w.heap.size + 1, 1, none⟩ = false := by
    rw [hb2.frozen (p := ⟨w.heap.size + 1, 1, none⟩) (by show w.heap.size + 1 < _; omega), hf1 _ _ (by simp)]; simp [go_sem]
  clear hc1 hf1 hv1 hfull hv
  go_wp2
  refine bodyPost_ret (v := .agg #[.slice (some ⟨w.heap.size + 1 + 1, 0, none⟩) ((N + n + 7) / 8) ((N + n + 7) / 8), .int .i64 (N + n)]) (by simp [results, Try.results42, go_sem, k2, k3, f2, f3]) rfl ⟨_, rfl, by omega, ?_, ?_⟩
  · rw [Below.heap_setCell _ _ _ _ (by simp), Below.heap_setCell _ _ _ _ (by simp), H2.out]
    simp [splice]
  · exact bset2 (hBw.trans (hb2.mono (by omega))) _ _ _ _ _ _ (by omega) (by omega)
end Go.Proofs.Ytdgacbelpenmmaa
