/- The contract of knows: the examples of the document hold. -/
import Derived.Test.YtdadkmklfphleaaWc
import Derived.Lib.SlBytesConst
import Derived.Lib.SmallJoins
namespace Go.Proofs.Ytdadkmklfphleaa
open Go.RowKit
set_option linter.unusedVariables false
set_option linter.unusedSimpArgs false

theorem tab_rw {w : World} {g c : Nat} (h : w.heap[g]? = some (.cells (tab.map (Value.int .u32)).toArray 24 (0, 0))) : Rw .u32 w (.slice (some ⟨g, 0, none⟩) 256 c) tab := Rw.of_row h tab_length
theorem tab_cell {w : World} {g : Nat} (h : w.heap[g]? = some (.cells (tab.map (Value.int .u32)).toArray 24 (0, 0))) (i : Nat) (hi : i < 256) : w.cell? ⟨g, i, none⟩ = some (.int .u32 (entry i)) := by
  rw [(cell_of_row h i (by rw [tab_length]; exact hi)).1, tab_getD i hi]
theorem row_lt {w : World} {g : Nat} {o : Obj} (h : w.heap[g]? = some o) : g < w.heap.size := by
  rcases Nat.lt_or_ge g w.heap.size with h' | h'
  · exact h'
  · rw [Array.getElem?_eq_none h'] at h; cases h
theorem row_below {w w' : World} {g : Nat} {o : Obj} (h : w.heap[g]? = some o) (hb : Below w.heap.size w w') : w'.heap[g]? = some o := by
  rw [hb.block g (row_lt h)]; exact h

def nine : List Int := [49, 50, 51, 52, 53, 54, 55, 56, 57]
theorem nine_byts : Byts nine := by intro x hx; simp [nine] at hx; omega
theorem nine_sum : sumV tab nine = 3421780262 := by
  rw [sumV_tab nine_byts]; decide +kernel
theorem none_sum : sumV tab [] = 0 := by
  rw [sumV_tab Byts.nil]; decide +kernel
theorem entry_1 : entry 1 = 1996959894 := by decide +kernel
theorem entry_255 : entry 255 = 755167117 := by decide +kernel

theorem sum_tab (vt vb : Value) (xs : List Int) (w : World) (ht : Rw .u32 w vt tab) (hb : Rw .u8 w vb xs) (hx : Byts xs) (hl : xs.length ≤ 5000) :
    Calls Try.prog 12 #[vt, vb] w fun e w' => e = .returned (.tuple #[.int .u32 (crc (xs.map Int.toNat)), .int .i64 0]) ∧ Below w.heap.size w w' := by
  have h := sum_any vt vb tab xs w ht tab_u32 hb hx hl
  rw [sumV_tab hx, addE_tab] at h
  exact h
theorem add_tab (vt vb : Value) (xs : List Int) (c : Nat) (w : World) (ht : Rw .u32 w vt tab) (hb : Rw .u8 w vb xs) (hx : Byts xs) (hl : xs.length ≤ 5000) (hc : c < 2 ^ 32) :
    Calls Try.prog 14 #[vt, .int .u32 c, vb] w fun e w' => e = .returned (.tuple #[.int .u32 (addL entry c (xs.map Int.toNat)), .int .i64 0]) ∧ Below w.heap.size w w' := by
  have h := add_any vt vb tab xs c w ht tab_u32 hb hx hl hc
  rw [addV_tab, addI_tab hx, addE_tab] at h
  exact h
theorem sum_nine (vt vb : Value) (w : World) (ht : Rw .u32 w vt tab) (hb : Rw .u8 w vb nine) :
    Calls Try.prog 12 #[vt, vb] w fun e w' => e = .returned (.tuple #[.int .u32 3421780262, .int .i64 0]) ∧ Below w.heap.size w w' := by
  have h := sum_any vt vb tab nine w ht tab_u32 hb nine_byts (by decide)
  rw [nine_sum, addE_tab] at h
  exact h
theorem sum_none (vt : Value) (w : World) (ht : Rw .u32 w vt tab) :
    Calls Try.prog 12 #[vt, .slice none 0 0] w fun e w' => e = .returned (.tuple #[.int .u32 0, .int .i64 0]) ∧ Below w.heap.size w w' := by
  have h := sum_any vt (.slice none 0 0) tab [] w ht tab_u32 ⟨none, 0, rfl, .inl rfl⟩ Byts.nil (by decide)
  rw [none_sum, addE_tab] at h
  exact h
theorem sum_short (g c : Nat) (w : World) (h : w.heap[g]? = some (.cells (tab.map (Value.int .u32)).toArray 24 (0, 0))) :
    Calls Try.prog 12 #[.slice (some ⟨g, 1, none⟩) 255 c, .slice none 0 0] w fun e w' => e = .returned (.tuple #[.int .u32 0, .int .i64 1]) ∧ Below w.heap.size w w' := by
  have hl : (tab.drop 1).length = 255 := by rw [List.length_drop, tab_length]
  have ht : Rw .u32 w (.slice (some ⟨g, 1, none⟩) 255 c) (tab.drop 1) := by
    refine ⟨_, c, by rw [hl], .inr ⟨g, 1, rfl, row_lt h, fun i hi => ?_⟩⟩
    rw [hl] at hi
    rw [(cell_of_row h (1 + i) (by rw [tab_length]; omega)).1]
    simp [List.getD_eq_getElem?_getD, Nat.add_comm]
  have h := sum_any _ (.slice none 0 0) (tab.drop 1) [] w ht (fun x hx => tab_u32 x (List.mem_of_mem_drop hx)) ⟨none, 0, rfl, .inl rfl⟩ Byts.nil (by decide)
  have e1 : sumV (tab.drop 1) [] = 0 := by unfold sumV; rw [if_neg (by rw [hl]; decide)]
  have e2 : addE (tab.drop 1) = 1 := by unfold addE; rw [if_neg (by rw [hl]; decide)]
  rw [e1, e2] at h
  exact h

theorem nine_rw (w : World) : Rw .u8 (w.alloc (.cells #[.int .u8 49, .int .u8 50, .int .u8 51, .int .u8 52, .int .u8 53, .int .u8 54, .int .u8 55, .int .u8 56, .int .u8 57] 5 (9, 10))) (.slice (some ⟨w.heap.size, 0, none⟩) 9 9) nine := by
  refine ⟨_, 9, rfl, .inr ⟨w.heap.size, 0, rfl, by simp, fun i hi => ?_⟩⟩
  rw [Nat.zero_add, World.cell?_alloc_mark]
  have hi : i < 9 := hi
  match i, hi with
  | 0, _ => rfl
  | 1, _ => rfl
  | 2, _ => rfl
  | 3, _ => rfl
  | 4, _ => rfl
  | 5, _ => rfl
  | 6, _ => rfl
  | 7, _ => rfl
  | 8, _ => rfl

set_option maxRecDepth 10000 in
set_option maxHeartbeats 1000000 in
theorem knows_any (w : World) : Calls Try.prog 10 #[] w fun e w' => e = .returned (.bool true) ∧ Below w.heap.size w w' := by
  have kc := fun (w : World) (C : Array Value) (n c : Nat) => Lib.run_convert_bytes_const (P := Try.prog) w 28 5 C n c Try.underlying28 Try.underlying5
  go_enter Try.func10, Try.ntmps10
  go_wp2_with (first | (go_at_call 8; refine (table_any _).mono ?_; rintro e w1 ⟨g, rfl, hg, hrow, hb1⟩))
  have hA := below1 w1 (.cells #[.int .u8 49, .int .u8 50, .int .u8 51, .int .u8 52, .int .u8 53, .int .u8 54, .int .u8 55, .int .u8 56, .int .u8 57] 5 (9, 10))
  have hB := bthen hb1 hA hb1.size
  have hrow2 := row_below hrow hA
  refine (sum_nine _ _ _ (tab_rw hrow2) (nine_rw w1)).mono ?_
  rintro e w2 ⟨rfl, hb2⟩
  have hB2 := bthen hB hb2 hB.size
  have hrow3 := row_below hrow2 hb2
  clear hrow2 hA hB hb2 hb1 hrow
  go_wp2_with fail
  refine (sum_none _ _ (tab_rw hrow3)).mono ?_
  rintro e w3 ⟨rfl, hb3⟩
  have hB3 := bthen hB2 hb3 hB2.size
  have hrow4 := row_below hrow3 hb3
  clear hrow3 hB2 hb3
  go_wp2_with fail
  refine (sum_short g 255 _ hrow4).mono ?_
  rintro e w4 ⟨rfl, hb4⟩
  have hB4 := bthen hB3 hb4 hB3.size
  have hrow5 := row_below hrow4 hb4
  have c1 := tab_cell hrow5 1 (by decide)
  have c2 := tab_cell hrow5 255 (by decide)
  rw [entry_1] at c1
  rw [entry_255] at c2
  clear hrow4 hB3 hb4 hrow5
  go_wp2
  go_ret
  exact ⟨rfl, hB4⟩
end Go.Proofs.Ytdadkmklfphleaa
