/- The contract of Table: the published table, in new memory; and what it is as a function. -/
import Derived.Test.YtdadkmklfphleaaWb
namespace Go.Proofs.Ytdadkmklfphleaa
open Go.RowKit
set_option linter.unusedVariables false
set_option linter.unusedSimpArgs false

theorem info24 : (Try.prog.info? 24).map (fun i => (i.zero, i.size, i.bytes)) = some (some (.int .u32 0), 1, 4) := by kernel_rfl

/-- The first k numbers of the table, noughts behind. -/
def tabK (k : Nat) : List Int := (List.range k).map (fun i => ((entry i : Nat) : Int)) ++ List.replicate (256 - k) 0
/-- The table. -/
def tab : List Int := (List.range 256).map (fun i => ((entry i : Nat) : Int))
theorem tabK_zero : tabK 0 = List.replicate 256 0 := by unfold tabK; rw [List.range_zero, List.map_nil, List.nil_append, Nat.sub_zero]
theorem tabK_full : tabK 256 = tab := by unfold tabK tab; rw [Nat.sub_self, List.replicate_zero, List.append_nil]
theorem tabK_length (k : Nat) (h : k ≤ 256) : (tabK k).length = 256 := by simp [tabK]; omega
theorem tab_length : tab.length = 256 := by simp [tab]
theorem tabK_set (k : Nat) (h : k < 256) : (tabK k).set k ((entry k : Nat) : Int) = tabK (k + 1) := by
  unfold tabK
  rw [List.set_append_right _ _ (by simp), List.range_succ, List.map_append, List.append_assoc]
  congr 1
  rw [show 256 - k = (256 - (k + 1)) + 1 by omega]
  simp [List.replicate_succ]
theorem entry_lt (i : Nat) (h : i < 2 ^ 32) : entry i < 2 ^ 32 := stps_lt 8 i h
theorem tab_u32 : U32s tab := by
  intro x hx
  simp only [tab, List.mem_map, List.mem_range] at hx
  obtain ⟨i, hi, rfl⟩ := hx
  have := entry_lt i (by omega)
  omega
theorem tab_getD (i : Nat) (h : i < 256) : tab.getD i 0 = ((entry i : Nat) : Int) := by
  simp [tab, h]
theorem addL_congr (t s : Nat → Nat) (hts : ∀ i, i < 256 → t i = s i) (l : List Nat) (hl : ∀ x ∈ l, x < 256) (c : Nat) : addL t c l = addL s c l := by
  induction l generalizing c with
  | nil => rfl
  | cons b l ih =>
    have hb : addB t c b = addB s c b := by
      unfold addB
      rw [hts _ (xor8_lt _ _ (by omega) (hl b (by simp)))]
    simp only [addL]
    rw [hb]
    exact ih (fun x hx => hl x (by simp [hx])) _
theorem nums_lt {xs : List Int} (hx : Byts xs) : ∀ x ∈ xs.map Int.toNat, x < 256 := by
  intro x h
  simp only [List.mem_map] at h
  obtain ⟨y, hy, rfl⟩ := h
  have := hx y hy
  omega
theorem addI_tab {xs : List Int} (hx : Byts xs) (c : Nat) : addI tab c xs = addL entry c (xs.map Int.toNat) :=
  addL_congr _ _ (fun i hi => by unfold tfn; rw [tab_getD i hi, Int.toNat_natCast]) _ (nums_lt hx) c
theorem sumV_tab {xs : List Int} (hx : Byts xs) : sumV tab xs = crc (xs.map Int.toNat) := by
  unfold sumV crc
  rw [if_pos tab_length, addI_tab hx]
theorem addV_tab {xs : List Int} (c : Nat) : addV tab c xs = addI tab c xs := by
  unfold addV
  rw [if_pos tab_length]
theorem addE_tab : addE tab = 0 := by unfold addE; rw [if_pos tab_length]

set_option maxRecDepth 10000 in
set_option maxHeartbeats 400000 in
theorem table_any (w : World) : Calls Try.prog 8 #[] w fun e w' => ∃ g, e = .returned (.slice (some ⟨g, 0, none⟩) 256 256) ∧ w.heap.size ≤ g ∧ w'.heap[g]? = some (.cells (tab.map (Value.int .u32)).toArray 24 (0, 0)) ∧ Below w.heap.size w w' := by
  obtain ⟨i0, hi, hz0, hz1, hz2⟩ := info_parts info24
  go_enter Try.func8, Try.ntmps8
  go_wp2_with (first | (at_make; refine wpList_make_full _ rfl _ _ 22 rfl w.heap.size 24 i0 (.int .u32 0) 1 Try.underlying22 hi hz0 hz1 .i64 .i64 _ _ 256 rfl rfl (by omega) (by omega) (by rw [hz2]; omega) (by unfold maxLen; omega) (by omega) ?_))
  intro w1 hown1 hgrow1
  have hb1 := grown_of_none hgrow1
  have hfull := owns_full hown1
  rw [made_one] at hfull
  clear hown1 hgrow1
  obtain ⟨hfull, _, _⟩ := hfull
  go_wp2
  obtain ⟨W1, rfl⟩ : ∃ x, x = w1 := ⟨w1, rfl⟩
  go_loopw [6] (fun i wr => ∃ k : Nat, k ≤ 256 ∧ i = .int .i64 k ∧ wr.heap[w.heap.size]? = some (.cells ((tabK k).map (Value.int .u32)).toArray 24 (0, 0)) ∧ Below w.heap.size w wr) (fun i _ => 256 - (intOf i).toNat)
  case atStart => exact ⟨0, by omega, rfl, by rw [hfull, tabK_zero]; simp, hb1⟩
  case round =>
    obtain ⟨k, hk, rfl, hrow, hbw⟩ := hrel
    by_cases h8 : k < 256
    · have hset := row_set hrow k ((entry k : Nat) : Int)
      rw [tabK_set k h8] at hset
      obtain ⟨hc, hf⟩ := cell_of_row hrow k (by rw [tabK_length k (by omega)]; exact h8)
      have hbs := hbw.setCell (p := ⟨w.heap.size, k, none⟩) (Nat.le_refl _) (.int .u32 (entry k))
      have hen := entryP_any k (by omega)
      generalize ((tabK k).getD k 0) = z at hc
      clear hrow
      generalize hE : entry k = E at *
      have hE' : Hid _ := hE
      clear hE
      go_wp2_with (first | (go_at_call 18; refine (hen _).mono ?_; rintro e w' ⟨rfl, rfl⟩))
      exact ⟨⟨k + 1, by omega, by go_num, hset, hbs⟩, by simp [intOf]; omega⟩
    · have hge : 256 ≤ k := by omega
      clear h8
      go_wp2
      have : k = 256 := by omega
      subst this
      rw [tabK_full] at hrow
      go_ret
      exact ⟨_, rfl, Nat.le_refl _, hrow, hbw⟩
end Go.Proofs.Ytdadkmklfphleaa
