/- Contracts: the plain header, by the program and by the document; the document's bits of a number, and its number of bits. -/
import Derived.Test.YtdgacbelpenmmaaVb
import Derived.Test.YtdgacbelpenmmaaWm
namespace Go.Proofs.Ytdgacbelpenmmaa
open Go.RowKit
set_option linter.unusedVariables false
set_option linter.unusedSimpArgs false

theorem B4.grown {w w' : World} {b : Nat} {x0 x1 x2 x3 : Value} {o : Option Nat} (h : B4 w b x0 x1 x2 x3) (hg : w.grownBy w' o) (hne : o ≠ some b) : B4 w' b x0 x1 x2 x3 := by
  have e := hg.block b h.z (fun h => hne h.symm)
  have hc := fun i => World.cell?_of_block (w := w) (w' := w') (a := ⟨b, i, none⟩) e
  have hf := fun i => World.frozen?_of_block (w := w) (w' := w') (a := ⟨b, i, none⟩) e
  exact ⟨Nat.lt_of_lt_of_le h.z hg.size, (hc 0).trans h.c0, (hc 1).trans h.c1, (hc 2).trans h.c2, (hc 3).trans h.c3, (hf 0).trans h.f0, (hf 1).trans h.f1, (hf 2).trans h.f2, (hf 3).trans h.f3⟩

/-- The slice v holds the numbers xs, in a block from lo on and below hi. -/
def RwM (lo hi : Nat) (k : IntKind) (w : World) (v : Value) (xs : List Int) : Prop :=
  ∃ a cap, v = .slice a xs.length cap ∧ (xs = [] ∨ ∃ b off, a = some ⟨b, off, none⟩ ∧ lo ≤ b ∧ b < hi ∧ b < w.heap.size ∧ ∀ i, i < xs.length → w.cell? ⟨b, off + i, none⟩ = some (.int k (xs.getD i 0)))
theorem RwM.keep {lo hi : Nat} {k : IntKind} {w w' : World} {v : Value} {xs : List Int} (h : RwM lo hi k w v xs) (hs : w.heap.size ≤ w'.heap.size) (hk : ∀ i, lo ≤ i → i < hi → i < w.heap.size → w'.heap[i]? = w.heap[i]?) : RwM lo hi k w' v xs := by
  obtain ⟨a, cap, e, h⟩ := h
  refine ⟨a, cap, e, ?_⟩
  rcases h with h | ⟨b, off, ha, h1, h2, h3, hc⟩
  · exact .inl h
  · exact .inr ⟨b, off, ha, h1, h2, Nat.lt_of_lt_of_le h3 hs, fun i hi => (World.cell?_of_block (w := w) (hk b h1 h2 h3)).trans (hc i hi)⟩
theorem RwM.rw {lo hi : Nat} {k : IntKind} {w : World} {v : Value} {xs : List Int} (h : RwM lo hi k w v xs) : Rw k w v xs := by
  obtain ⟨a, cap, e, h⟩ := h
  refine ⟨a, cap, e, ?_⟩
  rcases h with h | ⟨b, off, ha, h1, h2, h3, hc⟩
  · exact .inl h
  · exact .inr ⟨b, off, ha, h3, hc⟩
theorem RwM.of_rw {k : IntKind} {w : World} {v : Value} {xs : List Int} (h : Rw k w v xs) : RwM 0 w.heap.size k w v xs := by
  obtain ⟨a, cap, e, h⟩ := h
  refine ⟨a, cap, e, ?_⟩
  rcases h with h | ⟨b, off, ha, h3, hc⟩
  · exact .inl h
  · exact .inr ⟨b, off, ha, Nat.zero_le _, h3, h3, hc⟩
theorem RwM.of_rwf {base : Nat} {k : IntKind} {w : World} {v : Value} {xs : List Int} (h : RwF base k w v xs) : RwM base w.heap.size k w v xs := by
  obtain ⟨a, cap, e, h⟩ := h
  refine ⟨a, cap, e, ?_⟩
  rcases h with h | ⟨b, off, ha, h1, h3, hc⟩
  · exact .inl h
  · exact .inr ⟨b, off, ha, h1, h3, h3, hc⟩
theorem RwM.rwf {lo hi base : Nat} {k : IntKind} {w : World} {v : Value} {xs : List Int} (h : RwM lo hi k w v xs) (hb : base ≤ lo) : RwF base k w v xs := by
  obtain ⟨a, cap, e, h⟩ := h
  refine ⟨a, cap, e, ?_⟩
  rcases h with h | ⟨b, off, ha, h1, h2, h3, hc⟩
  · exact .inl h
  · exact .inr ⟨b, off, ha, Nat.le_trans hb h1, h3, hc⟩
theorem RwM.mono {lo hi lo' hi' : Nat} {k : IntKind} {w : World} {v : Value} {xs : List Int} (h : RwM lo hi k w v xs) (h1 : lo' ≤ lo) (h2 : hi ≤ hi') : RwM lo' hi' k w v xs := by
  obtain ⟨a, cap, e, h⟩ := h
  refine ⟨a, cap, e, ?_⟩
  rcases h with h | ⟨b, off, ha, q1, q2, h3, hc⟩
  · exact .inl h
  · exact .inr ⟨b, off, ha, Nat.le_trans h1 q1, Nat.lt_of_lt_of_le q2 h2, h3, hc⟩
theorem RwM.below {lo hi : Nat} {k : IntKind} {w w' : World} {v : Value} {xs : List Int} (h : RwM lo hi k w v xs) (hb : Below w.heap.size w w') : RwM lo hi k w' v xs := h.keep hb.size fun i _ _ h3 => hb.block i h3
theorem RwM.set {lo hi : Nat} {k : IntKind} {w : World} {v : Value} {xs : List Int} (h : RwM lo hi k w v xs) (p o : Nat) (x : Value) (hp : p < lo ∨ hi ≤ p) : RwM lo hi k (w.setCell ⟨p, o, none⟩ x) v xs :=
  h.keep (by simp [World.setCell]) fun i h1 h2 _ => heap_setCell_other _ _ _ _ (by show i ≠ p; omega)
theorem RwM.grown {lo hi : Nat} {k : IntKind} {w w' : World} {v : Value} {xs : List Int} {o : Option Nat} (h : RwM lo hi k w v xs) (hg : w.grownBy w' o) (ho : ∀ i, o = some i → i < lo ∨ hi ≤ i) : RwM lo hi k w' v xs :=
  h.keep hg.size fun i h1 h2 h3 => hg.block i h3 fun e => by have := ho i e.symm; omega
theorem RwM.nil (lo hi : Nat) (k : IntKind) (w : World) : RwM lo hi k w (.slice none 0 0) [] := ⟨none, 0, rfl, .inl rfl⟩
theorem grown_lt {a b : World} {g B : Nat} (h : a.grownBy b (some g)) (hB : B ≤ a.heap.size) (hg : B ≤ g) : Below B a b :=
  ⟨h.os, h.tape, h.output, h.size, fun k hk => h.block k (by omega) (by intro e; simp only [Option.some.injEq] at e; omega)⟩

set_option maxHeartbeats 1000000 in
theorem plainfloor_any (w : World) : Calls Try.prog 24 #[] w fun e w' => ∃ g, e = .returned (.slice (some ⟨g, 0, none⟩) 45 45) ∧ Blk .i64 3 w' g plF ∧ w.heap.size ≤ g ∧ Below w.heap.size w w' := by
  obtain ⟨i0, hi, hz0, hz1, hz2⟩ := info_parts info3
  go_enter Try.func24, Try.ntmps24
  go_wp2_with (at_make; refine wpList_make_full _ rfl _ _ 22 rfl w.heap.size 3 i0 (.int .i64 0) 1 Try.underlying22 hi hz0 hz1 .i64 .i64 _ _ 45 rfl rfl (by omega) (by omega) (by rw [hz2]; omega) (by unfold maxLen; omega) (by simp) ?_)
  intro w1 hown1 hgrow1
  have HBB := hid (grown_of_none hgrow1)
  have hb0 : Blk .i64 3 w1 w.heap.size (tab 45 fun _ => 0) := Blk.made hown1
  have HB := hid hb0
  clear hown1 hgrow1 hb0
  go_wp2
  go_loopw [6] (fun p wr => ∃ k : Nat, k ≤ 45 ∧ p = .int .i64 k ∧ Hid (Blk .i64 3 wr w.heap.size (tab 45 fun s => if s < k then (if s < 19 then 5 else 6) else 0)) ∧ Hid (Below w.heap.size w wr)) (fun p _ => 45 - (intOf p).toNat)
  case atStart => exact ⟨0, by omega, rfl, by unfold Hid; simpa using HB.out, HBB⟩
  case round =>
    clear HB HBB
    obtain ⟨k, hk, rfl, HB, HBB⟩ := hrel
    by_cases hlt : k < 45
    · have hz := HB.out.lt
      have hc := HB.out.cell k (by rw [tab_len]; exact hlt)
      have hf := HB.out.free k (by rw [tab_len]; exact hlt)
      have i1 : (0 : Int) ≤ (k : Int) := by omega
      have i2 : (k : Int) < 45 := by omega
      have i3 : IntKind.i64.wrap (k : Int) = k := wraps_i64 _ (by omega) (by omega)
      by_cases h19 : k < 19
      · have h19' : ¬ (19 : Int) ≤ (k : Int) := by omega
        have e : (tab 45 fun s => if s < k then (if s < 19 then 5 else 6) else 0).set k 5 = (tab 45 fun s => if s < k + 1 then (if s < 19 then 5 else 6) else (0 : Int)) := by
          rw [tab_set _ _ _ _ hlt]
          refine tab_congr fun i hi => ?_
          by_cases h1 : i = k
          · subst h1; rw [if_pos rfl, if_pos (by omega), if_pos h19]
          · rw [if_neg h1]
            by_cases h2 : i < k
            · have h3 : i < k + 1 := by omega
              rw [if_pos h2, if_pos h3]
            · have h3 : ¬ i < k + 1 := by omega
              rw [if_neg h2, if_neg h3]
        have HS := hid (HB.out.set k 5)
        rw [e] at HS
        have HBB2 := hid (bset1 HBB.out w.heap.size k (.int .i64 5) (Nat.le_refl _))
        clear e
        go_wp2
        exact ⟨⟨k + 1, by omega, by go_num, HS, HBB2⟩, by simp [intOf]; omega⟩
      · have h19' : (19 : Int) ≤ (k : Int) := by omega
        have e : ((tab 45 fun s => if s < k then (if s < 19 then 5 else 6) else 0).set k 5).set k 6 = (tab 45 fun s => if s < k + 1 then (if s < 19 then 5 else 6) else (0 : Int)) := by
          rw [tab_set _ _ _ _ hlt, tab_set _ _ _ _ hlt]
          refine tab_congr fun i hi => ?_
          by_cases h1 : i = k
          · subst h1; rw [if_pos rfl, if_pos (by omega), if_neg h19]
          · rw [if_neg h1, if_neg h1]
            by_cases h2 : i < k
            · have h3 : i < k + 1 := by omega
              rw [if_pos h2, if_pos h3]
            · have h3 : ¬ i < k + 1 := by omega
              rw [if_neg h2, if_neg h3]
        have HS := hid ((HB.out.set k 5).set k 6)
        rw [e] at HS
        have HBB2 := hid (bset1 (bset1 HBB.out w.heap.size k (.int .i64 5) (Nat.le_refl _)) w.heap.size k (.int .i64 6) (Nat.le_refl _))
        clear e
        go_wp2
        exact ⟨⟨k + 1, by omega, by go_num, HS, HBB2⟩, by simp [intOf]; omega⟩
    · obtain rfl : k = 45 := by omega
      have e : (tab 45 fun s => if s < 45 then (if s < 19 then 5 else 6) else (0 : Int)) = plF := tab_congr fun i hi => by rw [if_pos hi]
      rw [e] at HB
      clear hlt
      go_wp2
      go_ret
      exact ⟨w.heap.size, rfl, HB.out, Nat.le_refl _, HBB.out⟩
set_option maxHeartbeats 1000000 in
theorem plainres_any (w : World) : Calls Try.prog 25 #[] w fun e w' => ∃ g, e = .returned (.slice (some ⟨g, 0, none⟩) 16 16) ∧ Blk .i64 3 w' g plR ∧ w.heap.size ≤ g ∧ Below w.heap.size w w' := by
  obtain ⟨i0, hi, hz0, hz1, hz2⟩ := info_parts info3
  go_enter Try.func25, Try.ntmps25
  go_wp2_with (at_make; refine wpList_make_full _ rfl _ _ 22 rfl w.heap.size 3 i0 (.int .i64 0) 1 Try.underlying22 hi hz0 hz1 .i64 .i64 _ _ 16 rfl rfl (by omega) (by omega) (by rw [hz2]; omega) (by unfold maxLen; omega) (by simp) ?_)
  intro w1 hown1 hgrow1
  have HBB := hid (grown_of_none hgrow1)
  have hb0 : Blk .i64 3 w1 w.heap.size (tab 16 fun _ => 0) := Blk.made hown1
  have HB := hid hb0
  clear hown1 hgrow1 hb0
  go_wp2
  go_loopw [6] (fun p wr => ∃ k : Nat, k ≤ 16 ∧ p = .int .i64 k ∧ Hid (Blk .i64 3 wr w.heap.size (tab 16 fun s => if s < k then 4 else 0)) ∧ Hid (Below w.heap.size w wr)) (fun p _ => 16 - (intOf p).toNat)
  case atStart => exact ⟨0, by omega, rfl, by unfold Hid; simpa using HB.out, HBB⟩
  case round =>
    clear HB HBB
    obtain ⟨k, hk, rfl, HB, HBB⟩ := hrel
    by_cases hlt : k < 16
    · have hz := HB.out.lt
      have hc := HB.out.cell k (by rw [tab_len]; exact hlt)
      have hf := HB.out.free k (by rw [tab_len]; exact hlt)
      have i1 : (0 : Int) ≤ (k : Int) := by omega
      have i2 : (k : Int) < 16 := by omega
      have i3 : IntKind.i64.wrap (k : Int) = k := wraps_i64 _ (by omega) (by omega)
      have e : (tab 16 fun s => if s < k then 4 else 0).set k 4 = (tab 16 fun s => if s < k + 1 then 4 else (0 : Int)) := by
        rw [tab_set _ _ _ _ hlt]
        refine tab_congr fun i hi => ?_
        by_cases h1 : i = k
        · subst h1; rw [if_pos rfl, if_pos (by omega)]
        · rw [if_neg h1]
          by_cases h2 : i < k
          · have h3 : i < k + 1 := by omega
            rw [if_pos h2, if_pos h3]
          · have h3 : ¬ i < k + 1 := by omega
            rw [if_neg h2, if_neg h3]
      have HS := hid (HB.out.set k 4)
      rw [e] at HS
      have HBB2 := hid (bset1 HBB.out w.heap.size k (.int .i64 4) (Nat.le_refl _))
      clear e
      go_wp2
      exact ⟨⟨k + 1, by omega, by go_num, HS, HBB2⟩, by simp [intOf]; omega⟩
    · obtain rfl : k = 16 := by omega
      have e : (tab 16 fun s => if s < 16 then 4 else (0 : Int)) = plR := tab_congr fun i hi => by rw [if_pos hi]
      rw [e] at HB
      clear hlt
      go_wp2
      go_ret
      exact ⟨w.heap.size, rfl, HB.out, Nat.le_refl _, HBB.out⟩
set_option maxHeartbeats 1000000 in
theorem plain_any (c q : Int) (w : World) : Calls Try.prog 15 #[.int .i64 c, .int .i64 q] w fun e w' => ∃ g1 g2, e = .returned (.agg #[.int .i64 c, .int .i64 q, .slice (some ⟨g1, 0, none⟩) 45 45, .slice (some ⟨g2, 0, none⟩) 16 16]) ∧ Rw .i64 w' (.slice (some ⟨g1, 0, none⟩) 45 45) plF ∧ Rw .i64 w' (.slice (some ⟨g2, 0, none⟩) 16 16) plR ∧ w.heap.size ≤ g1 ∧ w.heap.size ≤ g2 ∧ Below w.heap.size w w' := by
  have hB := B4.new w (.int .i64 0) (.int .i64 0) (.slice none 0 0) (.slice none 0 0) 24
  have hW := below1 w (.cells #[.int .i64 0, .int .i64 0, .slice none 0 0, .slice none 0 0] 24)
  have hf := fun w' => plainfloor_any w'
  have hr := fun w' => plainres_any w'
  go_enter Try.func15, Try.ntmps15
  go_wp2_with (first | (go_at_call 24; refine (hf _).mono ?_; rintro e y1 ⟨g1, rfl, hk1, hg1, hy1⟩; have hB1 := hB.below hy1) | (go_at_call 25; refine (hr _).mono ?_; rintro e y2 ⟨g2, rfl, hk2, hg2, hy2⟩; have hB2 := hB1.below hy2; obtain ⟨gz, g0, g1', g2', g3', j0, j1, j2, j3⟩ := id hB2))
  obtain ⟨gz', p0, p1, p2, p3, q0, q1', q2, q3⟩ := hB2.set (.int .i64 c) (.int .i64 q) (.slice (some ⟨g1, 0, none⟩) 45 45) (.slice (some ⟨g2, 0, none⟩) 16 16)
  have z1 := hy1.size
  have z2 := hy2.size
  simp only [World.size_alloc] at hg1 z1
  have hk1' := hk1.below hy2
  refine bodyPost_ret (v := .agg #[.int .i64 c, .int .i64 q, .slice (some ⟨g1, 0, none⟩) 45 45, .slice (some ⟨g2, 0, none⟩) 16 16]) (by simp [results, Try.results15, go_sem, p0, p1, p2, p3, q0, q1', q2, q3]) rfl ⟨g1, g2, rfl, ?_, ?_, by omega, by omega, ?_⟩
  · exact ((((hk1'.other _ _ _ (by omega)).other _ _ _ (by omega)).other _ _ _ (by omega)).other _ _ _ (by omega)).rw (tab_len _ _)
  · exact ((((hk2.other _ _ _ (by omega)).other _ _ _ (by omega)).other _ _ _ (by omega)).other _ _ _ (by omega)).rw (tab_len _ _)
  · exact bset4 (bthen' (bthen' hW hy1) hy2) w.heap.size _ _ _ _ (Nat.le_refl _)
end Go.Proofs.Ytdgacbelpenmmaa
