/- Contracts of the sizes, by the program and by the document. -/
import Derived.Test.YtiiiejhdeooabaaFb
import Derived.Test.YtiiiejhdeooabaaNb
import Derived.Test.YtiiiejhdeooabaaNd
import Derived.Deep.LoopGhost
namespace Go.Proofs.Ytiiiejhdeooabaa
open Go.RowKit
set_option linter.unusedVariables false
set_option linter.unusedSimpArgs false

theorem info_u64 : (Try.prog.info? 24).map (fun i => (i.zero, i.size, i.bytes)) = some (some (.int .u64 0), 1, 8) := by kernel_rfl
theorem info_int : (Try.prog.info? 3).map (fun i => (i.zero, i.size, i.bytes)) = some (some (.int .i64 0), 1, 8) := by kernel_rfl
theorem info_i64 : (Try.prog.info? 2).map (fun i => (i.zero, i.size, i.bytes)) = some (some (.int .i64 0), 1, 8) := by kernel_rfl

/-- The block g holds the numbers xs, and no more. -/
def Blk (k : IntKind) (t : TypeId) (w : World) (g : Nat) (xs : List Int) : Prop := w.heap[g]? = some (.cells (xs.map (Value.int k)).toArray t (0, 0))
theorem Blk.lt {k : IntKind} {t : TypeId} {w : World} {g : Nat} {xs : List Int} (h : Blk k t w g xs) : g < w.heap.size := block_in h
theorem Blk.cell {k : IntKind} {t : TypeId} {w : World} {g : Nat} {xs : List Int} (h : Blk k t w g xs) (i : Nat) (hi : i < xs.length) : w.cell? ⟨g, i, none⟩ = some (.int k (xs.getD i 0)) := (cell_of_row h i hi).1
theorem Blk.free {k : IntKind} {t : TypeId} {w : World} {g : Nat} {xs : List Int} (h : Blk k t w g xs) (i : Nat) (hi : i < xs.length) : w.frozen? ⟨g, i, none⟩ = false := (cell_of_row h i hi).2
theorem Blk.set {k : IntKind} {t : TypeId} {w : World} {g : Nat} {xs : List Int} (h : Blk k t w g xs) (i : Nat) (y : Int) : Blk k t (w.setCell ⟨g, i, none⟩ (.int k y)) g (xs.set i y) := row_set h i y
theorem Blk.below {k : IntKind} {t : TypeId} {w w' : World} {g : Nat} {xs : List Int} (h : Blk k t w g xs) (hb : Below w.heap.size w w') : Blk k t w' g xs := (hb.block _ h.lt).trans h
theorem Blk.other {k : IntKind} {t : TypeId} {w : World} {g : Nat} {xs : List Int} (h : Blk k t w g xs) (c o : Nat) (y : Value) (hne : g ≠ c) : Blk k t (w.setCell ⟨c, o, none⟩ y) g xs := (heap_setCell_other _ _ _ _ hne).trans h
theorem Blk.rw {k : IntKind} {t : TypeId} {w : World} {g n c : Nat} {xs : List Int} (h : Blk k t w g xs) (hn : xs.length = n) : Rw k w (.slice (some ⟨g, 0, none⟩) n c) xs := Rw.of_row h hn
theorem Blk.made {k : IntKind} {t : TypeId} {w : World} {g n base : Nat} (h : w.ownsRow base t 1 (.slice (some ⟨g, 0, none⟩) n n) n (madeCells #[.int k 0] n).toList) : Blk k t w g (tab n fun _ => 0) := by
  have := (owns_full h).1
  rw [made_one] at this
  unfold Blk
  rw [← tab_zero, List.map_replicate]
  exact this

theorem cnt_up {B : Nat → Nat} (H : Counts B) (k : Nat) : ∀ g : Nat, g < 2 ^ k → k ≤ 64 → B g ≤ k := by
  induction k with
  | zero => intro g hg _; have : g = 0 := by omega
            subst this; rw [H.zero]; omega
  | succ k ih =>
    intro g hg hk
    by_cases h0 : g = 0
    · subst h0; rw [H.zero]; omega
    · have h64 : g < 2 ^ 64 := Nat.lt_of_lt_of_le hg (Nat.pow_le_pow_right (by decide) hk)
      have := ih (g / 2) (by rw [Nat.pow_succ] at hg; omega) (by omega)
      have := H.half g h0 h64
      omega
theorem cnt_down {B : Nat → Nat} (H : Counts B) (k : Nat) : ∀ g : Nat, 2 ^ k ≤ g → g < 2 ^ 64 → k + 1 ≤ B g := by
  induction k with
  | zero => intro g hg h64
            have := H.half g (by simp at hg; omega) h64
            omega
  | succ k ih =>
    intro g hg h64
    rw [Nat.pow_succ] at hg
    have hp : 0 < 2 ^ k := Nat.pow_pos (by decide)
    have := ih (g / 2) (by omega) (by omega)
    have := H.half g (by omega) h64
    omega
/-- By a logarithm: how many bits sizes are shifted. -/
def LogIs (l : Int) (g : Nat) : Prop := -1 ≤ l ∧ l ≤ 63 ∧ ((l + 1 - 18 ≤ 0 ∧ dn g = 0) ∨ (0 ≤ l + 1 - 18 ∧ l + 1 - 18 = dn g))
theorem log_any (g : Nat) (hg : g ≤ 1048576) (w : World) : Calls Try.prog 35 #[.int .u64 g] w fun e w' => ∃ l : Int, e = .returned (.int .i64 l) ∧ w' = w ∧ LogIs l g := by
  have H : Counts Lib.bitLen := ⟨by decide, fun x h0 h => Lib.bitLen_half x h0 h, fun x h => Lib.bitLen_le x 64 (by omega) h, by decide⟩
  have hc := logP_of Lib.bitLen g (H.le g (by omega)) (fun w => len_any (g : Int) (by omega) (by omega) w) w
  have key : LogIs ((Lib.bitLen g : Int) - 1) g := by
    have l1 := H.le g (by omega)
    have u18 := cnt_up H 18 g
    have u19 := cnt_up H 19 g
    have u20 := cnt_up H 20 g
    have u21 := cnt_up H 21 g
    have d18 := cnt_down H 18 g
    have d19 := cnt_down H 19 g
    have d20 := cnt_down H 20 g
    unfold LogIs dn
    generalize Lib.bitLen g = b at *
    by_cases c1 : g < 262144
    · rw [if_pos c1]; have := u18 (by omega) (by omega); refine ⟨by omega, by omega, .inl ⟨by omega, rfl⟩⟩
    · rw [if_neg c1]
      have := d18 (by omega) (by omega)
      by_cases c2 : g < 524288
      · rw [if_pos c2]; have := u19 (by omega) (by omega); refine ⟨by omega, by omega, .inr ⟨by omega, by omega⟩⟩
      · rw [if_neg c2]
        have := d19 (by omega) (by omega)
        by_cases c3 : g < 1048576
        · rw [if_pos c3]; have := u20 (by omega) (by omega); refine ⟨by omega, by omega, .inr ⟨by omega, by omega⟩⟩
        · rw [if_neg c3]
          have := d20 (by omega) (by omega)
          have := u21 (by omega) (by omega)
          refine ⟨by omega, by omega, .inr ⟨by omega, by omega⟩⟩
  refine hc.mono ?_
  rintro e w' ⟨rfl, rfl⟩
  exact ⟨_, rfl, rfl, key⟩

theorem max3 (m : Nat) (u : Int) : (if (if (m : Int) < u then u else (m : Int)) < -u then -u else if (m : Int) < u then u else (m : Int)) = ((max m u.natAbs : Nat) : Int) := by
  by_cases h : (m : Int) < u
  · rw [if_pos h, if_neg (by omega)]; omega
  · rw [if_neg h]; split <;> omega
theorem max2 (u : Int) : (if u < -u then -u else u) = (u.natAbs : Nat) := by split <;> omega

theorem log_max {l : Int} {g d : Nat} (h : LogIs l g) (hd : dn g = d) : max 0 (l + 1 - 18) = (d : Int) := by
  obtain ⟨_, _, h⟩ := h
  rw [hd] at h
  omega

set_option maxHeartbeats 2000000 in
theorem shifted_any (v : Value) (x : List Int) (w : World) (hv : Rw .i64 w v x) (h : fairX x = true) : Calls Try.prog 23 #[v] w fun e w' => ∃ g : Nat, e = .returned (.slice (some ⟨g, 0, none⟩) x.length x.length) ∧ w.heap.size ≤ g ∧ Blk .u64 24 w' g (szs x) ∧ Below w.heap.size w w' := by
  obtain ⟨i0, hi, hz0, hz1, hz2⟩ := info_parts info_u64
  obtain ⟨h1, h2, h3⟩ := fairX_parts h
  obtain ⟨a, cap, rfl, ha⟩ := hv
  obtain ⟨b, off, rfl, hlt, hc⟩ := ha.resolve_left (by intro h; subst h; simp at h1)
  clear ha
  have HC : Hid (∀ i, i < x.length → w.cell? ⟨b, off + i, none⟩ = some (.int .i64 (x.getD i 0))) := hc
  clear hc
  have i1 : (x.length : Int) ≤ 16 := by omega
  have H3 : Hid (∀ i, -1048576 ≤ x.getD i 0 ∧ x.getD i 0 ≤ 1048576) := h3
  have HM : Hid (∀ j, mx x j ≤ 1048576) := mx_le x 1048576 (fun j => by have := h3 j; omega)
  clear h3
  go_enter Try.func23, Try.ntmps23
  go_wp2
  go_loop [3, 14] (fun s i => ∃ j : Nat, j ≤ x.length ∧ i = .int .i64 j ∧ s = .int .i64 (mx x j : Nat)) (fun _ i => x.length - (intOf i).toNat)
  case atStart => exact ⟨0, by omega, rfl, rfl⟩
  case round =>
    obtain ⟨j, hj, rfl, rfl⟩ := hrel
    have hm := HM.out j
    by_cases hl : j < x.length
    · have g := HC.out j hl
      obtain ⟨b1, b2⟩ := H3.out j
      have HN : Hid (mx x (j + 1) = max (mx x j) (x.getD j 0).natAbs) := rfl
      generalize x.getD j 0 = u at *
      generalize mx x j = m at *
      go_wp2
      exact ⟨⟨j + 1, by omega, by go_num, by rw [HN.out, max3]⟩, by simp [intOf]; omega⟩
    · have hje : j = x.length := by omega
      have hlog := fun w => log_any (mx x j) (HM.out _) w
      have HMX : Hid (mx x x.length = mx x j) := by unfold Hid; rw [hje]
      generalize mx x j = m at *
      have hd3 := dn_le m
      obtain ⟨d, hd⟩ : ∃ d, dn m = d := ⟨_, rfl⟩
      have HS : Hid (szs x = tab x.length (szf x d)) := by unfold Hid szs; rw [HMX.out, hd]
      rw [hd] at hd3
      have HD : Hid _ := hd
      clear hd hje HMX
      go_wp2_with (first | (go_at_call 35; refine (hlog _).mono ?_; rintro e w9 ⟨l, rfl, h9, hl9⟩; have h9 := h9.symm; subst h9; have hmax : max 0 (l + 1 - 18) = (d : Int) := log_max hl9 HD.out; obtain ⟨l1, l2, -⟩ := hl9) | (at_make; refine wpList_make_full _ rfl _ _ 45 rfl w.heap.size 24 i0 (.int .u64 0) 1 Try.underlying45 hi hz0 hz1 .i64 .i64 _ _ x.length rfl rfl (by omega) (by omega) (by rw [hz2]; omega) (by unfold maxLen; omega) (by simp) ?_))
      intro w5 hown5 hgrow5
      have hb5 := grown_of_none hgrow5
      have HB5 : Hid _ := Blk.made hown5
      clear hown5 hgrow5 hlog hmax
      go_wp2
      go_loopw [35] (fun i wr => ∃ j : Nat, j ≤ x.length ∧ i = .int .i64 j ∧ Hid (Blk .u64 24 wr w.heap.size (tab x.length fun i => if i < j then szf x d i else 0)) ∧ Below w.heap.size w wr) (fun i _ => x.length - (intOf i).toNat)
      case atStart => exact ⟨0, by omega, rfl, by simp; exact HB5, hb5⟩
      case round =>
        clear HB5 hb5
        obtain ⟨j, hj, rfl, HB, hbr⟩ := hrel
        by_cases hl : j < x.length
        · have g := (hbr.cell (p := ⟨b, off + j, none⟩) hlt).trans (HC.out j hl)
          obtain ⟨b1, b2⟩ := H3.out j
          have c1 := HB.out.cell j (by rw [tab_len]; exact hl)
          have c2 := HB.out.free j (by rw [tab_len]; exact hl)
          have R : Hid _ := HB.out.set j (szf x d j)
          rw [tab_set _ _ _ _ hl] at R
          have HF : Hid (szf x d j = ((x.getD j 0).natAbs : Int) / 2 ^ d) := by unfold Hid szf; simp
          have hsh := fun w => shiftP_any (((x.getD j 0).natAbs : Nat) : Int) d (by unfold I64; omega) (by omega) w
          have hq1 : (0 : Int) ≤ ((x.getD j 0).natAbs : Int) / 2 ^ d := by rw [← HF.out]; exact szf_pos _ _ _
          have hq2 : ((x.getD j 0).natAbs : Int) / 2 ^ d ≤ 1048576 := by rw [← HF.out]; have := szf_le x d j; omega
          have m1 := max2 (x.getD j 0)
          have m2 : max (x.getD j 0) (-(x.getD j 0)) = ((x.getD j 0).natAbs : Nat) := by omega
          rw [tab_at _ _ _ hl, if_neg (by omega)] at c1
          generalize ((x.getD j 0).natAbs : Int) / 2 ^ d = q at *
          generalize (x.getD j 0).natAbs = N at *
          generalize x.getD j 0 = u at *
          clear HB
          go_wp2_with (go_at_call 36; refine (hsh _).mono ?_; rintro e w9 ⟨rfl, h9⟩; have h9 := h9.symm; subst h9)
          refine ⟨⟨j + 1, by omega, by go_num, ?_, hbr.setCell (p := ⟨w.heap.size, j, none⟩) (Nat.le_refl _) _⟩, by simp [intOf]; omega⟩
          have := R.out
          rw [HF.out] at this
          unfold Hid
          rw [show (tab x.length fun i => if i < j + 1 then szf x d i else 0) = tab x.length fun i => if i = j then q else if i < j then szf x d i else 0 from tab_congr fun i hi => by
            by_cases e : i = j
            · subst e; rw [if_pos (by omega), if_pos rfl, HF.out]
            · rw [if_neg e]
              by_cases e2 : i < j
              · rw [if_pos (by omega), if_pos e2]
              · rw [if_neg (by omega), if_neg e2]]
          exact this
        · have hje : j = x.length := by omega
          have HB2 : Hid (Blk .u64 24 wr w.heap.size (szs x)) := by
            unfold Hid
            rw [HS.out, show (tab x.length (szf x d)) = tab x.length fun i => if i < j then szf x d i else 0 from tab_congr fun i hi => by rw [if_pos (by omega)]]
            exact HB.out
          clear HB hje
          go_wp2
          go_ret
          exact ⟨w.heap.size, rfl, Nat.le_refl _, HB2.out, hbr⟩
end Go.Proofs.Ytiiiejhdeooabaa
