/- Contracts of the shapes, by the program and by the document. -/
import Derived.Test.YtiiiejhdeooabaaFi
import Derived.Test.YtiiiejhdeooabaaEj
namespace Go.Proofs.Ytiiiejhdeooabaa
open Go.RowKit
set_option linter.unusedVariables false
set_option linter.unusedSimpArgs false

/-- A shape at a place. -/
def shf (y : List Int) (r : Int) (s i : Nat) : Int := near (y.getD i 0 * r * 256) s
theorem near_zero (b : Int) : near 0 b = 0 := by unfold near; simp
theorem near_neg (a b : Int) : near (-a) b = -near a b := by
  unfold near
  rw [Int.neg_tmod, Int.neg_tdiv]
  generalize a.tmod b = r
  generalize a.tdiv b = q
  by_cases c1 : 0 < r ∧ b - r ≤ r
  · rw [if_pos c1, if_neg (by omega), if_pos (by omega)]; omega
  · rw [if_neg c1]
    by_cases c2 : r < 0 ∧ b + r ≤ -r
    · rw [if_pos c2, if_pos (by omega)]; omega
    · rw [if_neg c2, if_neg (by omega), if_neg (by omega)]
theorem near_le (v r s : Int) (h0 : 0 ≤ v) (hr : 0 ≤ r) (hs : 1 ≤ s) (h : 256 * v ≤ s) : 0 ≤ near (v * r * 256) s ∧ near (v * r * 256) s ≤ r := by
  obtain ⟨n1, n2⟩ := near_near (v * r * 256) s hs
  have a0 : 0 ≤ v * r := Int.mul_nonneg h0 hr
  have a1 : v * r * 256 = 256 * v * r := by grind
  have a2 : 256 * v * r ≤ s * r := Int.mul_le_mul_of_nonneg_right h hr
  generalize near (v * r * 256) s = z at *
  constructor
  · by_cases c : 0 ≤ z
    · exact c
    · exfalso
      have : z * s ≤ (-1) * s := Int.mul_le_mul_of_nonneg_right (by omega) (by omega)
      omega
  · by_cases c : z ≤ r
    · exact c
    · exfalso
      have : (r + 1) * s ≤ z * s := Int.mul_le_mul_of_nonneg_right (by omega) (by omega)
      have e : (r + 1) * s = s * r + s := by grind
      omega
theorem root_each {N s : Nat} (h : Root (65536 * N) s) (v : Nat) (hv : v * v ≤ N) : 256 * v ≤ s := by
  by_cases c : 256 * v ≤ s
  · exact c
  · exfalso
    have h1 : (s + 1) * (s + 1) ≤ (256 * v) * (256 * v) := Nat.mul_le_mul (by omega) (by omega)
    have h2 : (256 * v) * (256 * v) = 65536 * (v * v) := by grind
    have := h.2
    omega
theorem root_pos {N s : Nat} (h : Root (65536 * N) s) (hN : 1 ≤ N) : 256 ≤ s := by
  have := root_each h 1 (by omega)
  omega
theorem root_small {N s : Nat} (h : Root (65536 * N) s) (hN : N ≤ 144) : s ≤ 3072 := by
  by_cases c : s ≤ 3072
  · exact c
  · exfalso
    have h1 : 3073 * 3073 ≤ s * s := Nat.mul_le_mul (by omega) (by omega)
    have := h.1
    omega
theorem root_any (n : Nat) : ∃ r, Root n r := by
  induction n with
  | zero => exact ⟨0, by omega, by omega⟩
  | succ n ih =>
    obtain ⟨r, h1, h2⟩ := ih
    by_cases c : n + 1 < (r + 1) * (r + 1)
    · exact ⟨r, by omega, c⟩
    · refine ⟨r + 1, by omega, ?_⟩
      have : (r + 1) * (r + 1) < (r + 1 + 1) * (r + 1 + 1) := Nat.mul_lt_mul_of_lt_of_le (by omega) (by omega) (by omega)
      omega
theorem rootP (n r : Nat) (hn : n < 2 ^ 64) (hr : Root n r) (w : World) : Calls Try.prog 31 #[.int .u64 n] w fun e w' => e = .returned (.int .u64 (r : Nat)) ∧ w' = w := by
  refine (sqrtP_any n hn w).mono ?_
  rintro e w' ⟨s, rfl, rfl, hs, _⟩
  exact ⟨ret_int (by rw [hs.one hr]), rfl⟩
theorem rootR (n r : Nat) (hn : n < 2 ^ 64) (hr : Root n r) (w : World) : Calls Try.prog 20 #[.int .u64 n] w fun e w' => e = .returned (.int .u64 (r : Nat)) ∧ w' = w := by
  refine (sqrtR_any n hn w).mono ?_
  rintro e w' ⟨s, rfl, rfl, hs, _⟩
  exact ⟨ret_int (by rw [hs.one hr]), rfl⟩
/-- Pulses: their sizes, their squares. -/
theorem ps_getD (y : List Int) (i : Nat) : (y.getD i 0).natAbs ≤ ps y := by
  by_cases h : i < y.length
  · have := ps_at y i h; omega
  · rw [List.getD_eq_getElem?_getD, List.getElem?_eq_none (by omega)]; simp
theorem sq_pulses (y : List Int) (j : Nat) (hj : j ≤ y.length) : sq y j ≤ ps (y.take j) * ps (y.take j) := by
  induction j with
  | zero => simp [sq]
  | succ j ih =>
    have h1 := ih (by omega)
    have h2 := ps_next y j (by omega)
    simp only [sq]
    rw [h2]
    generalize ps (y.take j) = p at *
    generalize (y.getD j 0).natAbs = v at *
    have : (p + v) * (p + v) = p * p + 2 * (p * v) + v * v := by grind
    omega
theorem sq_144 (y : List Int) (h : ps y ≤ 12) (j : Nat) (hj : j ≤ y.length) : sq y j ≤ 144 := by
  have h1 := sq_pulses y j hj
  have h2 := ps_take y j
  have : ps (y.take j) * ps (y.take j) ≤ 12 * 12 := Nat.mul_le_mul (by omega) (by omega)
  omega
theorem sq_zero (y : List Int) (n : Nat) (h : sq y n = 0) (i : Nat) (hi : i < n) : y.getD i 0 = 0 := by
  have h1 := sq_at y i n hi
  rw [h] at h1
  have h2 : (y.getD i 0).natAbs * (y.getD i 0).natAbs = 0 := by omega
  rcases Nat.mul_eq_zero.1 h2 with e | e <;> omega

theorem shape_no (v : Value) (y : List Int) (r : Int) (w : World) (hv : Rw .i64 w v y) (hf : Fits y) (h : okB y = false ∨ r < 0 ∨ 4194304 < r) : Calls Try.prog 16 #[v, .int .i64 r] w fun e w' => e = .returned (.tuple #[.slice none 0 0, .int .i64 1]) ∧ Below w.heap.size w w' := by
  cases hy : okB y
  · clear h
    go_enter Try.func16, Try.ntmps16
    go_wp2_with (go_at_call 30; refine (index_no v y _ hv hf hy).mono ?_; rintro e w1 ⟨rfl, rfl⟩)
    go_ret2
    exact ⟨rfl, Below.refl _ _⟩
  · rw [hy] at h
    by_cases h0 : r < 0
    · clear h
      go_enter Try.func16, Try.ntmps16
      go_wp2_with (go_at_call 30; refine (index_ok v y _ hv hf hy).mono ?_; rintro e w1 ⟨rfl, hb1⟩)
      go_ret2
      exact ⟨rfl, hb1⟩
    · have h1 : 4194304 < r := by
        rcases h with h | h | h
        · cases h
        · exact absurd h h0
        · exact h
      clear h
      go_enter Try.func16, Try.ntmps16
      go_wp2_with (go_at_call 30; refine (index_ok v y _ hv hf hy).mono ?_; rintro e w1 ⟨rfl, hb1⟩)
      go_ret2
      exact ⟨rfl, hb1⟩

theorem prod_small (u r : Int) (h1 : -12 ≤ u) (h2 : u ≤ 12) (h3 : 0 ≤ r) (h4 : r ≤ 4194304) : -50331648 ≤ u * r ∧ u * r ≤ 50331648 := by
  have a1 : u * r ≤ 12 * r := Int.mul_le_mul_of_nonneg_right h2 h3
  have a2 : (-12) * r ≤ u * r := Int.mul_le_mul_of_nonneg_right h1 h3
  omega

set_option maxHeartbeats 4000000 in
theorem shape_ok (v : Value) (y : List Int) (r : Int) (s : Nat) (w : World) (hv : Rw .i64 w v y) (hf : Fits y) (h : okB y = true) (r1 : 0 ≤ r) (r2 : r ≤ 4194304) (hs : Root (65536 * sq y y.length) s) : Calls Try.prog 16 #[v, .int .i64 r] w fun e w' => ∃ g : Nat, e = .returned (.tuple #[.slice (some ⟨g, 0, none⟩) y.length y.length, .int .i64 0]) ∧ w.heap.size ≤ g ∧ Blk .i64 2 w' g (tab y.length (shf y r s)) ∧ Below w.heap.size w w' := by
  obtain ⟨i0, hi, hz0, hz1, hz2⟩ := info_parts info_i64
  obtain ⟨h1, h2, h3⟩ := okB_parts h
  have hix := fun w hv => index_ok v y w hv hf h
  have hv0 := hv
  obtain ⟨a, cap, rfl, ha⟩ := hv
  obtain ⟨b, off, rfl, hlt, hc⟩ := ha.resolve_left (by intro h; subst h; simp at h1)
  clear ha
  have HC : Hid (∀ i, i < y.length → w.cell? ⟨b, off + i, none⟩ = some (.int .i64 (y.getD i 0))) := hc
  clear hc
  have i1 : (y.length : Int) ≤ 16 := by omega
  have HP : Hid (∀ i, (y.getD i 0).natAbs ≤ 12) := fun i => by have := ps_getD y i; omega
  have HQ : Hid (∀ j, j ≤ y.length → sq y j ≤ 144) := fun j hj => sq_144 y h3 j hj
  have HR := hid hs
  clear hs h
  generalize ix y.length (ps y) y = X at hix
  go_enter Try.func16, Try.ntmps16
  go_wp2_with (go_at_call 30; refine (hix _ hv0).mono ?_; rintro e w1 ⟨rfl, hb1⟩)
  clear hix hv0
  go_loop [8, 32] (fun s i => ∃ j : Nat, j ≤ y.length ∧ i = .int .i64 j ∧ s = .int .u64 (sq y j : Nat)) (fun _ i => y.length - (intOf i).toNat)
  case atStart => exact ⟨0, by omega, rfl, rfl⟩
  case round =>
    obtain ⟨j, hj, rfl, rfl⟩ := hrel
    have hq := HQ.out j hj
    by_cases hl : j < y.length
    · have g := (hb1.cell (p := ⟨b, off + j, none⟩) hlt).trans (HC.out j hl)
      have hb := HP.out j
      have hcc : (y.getD j 0).natAbs * (y.getD j 0).natAbs ≤ 12 * 12 := Nat.mul_le_mul hb hb
      have HN : Hid (sq y (j + 1) = sq y j + (y.getD j 0).natAbs * (y.getD j 0).natAbs) := rfl
      have hm := natAbs_sq (y.getD j 0)
      have b1 : -12 ≤ y.getD j 0 := by omega
      have b2 : y.getD j 0 ≤ 12 := by omega
      generalize y.getD j 0 = u at *
      generalize u.natAbs * u.natAbs = A at *
      generalize sq y j = q at *
      replace hm := hm.symm
      clear hb
      go_wp2
      exact ⟨⟨j + 1, by omega, by go_num, by rw [HN.out]; go_num⟩, by simp [intOf]; omega⟩
    · have hje : j = y.length := by omega
      have HN : Hid (sq y y.length = sq y j) := by unfold Hid; rw [hje]
      rw [HN.out] at HR
      clear hje
      obtain ⟨N, hN⟩ : ∃ N, sq y j = N := ⟨_, rfl⟩
      rw [hN] at HR hq HN ⊢
      clear hN
      by_cases h0 : N = 0
      · subst h0
        have HZ : Hid (tab y.length (shf y r s) = tab y.length fun _ => 0) := tab_congr fun i hi => by
          unfold shf; rw [sq_zero y y.length HN.out i hi]; simp [near_zero]
        go_wp2_with (at_make; refine wpList_make_full _ rfl _ _ 22 rfl w1.heap.size 2 i0 (.int .i64 0) 1 Try.underlying22 hi hz0 hz1 .i64 .i64 _ _ y.length rfl rfl (by omega) (by omega) (by rw [hz2]; omega) (by unfold maxLen; omega) (by simp) ?_)
        intro w5 hown5 hgrow5
        have hb5 := grown_of_none hgrow5
        have HB5 := hid (Blk.made hown5)
        clear hown5 hgrow5
        go_wp2
        go_ret2
        exact ⟨w1.heap.size, rfl, hb1.size, by rw [HZ.out]; exact HB5.out, bthen' hb1 hb5⟩
      · have hN1 : 1 ≤ N := by omega
        have hs1 := root_pos HR.out hN1
        have hs2 := root_small HR.out hq
        have hrt := fun w => rootP (65536 * N) s (by omega) HR.out w
        have eN : ((65536 * N : Nat) : Int) = 65536 * (N : Int) := by omega
        rw [eN] at hrt
        have hne : ((N : Int) == 0) = false := by simp; omega
        have HDV : Hid (∀ i w, Calls Try.prog 32 #[.int .i64 (y.getD i 0 * r * 256), .int .i64 (s : Nat)] w fun e w' => e = .returned (.tuple #[.int .i64 (shf y r s i), .int .i64 0]) ∧ Below w.heap.size w w') := fun i w => by
          have p := prod_small (y.getD i 0) r (by have := HP.out i; omega) (by have := HP.out i; omega) r1 r2
          exact divP_any (y.getD i 0 * r * 256) s (by unfold I64; omega) (by omega) (by unfold I64; omega) w
        clear h0 eN
        go_wp2_with (first | (at_make; refine wpList_make_full _ rfl _ _ 22 rfl w1.heap.size 2 i0 (.int .i64 0) 1 Try.underlying22 hi hz0 hz1 .i64 .i64 _ _ y.length rfl rfl (by omega) (by omega) (by rw [hz2]; omega) (by unfold maxLen; omega) (by simp) ?_) | fail)
        intro w5 hown5 hgrow5
        have hb5 := grown_of_none hgrow5
        have HB5 := hid (Blk.made hown5)
        have hB5 := bthen' hb1 hb5
        have hws := hb1.size
        clear hown5 hgrow5
        go_wp2_with (go_at_call 31; refine (hrt _).mono ?_; rintro e w9 ⟨rfl, h9⟩; have h9 := h9.symm; subst h9)
        go_loopw [55] (fun i wr => ∃ j : Nat, j ≤ y.length ∧ i = .int .i64 j ∧ Hid (Blk .i64 2 wr w1.heap.size (tab y.length fun i => if i < j then shf y r s i else 0)) ∧ Below w.heap.size w wr) (fun i _ => y.length - (intOf i).toNat)
        case atStart => exact ⟨0, by omega, rfl, by simp; exact HB5, hB5⟩
        case round =>
          clear HB5 hb5 hB5 hrt
          obtain ⟨j, hj, rfl, HB, hbr⟩ := hrel
          by_cases hl2 : j < y.length
          · have g := (hbr.cell (p := ⟨b, off + j, none⟩) hlt).trans (HC.out j hl2)
            have hdv := HDV.out j
            have hbp := HP.out j
            obtain ⟨p1, p2⟩ := prod_small (y.getD j 0) r (by omega) (by omega) r1 r2
            have HE : Hid ((tab y.length fun i => if i < j + 1 then shf y r s i else 0) = (tab y.length fun i => if i < j then shf y r s i else 0).set j (shf y r s j)) := by
              unfold Hid
              rw [tab_set _ _ _ _ hl2]
              refine tab_congr fun i hi => ?_
              by_cases e : i = j
              · subst e; rw [if_pos (by omega), if_pos rfl]
              · rw [if_neg e]
                by_cases e2 : i < j
                · rw [if_pos (by omega), if_pos e2]
                · rw [if_neg (by omega), if_neg e2]
            generalize hS : (tab y.length fun i => if i < j then shf y r s i else 0) = T at *
            have HL : Hid (T.length = y.length) := by rw [← hS]; exact tab_len _ _
            clear hS
            generalize shf y r s j = z at *
            have b1 : -12 ≤ y.getD j 0 := by omega
            have b2 : y.getD j 0 ≤ 12 := by omega
            generalize y.getD j 0 = u at *
            obtain ⟨M, hM⟩ : ∃ M, u * r = M := ⟨_, rfl⟩
            rw [hM] at p1 p2 hdv
            clear hbp
            go_wp2_with (go_at_call 32; refine (hdv _).mono ?_; rintro e w2 ⟨rfl, hb2⟩; have hB2 := HB.out.below hb2; have c1 := hB2.cell j (by rw [HL.out]; exact hl2); have c2 := hB2.free j (by rw [HL.out]; exact hl2))
            refine ⟨⟨j + 1, by omega, by go_num, ?_, (bthen hbr hb2 hbr.size).setCell (p := ⟨w1.heap.size, j, none⟩) hws _⟩, by simp [intOf]; omega⟩
            rw [HE.out]
            exact hB2.set j z
          · have R : Hid (Blk .i64 2 wr w1.heap.size (tab y.length (shf y r s))) := by
              unfold Hid
              rw [show tab y.length (shf y r s) = tab y.length fun i => if i < j then shf y r s i else 0 from tab_congr fun i hi => by rw [if_pos (by omega)]]
              exact HB.out
            clear HB
            go_wp2
            go_ret2
            exact ⟨w1.heap.size, rfl, hws, R.out, hbr⟩
end Go.Proofs.Ytiiiejhdeooabaa
