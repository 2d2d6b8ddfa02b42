/- Contracts: which lists are taken, by the program and by the document; pairs parted and joined; two lists the same. -/
import Derived.Test.YtdfihdkkidekjaaDoorRows
import Derived.Test.YtdfihdkkidekjaaDoorGa
import Derived.Test.YtdfihdkkidekjaaDoorNb
import Derived.Deep.QuietTactic
namespace Go.Proofs.YtdfihdkkidekjaaDoor
open Go.RowKit
set_option linter.unusedVariables false
set_option linter.unusedSimpArgs false

theorem info_i64 : (Tryd.prog.info? 2).map (fun i => (i.zero, i.size, i.bytes)) = some (some (.int .i64 0), 1, 8) := by kernel_rfl

set_option maxHeartbeats 1000000 in
theorem fits_any (v : Value) (x : List Int) (B : Int) (w : World) (hv : Rw .i64 w v x) (hf : Fits x) (hn : x.length ≤ 200) (b0 : 0 ≤ B) (b1 : B ≤ 67108864) : Calls Tryd.prog 45 #[v, .int .i64 B] w fun e w' => e = .returned (.bool (okS B x)) ∧ w' = w := by
  obtain ⟨a, cap, rfl, ha⟩ := hv
  by_cases hs : x.length ≠ 2 ∧ x.length ≠ 4 ∧ x.length ≠ 8 ∧ x.length ≠ 16 ∧ x.length ≠ 32
  · have HO : Hid (okS B x = false) := okS_size hs
    obtain ⟨c1, c2, c3, c4, c5⟩ := hs
    obtain ⟨N, hN⟩ : ∃ N : Int, (x.length : Int) = N := ⟨_, rfl⟩
    have d1 : (N == 2) = false := by simp; omega
    have d2 : (N == 4) = false := by simp; omega
    have d3 : (N == 8) = false := by simp; omega
    have d4 : (N == 16) = false := by simp; omega
    have d5 : (N == 32) = false := by simp; omega
    clear c1 c2 c3 c4 c5 hn ha
    go_enter Tryd.func45, Tryd.ntmps45
    go_wp2
    go_ret
    exact ⟨ret_bool HO.out.symm, rfl⟩
  have HO : Hid (∀ h : Bd (-B) B x, okS B x = true) := fun h => by
    have : x.length = 2 ∨ x.length = 4 ∨ x.length = 8 ∨ x.length = 16 ∨ x.length = 32 := by omega
    rcases this with e | e | e | e | e
    · exact okS_of 0 (by omega) e h
    · exact okS_of 1 (by omega) e h
    · exact okS_of 2 (by omega) e h
    · exact okS_of 3 (by omega) e h
    · exact okS_of 4 (by omega) e h
  obtain ⟨b, off, rfl, hlt, hc⟩ := ha.resolve_left (by intro h; subst h; simp at hs)
  clear ha
  obtain ⟨n, hxn⟩ : ∃ n, x.length = n := ⟨_, rfl⟩
  have HC : Hid (∀ i, i < n → w.cell? ⟨b, off + i, none⟩ = some (.int .i64 (x.getD i 0))) := by rw [← hxn]; exact hc
  have HT : Hid (∀ h : (∀ i, i < n → -B ≤ x.getD i 0 ∧ x.getD i 0 ≤ B), okS B x = true) := fun h => HO.out (by rw [← hxn] at h; exact h)
  have HF : Hid (∀ i, i < n → (x.getD i 0 < -B ∨ B < x.getD i 0) → okS B x = false) := fun i hi h => okS_at (by rw [hxn]; exact hi) h
  have HL : Hid (Fits x) := hf
  rw [hxn] at hs hn ⊢
  clear hc HO hf hxn
  obtain ⟨m, hm⟩ : ∃ m, m = n := ⟨_, rfl⟩
  have HM : Hid (m = n) := hm
  clear hm
  have hq : n = 2 ∨ n = 4 ∨ n = 8 ∨ n = 16 ∨ n = 32 := by omega
  clear hs hn
  rcases hq with rfl | rfl | rfl | rfl | rfl
  all_goals
    go_enter Tryd.func45, Tryd.ntmps45
    go_wp2
    go_loop [17] (fun i => ∃ j : Nat, j ≤ m ∧ i = .int .i64 j ∧ ∀ i, i < j → -B ≤ x.getD i 0 ∧ x.getD i 0 ≤ B) (fun i => m - (intOf i).toNat)
    case atStart => exact ⟨0, by omega, rfl, fun i hi => by omega⟩
    case round =>
      obtain ⟨j, hj, rfl, hall⟩ := hrel
      have HA : Hid (∀ i, i < j → -B ≤ x.getD i 0 ∧ x.getD i 0 ≤ B) := hall
      clear hall
      have HJ : Hid (j ≤ m) := hj
      rw [HM.out] at hj
      by_cases hl : j < m
      · have HJ2 : Hid (j < m) := hl
        rw [HM.out] at hl
        have g := HC.out j hl
        have hff := HL.out j
        by_cases c1 : x.getD j 0 < -B
        · have HO : Hid (okS B x = false) := HF.out j hl (.inl c1)
          generalize x.getD j 0 = u at *
          go_wp2
          go_ret
          exact ⟨ret_bool HO.out.symm, rfl⟩
        · by_cases c2 : B < x.getD j 0
          · have HO : Hid (okS B x = false) := HF.out j hl (.inr c2)
            generalize x.getD j 0 = u at *
            go_wp2
            go_ret
            exact ⟨ret_bool HO.out.symm, rfl⟩
          · have HB : Hid (-B ≤ x.getD j 0 ∧ x.getD j 0 ≤ B) := ⟨by omega, by omega⟩
            generalize hu : x.getD j 0 = u at g c1 c2 hff
            have HU : Hid _ := hu
            clear hu
            go_wp2
            have hj2 := HJ2.out
            refine ⟨⟨j + 1, by omega, by go_num, fun i hi => ?_⟩, by simp [intOf]; omega⟩
            by_cases e : i = j
            · subst e; exact HB.out
            · exact HA.out i (by omega)
      · have HO : Hid (okS B x = true) := HT.out (fun i hi => HA.out i (by have := HM.out; omega))
        rw [HM.out] at hl
        go_wp2
        go_ret
        exact ⟨ret_bool HO.out.symm, rfl⟩

theorem right_any (v : Value) (x : List Int) (w : World) (hv : Rw .i64 w v x) (hf : Fits x) (hn : x.length ≤ 200) : Calls Tryd.prog 42 #[v] w fun e w' => e = .returned (.bool (okS 16777216 x)) ∧ w' = w := by
  have hh := fun w hv => fits_any v x 16777216 w hv hf hn (by omega) (by omega)
  generalize okS 16777216 x = ok at *
  go_enter Tryd.func42, Tryd.ntmps42
  go_wp2_with (go_at_call 45; refine (hh _ hv).mono ?_; rintro e w9 ⟨rfl, h9⟩; have h9 := h9.symm; subst h9)
  go_ret
  exact ⟨rfl, rfl⟩

theorem part_any (a b : Int) (w : World) (h1 : -16777216 ≤ a) (h2 : a ≤ 16777216) (h3 : -16777216 ≤ b) (h4 : b ≤ 16777216) : Calls Tryd.prog 44 #[.int .i64 a, .int .i64 b] w fun e w' => e = .returned (.tuple #[.int .i64 (a + (b - a) / 2), .int .i64 (b - a)]) ∧ w' = w := by
  have hs := fun w => shiftP_any (b - a) 1 (by unfold I64; omega) (by omega) w
  have hp : (b - a) / 2 ^ 1 = (b - a) / 2 := by simp
  rw [hp] at hs
  have b1 : -16777216 ≤ a + (b - a) / 2 := by omega
  have b2 : a + (b - a) / 2 ≤ 16777216 := by omega
  obtain ⟨d, hd⟩ : ∃ d, b - a = d := ⟨_, rfl⟩
  rw [hd] at hs b1 b2 ⊢
  have b3 : -33554432 ≤ d := by omega
  have b4 : d ≤ 33554432 := by omega
  obtain ⟨q, hq⟩ : ∃ q, d / 2 = q := ⟨_, rfl⟩
  rw [hq] at hs b1 b2 ⊢
  clear hq hp
  go_enter Tryd.func44, Tryd.ntmps44
  go_wp2_with (go_at_call 48; refine (hs _).mono ?_; rintro e w9 ⟨rfl, h9⟩; have h9 := h9.symm; subst h9)
  go_ret2
  exact ⟨rfl, rfl⟩

theorem join_any (m d : Int) (w : World) (h1 : -1073741824 ≤ m) (h2 : m ≤ 1073741824) (h3 : -67108864 ≤ d) (h4 : d ≤ 67108864) : Calls Tryd.prog 47 #[.int .i64 m, .int .i64 d] w fun e w' => e = .returned (.tuple #[.int .i64 (m - d / 2), .int .i64 (m - d / 2 + d)]) ∧ w' = w := by
  have hs := fun w => shiftP_any d 1 (by unfold I64; omega) (by omega) w
  have hp : d / 2 ^ 1 = d / 2 := by simp
  rw [hp] at hs
  obtain ⟨q, hq⟩ : ∃ q, d / 2 = q := ⟨_, rfl⟩
  have b1 : -67108864 ≤ q := by omega
  have b2 : q ≤ 67108864 := by omega
  rw [hq] at hs ⊢
  clear hq hp
  go_enter Tryd.func47, Tryd.ntmps47
  go_wp2_with (go_at_call 48; refine (hs _).mono ?_; rintro e w9 ⟨rfl, h9⟩; have h9 := h9.symm; subst h9)
  go_ret2
  exact ⟨rfl, rfl⟩

/-- The document's Sized, as far as it has looked. -/
def szN (B : Int) (x : List Int) (j : Nat) : Bool := (x.length == 2 || x.length == 4 || x.length == 8 || x.length == 16 || x.length == 32) && decide (∀ i, i < j → -B ≤ x.getD i 0 ∧ x.getD i 0 ≤ B)
theorem szN_next (B : Int) (x : List Int) (j : Nat) : szN B x (j + 1) = (szN B x j && decide (-B ≤ x.getD j 0) && decide (x.getD j 0 ≤ B)) := by
  unfold szN
  generalize (x.length == 2 || x.length == 4 || x.length == 8 || x.length == 16 || x.length == 32) = s
  have : (∀ i, i < j + 1 → -B ≤ x.getD i 0 ∧ x.getD i 0 ≤ B) ↔ (∀ i, i < j → -B ≤ x.getD i 0 ∧ x.getD i 0 ≤ B) ∧ -B ≤ x.getD j 0 ∧ x.getD j 0 ≤ B := by
    constructor
    · exact fun h => ⟨fun i hi => h i (by omega), h j (by omega)⟩
    · rintro ⟨h, h1⟩ i hi
      by_cases e : i = j
      · subst e; exact h1
      · exact h i (by omega)
  rw [show decide (∀ i, i < j + 1 → -B ≤ x.getD i 0 ∧ x.getD i 0 ≤ B) = decide ((∀ i, i < j → -B ≤ x.getD i 0 ∧ x.getD i 0 ≤ B) ∧ -B ≤ x.getD j 0 ∧ x.getD j 0 ≤ B) from decide_eq_decide.2 this]
  simp [Bool.and_assoc]
theorem szN_zero (B : Int) (x : List Int) : szN B x 0 = (x.length == 2 || x.length == 4 || x.length == 8 || x.length == 16 || x.length == 32) := by
  unfold szN; simp

set_option maxHeartbeats 2000000 in
theorem sized_any (v : Value) (x : List Int) (B : Int) (w : World) (hv : Rw .i64 w v x) (hf : Fits x) (hn : x.length ≤ 200) (b0 : 0 ≤ B) (b1 : B ≤ 67108864) : Calls Tryd.prog 38 #[v, .int .i64 B] w fun e w' => e = .returned (.bool (okS B x)) ∧ w' = w := by
  obtain ⟨a, cap, rfl, ha⟩ := hv
  have HS : Hid (∀ j, szN B x (j + 1) = (szN B x j && decide (-B ≤ x.getD j 0) && decide (x.getD j 0 ≤ B))) := szN_next B x
  have HZ : Hid (szN B x 0 = (x.length == 2 || x.length == 4 || x.length == 8 || x.length == 16 || x.length == 32)) := szN_zero B x
  have HE : Hid (okS B x = szN B x x.length) := rfl
  have HL : Hid (Fits x) := hf
  obtain ⟨n, hxn⟩ : ∃ n, x.length = n := ⟨_, rfl⟩
  have HN : Hid (0 < n → x ≠ []) := fun h e => by rw [e] at hxn; simp at hxn; omega
  rw [hxn] at ha hn HZ HE ⊢
  have HA : Hid (x = [] ∨ ∃ b off, a = some ⟨b, off, none⟩ ∧ b < w.heap.size ∧ ∀ i, i < n → w.cell? ⟨b, off + i, none⟩ = some (.int .i64 (x.getD i 0))) := ha
  clear hxn ha hf
  obtain ⟨m, hm⟩ : ∃ m, m = n := ⟨_, rfl⟩
  have HM : Hid (m = n) := hm
  clear hm
  by_cases hs : n ≠ 2 ∧ n ≠ 4 ∧ n ≠ 8 ∧ n ≠ 16 ∧ n ≠ 32
  · obtain ⟨c1, c2, c3, c4, c5⟩ := hs
    have HZ0 : Hid ((n == 2 || n == 4 || n == 8 || n == 16 || n == 32) = false) := by unfold Hid; simp [c1, c2, c3, c4, c5]
    have d1 : ((n : Int) == 2) = false := by simp; omega
    have d2 : ((n : Int) == 4) = false := by simp; omega
    have d3 : ((n : Int) == 8) = false := by simp; omega
    have d4 : ((n : Int) == 16) = false := by simp; omega
    have d5 : ((n : Int) == 32) = false := by simp; omega
    have n2 : (n : Int) ≤ 200 := by omega
    clear c1 c2 c3 c4 c5
    go_enter Tryd.func38, Tryd.ntmps38
    go_wp2
    go_loop [6, 7] (fun o i => ∃ j : Nat, j ≤ m ∧ i = .int .i64 j ∧ o = .bool (szN B x j)) (fun _ i => m - (intOf i).toNat)
    case atStart => exact ⟨0, by omega, rfl, by rw [HZ.out]; rw [HZ0.out]⟩
    case round =>
      obtain ⟨j, hj, rfl, rfl⟩ := hrel
      have HJ : Hid (j ≤ m) := hj
      by_cases hl : j < m
      · have HJ2 : Hid (j < m) := hl
        obtain ⟨b, off, ea, hlt, hc⟩ := HA.out.resolve_left (HN.out (by have := HM.out; omega))
        subst ea
        have g := hc j (by have := HM.out; omega)
        have hff := HL.out j
        have HX := hid (HS.out j)
        clear hc
        rw [HM.out] at hl
        cases hz : szN B x j
        · rw [hz] at HX
          clear hz
          go_wp2
          have hj2 := HJ2.out
          exact ⟨⟨j + 1, by omega, by go_num, by rw [HX.out]; rfl⟩, by simp [intOf]; omega⟩
        · rw [hz] at HX
          clear hz
          by_cases c1 : -B ≤ x.getD j 0
          · by_cases c2 : x.getD j 0 ≤ B
            · rw [decide_eq_true c1, decide_eq_true c2] at HX
              generalize x.getD j 0 = u at *
              go_wp2
              have hj2 := HJ2.out
              exact ⟨⟨j + 1, by omega, by go_num, by rw [HX.out]; rfl⟩, by simp [intOf]; omega⟩
            · rw [decide_eq_true c1, decide_eq_false c2] at HX
              generalize x.getD j 0 = u at *
              go_wp2
              have hj2 := HJ2.out
              exact ⟨⟨j + 1, by omega, by go_num, by rw [HX.out]; rfl⟩, by simp [intOf]; omega⟩
          · rw [decide_eq_false c1] at HX
            generalize x.getD j 0 = u at *
            go_wp2
            have hj2 := HJ2.out
            exact ⟨⟨j + 1, by omega, by go_num, by rw [HX.out]; rfl⟩, by simp [intOf]; omega⟩
      · have hje : j = m := by omega
        have HO : Hid (okS B x = szN B x j) := by unfold Hid; rw [HE.out, ← HM.out, hje]
        clear hje
        rw [HM.out] at hl
        go_wp2
        go_ret
        exact ⟨ret_bool HO.out.symm, rfl⟩
  have hq : n = 2 ∨ n = 4 ∨ n = 8 ∨ n = 16 ∨ n = 32 := by omega
  clear hs hn
  rcases hq with rfl | rfl | rfl | rfl | rfl
  all_goals
    go_enter Tryd.func38, Tryd.ntmps38
    go_wp2
    go_loop [6, 7] (fun o i => ∃ j : Nat, j ≤ m ∧ i = .int .i64 j ∧ o = .bool (szN B x j)) (fun _ i => m - (intOf i).toNat)
    case atStart => exact ⟨0, by omega, rfl, by rw [HZ.out]; rfl⟩
    case round =>
      obtain ⟨j, hj, rfl, rfl⟩ := hrel
      have HJ : Hid (j ≤ m) := hj
      by_cases hl : j < m
      · have HJ2 : Hid (j < m) := hl
        obtain ⟨b, off, ea, hlt, hc⟩ := HA.out.resolve_left (HN.out (by have := HM.out; omega))
        subst ea
        have g := hc j (by have := HM.out; omega)
        have hff := HL.out j
        have HX := hid (HS.out j)
        clear hc
        rw [HM.out] at hl
        cases hz : szN B x j
        · rw [hz] at HX
          clear hz
          go_wp2
          have hj2 := HJ2.out
          exact ⟨⟨j + 1, by omega, by go_num, by rw [HX.out]; rfl⟩, by simp [intOf]; omega⟩
        · rw [hz] at HX
          clear hz
          by_cases c1 : -B ≤ x.getD j 0
          · by_cases c2 : x.getD j 0 ≤ B
            · rw [decide_eq_true c1, decide_eq_true c2] at HX
              generalize x.getD j 0 = u at *
              go_wp2
              have hj2 := HJ2.out
              exact ⟨⟨j + 1, by omega, by go_num, by rw [HX.out]; rfl⟩, by simp [intOf]; omega⟩
            · rw [decide_eq_true c1, decide_eq_false c2] at HX
              generalize x.getD j 0 = u at *
              go_wp2
              have hj2 := HJ2.out
              exact ⟨⟨j + 1, by omega, by go_num, by rw [HX.out]; rfl⟩, by simp [intOf]; omega⟩
          · rw [decide_eq_false c1] at HX
            generalize x.getD j 0 = u at *
            go_wp2
            have hj2 := HJ2.out
            exact ⟨⟨j + 1, by omega, by go_num, by rw [HX.out]; rfl⟩, by simp [intOf]; omega⟩
      · have hje : j = m := by omega
        have HO : Hid (okS B x = szN B x j) := by unfold Hid; rw [HE.out, ← HM.out, hje]
        clear hje
        rw [HM.out] at hl
        go_wp2
        go_ret
        exact ⟨ret_bool HO.out.symm, rfl⟩
end Go.Proofs.YtdfihdkkidekjaaDoor
