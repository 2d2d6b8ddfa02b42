/- Contracts of lap's small functions, the program's and the document's; the weights; rows that a call may write. -/
import Derived.Test.YtdfihdkkidekjaaDoorHa
import Derived.Deep.QuietTactic
namespace Go.Proofs.YtdfihdkkidekjaaDoor
open Go.RowKit
set_option linter.unusedVariables false
set_option linter.unusedSimpArgs false

/-- The weights, as the program's text lays them. -/
def Wt (w : World) : Prop := ∀ k : Nat, k < 4 → w.cell? ⟨0, k, none⟩ = some (.int .i64 (7 - 2 * (k : Int)))
theorem Wt.lt {w : World} (h : Wt w) : 0 < w.heap.size := block_of_cell (h 0 (by omega))
theorem Wt.below {w w' : World} (h : Wt w) (hb : Below w.heap.size w w') : Wt w' := fun k hk => ((bcell hb).1 _ _ h.lt).trans (h k hk)
theorem Wt.grown {w w' : World} {g : Nat} (h : Wt w) (hg : w.grownBy w' (some g)) (h0 : g ≠ 0) : Wt w' := fun k hk => hg.cell (h k hk) (by simpa using fun e => h0 e.symm)

/-- The block g begins with the numbers xs. -/
def Hl (k : IntKind) (t : TypeId) (w : World) (g : Nat) (xs : List Int) : Prop := ∃ cur : Array Value, w.heap[g]? = some (.cells cur t (0, 0)) ∧ cur.toList.take xs.length = xs.map (Value.int k)
theorem Hl.lt {k : IntKind} {t : TypeId} {w : World} {g : Nat} {xs : List Int} (h : Hl k t w g xs) : g < w.heap.size := by
  obtain ⟨cur, h, _⟩ := h
  exact block_in h
theorem Hl.cell {k : IntKind} {t : TypeId} {w : World} {g : Nat} {xs : List Int} (h : Hl k t w g xs) (i : Nat) (hi : i < xs.length) : w.cell? ⟨g, i, none⟩ = some (.int k (xs.getD i 0)) := by
  obtain ⟨cur, h, ht⟩ := h
  have e1 : (cur.toList.take xs.length)[i]? = some (.int k (xs.getD i 0)) := by
    rw [ht]; simp [hi]
  rw [List.getElem?_take_of_lt (by omega)] at e1
  simp [World.cell?, h] at e1 ⊢
  exact e1
theorem Hl.free {k : IntKind} {t : TypeId} {w : World} {g : Nat} {xs : List Int} (h : Hl k t w g xs) (i : Nat) : w.frozen? ⟨g, i, none⟩ = false := by
  obtain ⟨cur, h, _⟩ := h
  simp [World.frozen?, h]
theorem Hl.set {k : IntKind} {t : TypeId} {w : World} {g : Nat} {xs : List Int} (h : Hl k t w g xs) (i : Nat) (y : Int) : Hl k t (w.setCell ⟨g, i, none⟩ (.int k y)) g (xs.set i y) := by
  obtain ⟨cur, h, ht⟩ := h
  refine ⟨cur.setIfInBounds i (.int k y), ?_, ?_⟩
  · simp [World.setCell, Array.getElem?_modify, h]
  · rw [List.length_set, Array.toList_setIfInBounds, List.take_set, ht, List.map_set]
theorem Hl.below {k : IntKind} {t : TypeId} {w w' : World} {g : Nat} {xs : List Int} (h : Hl k t w g xs) (hb : Below w.heap.size w w') : Hl k t w' g xs := by
  have hlt := h.lt
  obtain ⟨cur, h, ht⟩ := h
  exact ⟨cur, (hb.block _ hlt).trans h, ht⟩
theorem Hl.drew {k : IntKind} {t : TypeId} {w : World} {g : Nat} {xs : List Int} (h : Hl k t w g xs) : Hl k t w.drew g xs := h
theorem Hl.of_blk {k : IntKind} {t : TypeId} {w : World} {g : Nat} {xs : List Int} (h : Blk k t w g xs) : Hl k t w g xs := ⟨_, h, by simp only [List.length_map]; rw [List.take_of_length_le (by simp)]⟩
theorem Hl.rw {k : IntKind} {t : TypeId} {w : World} {g n c : Nat} {xs : List Int} (h : Hl k t w g xs) (hn : xs.length = n) : Rw k w (.slice (some ⟨g, 0, none⟩) n c) xs := by
  subst hn
  exact ⟨_, c, rfl, .inr ⟨g, 0, rfl, h.lt, fun i hi => by rw [Nat.zero_add]; exact h.cell i hi⟩⟩
theorem Hl.of_owns {k : IntKind} {t : TypeId} {w : World} {base n : Nat} {v : Value} {xs : List Int} (h : w.ownsRow base t 1 v n (xs.map (Value.int k))) (hn : 0 < n) : ∃ g c, v = .slice (some ⟨g, 0, none⟩) n c ∧ base ≤ g ∧ n ≤ c ∧ Hl k t w g xs := by
  obtain ⟨h1, h2⟩ := h
  rcases h2 with ⟨rfl, h0⟩ | ⟨g, cap, cur, rfl, hg, hh, hcap, hm, hs, ht⟩
  · omega
  · have hl : xs.length = n := by simpa using h1
    exact ⟨g, cap, rfl, hg, hcap, cur, hh, by rw [hl]; simpa using ht⟩

theorem weighed_any (v W : Int) (w : World) (h0 : -17179869184 ≤ v) (h1 : v ≤ 17179869184) (h2 : 0 ≤ W) (h3 : W ≤ 7) : Calls Tryd.prog 40 #[.int .i64 v, .int .i64 W] w fun e w' => e = .returned (.int .i64 (v * W / 16)) ∧ w' = w := by
  have hm0 : -17179869184 * 7 ≤ v * W := by
    by_cases h : 0 ≤ v
    · have := Int.mul_nonneg h h2; omega
    · have a1 : v * 7 ≤ v * W := Int.mul_le_mul_of_nonpos_left (by omega) h3
      omega
  have hm1 : v * W ≤ 17179869184 * 7 := by
    by_cases h : 0 ≤ v
    · have a1 : v * W ≤ v * 7 := Int.mul_le_mul_of_nonneg_left h3 h
      omega
    · have := Int.mul_nonneg (a := -v) (by omega) h2
      rw [Int.neg_mul] at this
      omega
  have hs := fun w => shiftP_any (v * W) 4 (by unfold I64; omega) (by omega) w
  have e : IntKind.i64.wrap (v * W) = v * W := wraps_i64 _ (by omega) (by omega)
  generalize hQ : v * W = Q at *
  rw [show (2 : Int) ^ 4 = 16 by decide] at hs
  go_enter Tryd.func40, Tryd.ntmps40
  go_wp2_with (go_at_call 48; refine (hs _).mono ?_; rintro e w9 ⟨rfl, h9⟩; have h9 := h9.symm; subst h9)
  go_ret
  exact ⟨rfl, rfl⟩
theorem part_of (v : Int) (k : Nat) (w : World) (h0 : -17179869184 ≤ v) (h1 : v ≤ 17179869184) (hk : k < 4) : Calls Tryd.prog 32 #[.int .i64 v, .int .i64 k] w fun e w' => e = .returned (.int .i64 (prt v k)) ∧ w' = w := by
  unfold prt
  obtain ⟨W, hW⟩ : ∃ W : Int, 7 - 2 * (k : Int) = W := ⟨_, rfl⟩
  have h2 : 0 ≤ W := by omega
  have h3 : W ≤ 7 := by omega
  have hm0 : -17179869184 * 7 ≤ v * W := by
    by_cases h : 0 ≤ v
    · have := Int.mul_nonneg h h2; omega
    · have a1 : v * 7 ≤ v * W := Int.mul_le_mul_of_nonpos_left (by omega) h3
      omega
  have hm1 : v * W ≤ 17179869184 * 7 := by
    by_cases h : 0 ≤ v
    · have a1 : v * W ≤ v * 7 := Int.mul_le_mul_of_nonneg_left h3 h
      omega
    · have := Int.mul_nonneg (a := -v) (by omega) h2
      rw [Int.neg_mul] at this
      omega
  have hs := fun w => shiftR_any (v * W) 4 (by unfold I64; omega) (by omega) w
  have e : IntKind.i64.wrap (v * W) = v * W := wraps_i64 _ (by omega) (by omega)
  rw [hW]
  generalize hQ : v * W = Q at *
  rw [show (2 : Int) ^ 4 = 16 by decide] at hs
  go_enter Tryd.func32, Tryd.ntmps32
  go_wp2_with (go_at_call 41; refine (hs _).mono ?_; rintro e w9 ⟨rfl, h9⟩; have h9 := h9.symm; subst h9)
  go_ret
  exact ⟨rfl, rfl⟩

/-- No number is beyond B. -/
def okB (B : Int) (x : List Int) : Bool := decide (∀ i, i < x.length → -B ≤ x.getD i 0 ∧ x.getD i 0 ≤ B)
theorem okB_bd {B : Int} {x : List Int} (h : okB B x = true) : Bd (-B) B x := by unfold okB at h; rw [decide_eq_true_eq] at h; exact h
theorem okB_of {B : Int} {x : List Int} (h : Bd (-B) B x) : okB B x = true := by unfold okB; rw [decide_eq_true_eq]; exact h
theorem okB_at {B : Int} {x : List Int} {i : Nat} (hi : i < x.length) (h : x.getD i 0 < -B ∨ B < x.getD i 0) : okB B x = false :=
  decide_eq_false fun hh => by have := hh i hi; omega

set_option maxHeartbeats 1000000 in
theorem lfits_any (v : Value) (x : List Int) (B : Int) (w : World) (hv : Rw .i64 w v x) (hf : Fits x) (hn : x.length ≤ 200) (b0 : 0 ≤ B) (b1 : B ≤ 67108864) : Calls Tryd.prog 31 #[v, .int .i64 B] w fun e w' => e = .returned (.bool (okB B x)) ∧ w' = w := by
  obtain ⟨a, cap, rfl, ha⟩ := hv
  obtain ⟨n, hxn⟩ : ∃ n, x.length = n := ⟨_, rfl⟩
  have HN : Hid (0 < n → x ≠ []) := fun h e => by rw [e] at hxn; simp at hxn; omega
  have HT : Hid (∀ h : (∀ i, i < n → -B ≤ x.getD i 0 ∧ x.getD i 0 ≤ B), okB B x = true) := fun h => okB_of (by rw [← hxn] at h; exact h)
  have HF : Hid (∀ i, i < n → (x.getD i 0 < -B ∨ B < x.getD i 0) → okB B x = false) := fun i hi h => okB_at (by rw [hxn]; exact hi) h
  have HL : Hid (Fits x) := hf
  rw [hxn] at ha hn ⊢
  have HA := hid ha
  clear hxn ha hf
  have hn2 : (n : Int) ≤ 200 := by omega
  go_enter Tryd.func31, Tryd.ntmps31
  go_wp2
  go_loop [12] (fun i => ∃ j : Nat, j ≤ n ∧ i = .int .i64 j ∧ ∀ i, i < j → -B ≤ x.getD i 0 ∧ x.getD i 0 ≤ B) (fun i => n - (intOf i).toNat)
  case atStart => exact ⟨0, by omega, rfl, fun i hi => by omega⟩
  case round =>
    obtain ⟨j, hj, rfl, hall⟩ := hrel
    have HB := hid hall
    clear hall
    by_cases hl : j < n
    · obtain ⟨b, off, ea, hlt, hc⟩ := HA.out.resolve_left (HN.out (by omega))
      subst ea
      have g := hc j hl
      have hff := HL.out j
      clear hc
      by_cases c1 : x.getD j 0 < -B
      · have HO := hid (HF.out j hl (.inl c1))
        generalize x.getD j 0 = u at *
        go_wp2
        go_ret
        exact ⟨ret_bool HO.out.symm, rfl⟩
      · by_cases c2 : B < x.getD j 0
        · have HO := hid (HF.out j hl (.inr c2))
          generalize x.getD j 0 = u at *
          go_wp2
          go_ret
          exact ⟨ret_bool HO.out.symm, rfl⟩
        · have HBJ : Hid (-B ≤ x.getD j 0 ∧ x.getD j 0 ≤ B) := ⟨by omega, by omega⟩
          generalize hu : x.getD j 0 = u at g c1 c2 hff
          have HU := hid hu
          clear hu
          go_wp2
          refine ⟨⟨j + 1, by omega, by go_num, fun i hi => ?_⟩, by simp [intOf]; omega⟩
          by_cases e : i = j
          · subst e; exact HBJ.out
          · exact HB.out i (by omega)
    · have HO := hid (HT.out (fun i hi => HB.out i (by omega)))
      go_wp2
      go_ret
      exact ⟨ret_bool HO.out.symm, rfl⟩
theorem lright_any (v : Value) (x : List Int) (w : World) (hv : Rw .i64 w v x) (hf : Fits x) (hn : x.length ≤ 200) : Calls Tryd.prog 14 #[v] w fun e w' => e = .returned (.bool (okB 262144 x)) ∧ w' = w := by
  have hh := fun w hv => lfits_any v x 262144 w hv hf hn (by omega) (by omega)
  generalize okB 262144 x = ok at *
  go_enter Tryd.func14, Tryd.ntmps14
  go_wp2_with (go_at_call 31; refine (hh _ hv).mono ?_; rintro e w9 ⟨rfl, h9⟩; have h9 := h9.symm; subst h9)
  go_ret
  exact ⟨rfl, rfl⟩

def wiN (B : Int) (x : List Int) (j : Nat) : Bool := decide (∀ i, i < j → -B ≤ x.getD i 0 ∧ x.getD i 0 ≤ B)
theorem wiN_next (B : Int) (x : List Int) (j : Nat) : wiN B x (j + 1) = (wiN B x j && decide (-B ≤ x.getD j 0) && decide (x.getD j 0 ≤ B)) := by
  unfold wiN
  have : (∀ i, i < j + 1 → -B ≤ x.getD i 0 ∧ x.getD i 0 ≤ B) ↔ (∀ i, i < j → -B ≤ x.getD i 0 ∧ x.getD i 0 ≤ B) ∧ -B ≤ x.getD j 0 ∧ x.getD j 0 ≤ B := by
    constructor
    · exact fun h => ⟨fun i hi => h i (by omega), h j (by omega)⟩
    · rintro ⟨h, h1⟩ i hi
      by_cases e : i = j
      · subst e; exact h1
      · exact h i (by omega)
  rw [show decide (∀ i, i < j + 1 → -B ≤ x.getD i 0 ∧ x.getD i 0 ≤ B) = decide ((∀ i, i < j → -B ≤ x.getD i 0 ∧ x.getD i 0 ≤ B) ∧ -B ≤ x.getD j 0 ∧ x.getD j 0 ≤ B) from decide_eq_decide.2 this]
  simp [Bool.and_assoc]
theorem wiN_zero (B : Int) (x : List Int) : wiN B x 0 = true := by unfold wiN; simp

set_option maxHeartbeats 2000000 in
theorem within_any (v : Value) (x : List Int) (B : Int) (w : World) (hv : Rw .i64 w v x) (hf : Fits x) (hn : x.length ≤ 200) (b0 : 0 ≤ B) (b1 : B ≤ 67108864) : Calls Tryd.prog 13 #[v, .int .i64 B] w fun e w' => e = .returned (.bool (okB B x)) ∧ w' = w := by
  obtain ⟨a, cap, rfl, ha⟩ := hv
  have HS := hid (wiN_next B x)
  have HZ := hid (wiN_zero B x)
  have HE : Hid (okB B x = wiN B x x.length) := rfl
  have HL : Hid (Fits x) := hf
  obtain ⟨n, hxn⟩ : ∃ n, x.length = n := ⟨_, rfl⟩
  have HN : Hid (0 < n → x ≠ []) := fun h e => by rw [e] at hxn; simp at hxn; omega
  rw [hxn] at ha hn HE ⊢
  have HA := hid ha
  clear hxn ha hf
  have n2 : (n : Int) ≤ 200 := by omega
  go_enter Tryd.func13, Tryd.ntmps13
  go_wp2
  go_loop [5, 6] (fun o i => ∃ j : Nat, j ≤ n ∧ i = .int .i64 j ∧ o = .bool (wiN B x j)) (fun _ i => n - (intOf i).toNat)
  case atStart => exact ⟨0, by omega, rfl, by rw [HZ.out, decide_eq_true (by omega)]⟩
  case round =>
    obtain ⟨j, hj, rfl, rfl⟩ := hrel
    by_cases hl : j < n
    · obtain ⟨b, off, ea, hlt, hc⟩ := HA.out.resolve_left (HN.out (by omega))
      subst ea
      have g := hc j (by omega)
      have hff := HL.out j
      have HX := hid (HS.out j)
      clear hc
      cases hz : wiN B x j
      · rw [hz] at HX
        clear hz
        go_wp2
        exact ⟨⟨j + 1, by omega, by go_num, by rw [HX.out]; rfl⟩, by simp [intOf]; omega⟩
      · rw [hz] at HX
        clear hz
        by_cases c1 : -B ≤ x.getD j 0
        · by_cases c2 : x.getD j 0 ≤ B
          · rw [decide_eq_true c1, decide_eq_true c2] at HX
            generalize x.getD j 0 = u at *
            go_wp2
            exact ⟨⟨j + 1, by omega, by go_num, by rw [HX.out]; rfl⟩, by simp [intOf]; omega⟩
          · rw [decide_eq_true c1, decide_eq_false c2] at HX
            generalize x.getD j 0 = u at *
            go_wp2
            exact ⟨⟨j + 1, by omega, by go_num, by rw [HX.out]; rfl⟩, by simp [intOf]; omega⟩
        · rw [decide_eq_false c1] at HX
          generalize x.getD j 0 = u at *
          go_wp2
          exact ⟨⟨j + 1, by omega, by go_num, by rw [HX.out]; rfl⟩, by simp [intOf]; omega⟩
    · have hje : j = n := by omega
      have HO : Hid (okB B x = wiN B x j) := by unfold Hid; rw [HE.out, hje]
      clear hje
      go_wp2
      go_ret
      exact ⟨ret_bool HO.out.symm, rfl⟩

/-- Are there four samples on each side? -/
def bord (n : Nat) (p : Int) : Bool := decide (4 ≤ p ∧ p + 4 ≤ n)
theorem isBorder_any (n : Nat) (p : Int) (w : World) (hn : n ≤ 200) (h0 : -9223372036854775808 ≤ p) (h1 : p ≤ 9223372036854775807) : Calls Tryd.prog 28 #[.int .i64 n, .int .i64 p] w fun e w' => e = .returned (.bool (bord n p)) ∧ w' = w := by
  obtain ⟨N, hN⟩ : ∃ N : Int, (n : Int) = N := ⟨_, rfl⟩
  have hb : bord n p = decide (4 ≤ p ∧ p + 4 ≤ N) := by unfold bord; rw [hN]
  have n0 : 0 ≤ N := by omega
  have n1 : N ≤ 200 := by omega
  rw [hb, hN]
  clear hb hN hn
  by_cases c1 : 4 ≤ p
  · by_cases c2 : p + 4 ≤ N
    · have c3 : p ≤ N - 4 := by omega
      rw [decide_eq_true ⟨c1, c2⟩]
      go_enter Tryd.func28, Tryd.ntmps28
      go_wp2
      go_ret
      exact ⟨rfl, rfl⟩
    · have c3 : ¬ p ≤ N - 4 := by omega
      rw [decide_eq_false (by omega)]
      go_enter Tryd.func28, Tryd.ntmps28
      go_wp2
      go_ret
      exact ⟨rfl, rfl⟩
  · rw [decide_eq_false (by omega)]
    go_enter Tryd.func28, Tryd.ntmps28
    go_wp2
    go_ret
    exact ⟨rfl, rfl⟩
theorem border_any (a : Option Addr) (n cap : Nat) (p : Int) (w : World) (hn : n ≤ 200) (h0 : -9223372036854775808 ≤ p) (h1 : p ≤ 9223372036854775807) : Calls Tryd.prog 15 #[.slice a n cap, .int .i64 p] w fun e w' => e = .returned (.bool (bord n p)) ∧ w' = w := by
  have n0 : (n : Int) ≤ 200 := by omega
  unfold bord
  by_cases c1 : 4 ≤ p
  · by_cases c2 : p ≤ (n : Int)
    · by_cases c3 : p + 4 ≤ (n : Int)
      · have c4 : 4 ≤ (n : Int) - p := by omega
        rw [decide_eq_true ⟨c1, c3⟩]
        go_enter Tryd.func15, Tryd.ntmps15
        go_wp2
        go_ret
        exact ⟨rfl, rfl⟩
      · have c4 : ¬ 4 ≤ (n : Int) - p := by omega
        rw [decide_eq_false (by omega)]
        go_enter Tryd.func15, Tryd.ntmps15
        go_wp2
        go_ret
        exact ⟨rfl, rfl⟩
    · rw [decide_eq_false (by omega)]
      go_enter Tryd.func15, Tryd.ntmps15
      go_wp2
      go_ret
      exact ⟨rfl, rfl⟩
  · rw [decide_eq_false (by omega)]
    go_enter Tryd.func15, Tryd.ntmps15
    go_wp2
    go_ret
    exact ⟨rfl, rfl⟩
/-- May blocks have this size? -/
def isSz (n : Int) : Bool := n == 8 || n == 16 || n == 32
theorem isSz_parts {n : Int} (h : isSz n = true) : ∃ s K : Nat, n = s ∧ Sz s K := by
  unfold isSz at h
  simp at h
  rcases h with (rfl | rfl) | rfl
  · exact ⟨8, 3, rfl, .inl ⟨rfl, rfl⟩⟩
  · exact ⟨16, 4, rfl, .inr (.inl ⟨rfl, rfl⟩)⟩
  · exact ⟨32, 5, rfl, .inr (.inr ⟨rfl, rfl⟩)⟩
theorem isSz_of {s K : Nat} (h : Sz s K) : isSz s = true := by rcases h with ⟨rfl, rfl⟩ | ⟨rfl, rfl⟩ | ⟨rfl, rfl⟩ <;> decide
theorem isSize_any (n : Int) (w : World) : Calls Tryd.prog 34 #[.int .i64 n] w fun e w' => e = .returned (.bool (isSz n)) ∧ w' = w := by
  unfold isSz
  cases h1 : (n == 8)
  · cases h2 : (n == 16)
    · cases h3 : (n == 32)
      all_goals
        go_enter Tryd.func34, Tryd.ntmps34
        go_wp2
        go_ret
        exact ⟨rfl, rfl⟩
    · go_enter Tryd.func34, Tryd.ntmps34
      go_wp2
      go_ret
      exact ⟨rfl, rfl⟩
  · go_enter Tryd.func34, Tryd.ntmps34
    go_wp2
    go_ret
    exact ⟨rfl, rfl⟩
theorem great_any (a : Option Addr) (n cap : Nat) (w : World) : Calls Tryd.prog 10 #[.slice a n cap] w fun e w' => e = .returned (.bool (decide (200 < n))) ∧ w' = w := by
  by_cases h : 200 < n
  · rw [decide_eq_true h]
    have i1 : (200 : Int) < (n : Int) := by omega
    go_enter Tryd.func10, Tryd.ntmps10
    go_wp2
    go_ret
    exact ⟨rfl, rfl⟩
  · rw [decide_eq_false h]
    have i1 : ¬ (200 : Int) < (n : Int) := by omega
    go_enter Tryd.func10, Tryd.ntmps10
    go_wp2
    go_ret
    exact ⟨rfl, rfl⟩
set_option maxHeartbeats 1000000 in
theorem clone_any (a : Option Addr) (cap : Nat) (x : List Int) (w : World) (hv : Rw .i64 w (.slice a x.length cap) x) (h1 : 0 < x.length) (h2 : x.length ≤ 4000) : Calls Tryd.prog 29 #[.slice a x.length cap] w fun e w' => ∃ g c, e = .returned (.slice (some ⟨g, 0, none⟩) x.length c) ∧ x.length ≤ c ∧ w.heap.size ≤ g ∧ Hl .i64 2 w' g x ∧ Below w.heap.size w w' := by
  obtain ⟨i0, hi, hz0, hz1, hz2⟩ := info_parts info_i64
  have hv0 := hv
  obtain ⟨a', cap', he, ha⟩ := hv0
  simp only [Value.slice.injEq, true_and] at he
  obtain ⟨rfl, rfl⟩ := he
  obtain ⟨b, off, rfl, hlt, hc⟩ := ha.resolve_left (by intro h; subst h; simp at h1)
  clear ha hc
  have hnil : ∀ W, (binOp .eql 22 (.slice (some ⟨b, off, none⟩) x.length cap) (.slice none 0 0)).run Tryd.prog W = .ok (.bool false) W := fun W => Lib.run_eql_slice_nil W _ _ _ _ _ _ _ Tryd.underlying22
  have HV := hid hv
  have H1 := hid h1
  have H2 := hid h2
  clear hv h1 h2
  go_enter Tryd.func29, Tryd.ntmps29
  go_wp2_with (at_builtin; refine wpList_append_rw rfl _ _ _ rfl w.heap.size 2 i0 (.int .i64 0) 8 Tryd.underlying22 hi hz0 hz1 hz2 rfl .i64 _ 0 [] rfl (own_empty (Nat.le_refl _)) _ _ x rfl (HV.out.below (below1 _ _)) (by intro h; cases h) (by have := H2.out; unfold maxLen; omega) (by have := H2.out; omega) (by simp) ?_)
  intro v8 w5 hown8 hgrow8
  have hb8 : Below w.heap.size w w5 := ((Below.refl _ _).alloc (Nat.le_refl _) _).grown hgrow8 (by simp) (fun k hk => by simp [Value.ownBlock] at hk; omega)
  obtain ⟨g, c, rfl, hg, hgc, hhl⟩ := Hl.of_owns hown8 H1.out
  clear hown8 hgrow8
  have HH := hid hhl
  clear hhl
  go_wp2
  go_ret
  exact ⟨g, c, rfl, hgc, hg, HH.out, hb8⟩
set_option maxHeartbeats 2000000 in
theorem same_yes (v1 v2 : Value) (xs : List Int) (w : World) (h1 : Rw .i64 w v1 xs) (h2 : Rw .i64 w v2 xs) (hl : xs.length ≤ 4000) : Calls Tryd.prog 16 #[v1, v2] w fun e w' => e = .returned (.bool true) ∧ Below w.heap.size w w' := by
  obtain ⟨a1, c1, rfl, ha1⟩ := h1
  obtain ⟨a2, c2, rfl, ha2⟩ := h2
  obtain ⟨n, hn⟩ : ∃ n, xs.length = n := ⟨_, rfl⟩
  rw [hn] at ha1 ha2 hl ⊢
  have hnil : 0 < n → xs ≠ [] := fun h e => by rw [e] at hn; simp at hn; omega
  clear hn
  go_enter Tryd.func16, Tryd.ntmps16
  go_wp2
  go_loopw [5] (fun i wr => ∃ k : Nat, k ≤ n ∧ i = .int .i64 k ∧ Below w.heap.size w wr) (fun i _ => n - (intOf i).toNat)
  case atStart => exact ⟨0, by omega, rfl, Below.refl _ _⟩
  case round =>
    obtain ⟨k, hk, rfl, hnx⟩ := hrel
    by_cases hlt : k < n
    · obtain ⟨b1, o1, rfl, hb1, hc1⟩ := ha1.resolve_left (hnil (by omega))
      obtain ⟨b2, o2, rfl, hb2, hc2⟩ := ha2.resolve_left (hnil (by omega))
      have g1 := (hnx.cell (p := ⟨b1, o1 + k, none⟩) hb1).trans (hc1 k hlt)
      have g2 := (hnx.cell (p := ⟨b2, o2 + k, none⟩) hb2).trans (hc2 k hlt)
      clear ha1 ha2 hc1 hc2 hnil
      generalize xs.getD k 0 = x at *
      have i1 : (0 : Int) ≤ (k : Int) := by omega
      have i2 : (k : Int) < (n : Int) := by omega
      have i3 : IntKind.i64.wrap (k : Int) = k := wraps_i64 _ (by omega) (by omega)
      go_wp2
      go_quiet (fail)
      go_wp2
      exact ⟨⟨k + 1, by omega, by go_num, drewN_below hnx _⟩, by simp [intOf]; omega⟩
    · clear ha1 ha2 hnil
      go_wp2
      go_ret
      exact ⟨rfl, hnx⟩
theorem size_any (n : Int) (w : World) (h : (Lit.int .u8 n).wf = true) : Calls Tryd.prog 26 #[.int .u8 n] w fun e w' => ∃ s K : Nat, e = .returned (.int .i64 s) ∧ w' = w ∧ Sz s K := by
  have hn : 0 ≤ n ∧ n < 256 := by
    simp [Lit.wf, IntKind.min, IntKind.max, IntKind.bits, IntKind.signed] at h
    omega
  clear h
  have hm : n.tmod 3 = n % 3 := Int.tmod_eq_emod_of_nonneg hn.1
  by_cases c1 : n % 3 = 0
  · have d1 : n.tmod 3 = 0 := by omega
    go_enter Tryd.func26, Tryd.ntmps26
    go_wp2
    go_ret
    exact ⟨8, 3, rfl, rfl, .inl ⟨rfl, rfl⟩⟩
  · by_cases c2 : n % 3 = 1
    · have d1 : n.tmod 3 = 1 := by omega
      go_enter Tryd.func26, Tryd.ntmps26
      go_wp2
      go_ret
      exact ⟨16, 4, rfl, rfl, .inr (.inl ⟨rfl, rfl⟩)⟩
    · have d1 : n.tmod 3 = 2 := by omega
      go_enter Tryd.func26, Tryd.ntmps26
      go_wp2
      go_ret
      exact ⟨32, 5, rfl, rfl, .inr (.inr ⟨rfl, rfl⟩)⟩
end Go.Proofs.YtdfihdkkidekjaaDoor
