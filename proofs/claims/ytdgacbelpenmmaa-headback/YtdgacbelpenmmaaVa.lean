/- Headers, their bits, and what is read of bytes: plain. Nothing of the program is imported. -/
import Derived.Test.YtdgacbelpenmmaaXa
namespace Go.Proofs.Ytdgacbelpenmmaa
open Go.RowKit
set_option linter.unusedVariables false
set_option linter.unusedSimpArgs false

/-- So many bits of a number, from a place on. -/
def fld (X p n : Nat) : Nat := X / 2 ^ p % 2 ^ n
theorem fld_lt (X p n : Nat) : fld X p n < 2 ^ n := Nat.mod_lt _ (Nat.two_pow_pos n)
theorem fld_low (A Y N p n : Nat) (h : p + n ≤ N) : fld (A + Y * 2 ^ N) p n = fld A p n := by
  unfold fld
  obtain ⟨d, rfl⟩ : ∃ d, N = p + (n + d) := ⟨N - p - n, by omega⟩
  rw [Nat.pow_add, show Y * (2 ^ p * 2 ^ (n + d)) = 2 ^ p * (Y * 2 ^ (n + d)) by rw [Nat.mul_left_comm], Nat.add_mul_div_left _ _ (Nat.two_pow_pos p), Nat.pow_add,
    show Y * (2 ^ n * 2 ^ d) = 2 ^ n * (Y * 2 ^ d) by rw [Nat.mul_left_comm], Nat.add_mul_mod_self_left]
theorem fld_at (A Y N p n : Nat) (h : A < 2 ^ N) : fld (A + Y * 2 ^ N) (N + p) n = fld Y p n := by
  unfold fld
  rw [Nat.pow_add, ← Nat.div_div_eq_div_mul, Nat.mul_comm Y, Nat.add_mul_div_left _ _ (Nat.two_pow_pos N), Nat.div_eq_of_lt h, Nat.zero_add]
theorem fld_all (Y n : Nat) (h : Y < 2 ^ n) : fld Y 0 n = Y := by
  unfold fld
  rw [Nat.pow_zero, Nat.div_one, Nat.mod_eq_of_lt h]
theorem fld_add (X p m n : Nat) : fld X p (m + n) = fld X p m + fld X (p + m) n * 2 ^ m := by
  unfold fld
  rw [Nat.pow_add 2 m n, Nat.mod_mul, Nat.div_div_eq_div_mul, ← Nat.pow_add, Nat.mul_comm (2 ^ m)]
theorem mod_fld (X N n : Nat) : X % 2 ^ (N + n) = X % 2 ^ N + fld X N n * 2 ^ N := by
  have := fld_add X 0 N n
  unfold fld at this
  rw [Nat.pow_zero, Nat.div_one, Nat.zero_add] at this
  exact this
theorem mod_whole (X N n : Nat) (h : X < 2 ^ (N + n)) (h0 : fld X N n = 0) : X = X % 2 ^ N := by
  have := mod_fld X N n
  rw [Nat.mod_eq_of_lt h, h0, Nat.zero_mul, Nat.add_zero] at this
  exact this
theorem joined_lt (X V N n : Nat) (hX : X < 2 ^ N) (hV : V < 2 ^ n) : X + V * 2 ^ N < 2 ^ (N + n) := by
  have h1 : V * 2 ^ N + 2 ^ N ≤ 2 ^ n * 2 ^ N := by
    rw [← Nat.succ_mul]; exact Nat.mul_le_mul_right _ hV
  rw [Nat.pow_add, Nat.mul_comm (2 ^ N)]
  omega

theorem pow_up (a b : Nat) (h : a ≤ b) (X : Nat) (hX : X < 2 ^ a) : X < 2 ^ b := Nat.lt_of_lt_of_le hX (Nat.pow_le_pow_right (by omega) h)
theorem bv_len_lt {xs : List Int} (hx : Byts xs) (m : Nat) (h : 8 * xs.length ≤ m) : bv xs < 2 ^ m := by
  have := bv_lt hx
  rw [pow256] at this
  exact pow_up _ _ h _ this

/-- All numbers have 5 bits. -/
def Five (l : List Int) : Prop := ∀ k, 0 ≤ l.getD k 0 ∧ l.getD k 0 < 32
/-- The number that a book's first numbers make, 5 bits each. -/
def vhBk (l : List Int) : Nat → Nat
  | 0 => 0
  | k + 1 => vhBk l k + (l.getD k 0).toNat * 2 ^ (5 * k)
theorem vhBk_lt {l : List Int} (h : Five l) (k : Nat) : vhBk l k < 2 ^ (5 * k) := by
  induction k with
  | zero => simp [vhBk]
  | succ k ih =>
    have := h k
    exact joined_lt _ _ _ 5 ih (by omega)
theorem vhBk_at {l : List Int} (h : Five l) (n k : Nat) (hk : k < n) : fld (vhBk l n) (5 * k) 5 = (l.getD k 0).toNat := by
  induction n with
  | zero => omega
  | succ n ih =>
    have h5 := h n
    rcases Nat.lt_or_ge k n with h1 | h1
    · show fld (vhBk l n + _ * 2 ^ (5 * n)) _ _ = _
      rw [fld_low _ _ _ _ _ (by omega)]
      exact ih h1
    · have e : k = n := by omega
      subst e
      show fld (vhBk l k + _ * 2 ^ (5 * k)) _ _ = _
      have := fld_at (vhBk l k) (l.getD k 0).toNat (5 * k) 0 5 (vhBk_lt h k)
      rw [Nat.add_zero] at this
      rw [this, fld_all _ _ (by omega)]
theorem vhBk_tab (V p n k : Nat) (hk : k ≤ n) : vhBk (tab n fun s => ((fld V (p + 5 * s) 5 : Nat) : Int)) k = fld V p (5 * k) := by
  induction k with
  | zero => simp [vhBk, fld, Nat.mod_one]
  | succ k ih =>
    show vhBk _ k + _ * 2 ^ (5 * k) = _
    rw [ih (by omega), tab_at _ _ _ (by omega), show 5 * (k + 1) = 5 * k + 5 by omega, fld_add]
    simp

/-- A header's number. -/
def hV (c q : Int) (F R : List Int) : Nat := 22099 + (c - 1).toNat * 2 ^ 16 + q.toNat * 2 ^ 17 + vhBk F 45 * 2 ^ 21 + vhBk R 16 * 2 ^ 246
/-- Which headers are right. -/
def vhRight (c q : Int) (F R : List Int) : Bool := decide (1 ≤ c ∧ c ≤ 2 ∧ 0 ≤ q ∧ q ≤ 12 ∧ F.length = 45 ∧ R.length = 16 ∧ rightL F = true ∧ rightL R = true ∧ 0 < R.getD 15 0)
theorem vhRight_parts {c q : Int} {F R : List Int} (h : vhRight c q F R = true) : 1 ≤ c ∧ c ≤ 2 ∧ 0 ≤ q ∧ q ≤ 12 ∧ F.length = 45 ∧ R.length = 16 ∧ rightL F = true ∧ rightL R = true ∧ 0 < R.getD 15 0 := of_decide_eq_true h
theorem five_of_right {l : List Int} (h : rightL l = true) : Five l := fun k => by
  have := inB_at (right_parts h).2.2.1 k
  omega
structure HvB (c q : Int) (F R : List Int) : Prop where
  c0 : (c - 1).toNat < 2 ^ 1
  q0 : q.toNat < 2 ^ 4
  f : Five F
  r : Five R
theorem hvb {c q : Int} {F R : List Int} (h : vhRight c q F R = true) : HvB c q F R := by
  obtain ⟨h1, h2, h3, h4, h5, h6, h7, h8, h9⟩ := vhRight_parts h
  exact ⟨by omega, by omega, five_of_right h7, five_of_right h8⟩
theorem hv_lt1 {c q : Int} {F R : List Int} (h : HvB c q F R) : 22099 + (c - 1).toNat * 2 ^ 16 < 2 ^ 17 := joined_lt 22099 _ 16 1 (by decide) h.c0
theorem hv_lt2 {c q : Int} {F R : List Int} (h : HvB c q F R) : 22099 + (c - 1).toNat * 2 ^ 16 + q.toNat * 2 ^ 17 < 2 ^ 21 := joined_lt _ _ 17 4 (hv_lt1 h) h.q0
theorem hv_lt3 {c q : Int} {F R : List Int} (h : HvB c q F R) : 22099 + (c - 1).toNat * 2 ^ 16 + q.toNat * 2 ^ 17 + vhBk F 45 * 2 ^ 21 < 2 ^ 246 := joined_lt _ _ 21 225 (hv_lt2 h) (vhBk_lt h.f 45)
theorem hv_lt4 {c q : Int} {F R : List Int} (h : HvB c q F R) : hV c q F R < 2 ^ 326 := by
  have := joined_lt _ _ 246 80 (hv_lt3 h) (vhBk_lt h.r 16)
  rw [show 246 + 80 = 326 from rfl] at this
  exact this
theorem hv_magic {c q : Int} {F R : List Int} (h : HvB c q F R) : fld (hV c q F R) 0 16 = 22099 := by
  unfold hV
  rw [fld_low _ _ 246 _ _ (by omega), fld_low _ _ 21 _ _ (by omega), fld_low _ _ 17 _ _ (by omega), fld_low _ _ 16 _ _ (by omega)]
  decide
theorem hv_c {c q : Int} {F R : List Int} (h : HvB c q F R) : fld (hV c q F R) 16 1 = (c - 1).toNat := by
  unfold hV
  rw [fld_low _ _ 246 _ _ (by omega), fld_low _ _ 21 _ _ (by omega), fld_low _ _ 17 _ _ (by omega)]
  have := fld_at 22099 (c - 1).toNat 16 0 1 (by decide)
  rw [Nat.add_zero] at this
  rw [this, fld_all _ _ h.c0]
theorem hv_q {c q : Int} {F R : List Int} (h : HvB c q F R) : fld (hV c q F R) 17 4 = q.toNat := by
  unfold hV
  rw [fld_low _ _ 246 _ _ (by omega), fld_low _ _ 21 _ _ (by omega)]
  have := fld_at (22099 + (c - 1).toNat * 2 ^ 16) q.toNat 17 0 4 (hv_lt1 h)
  rw [Nat.add_zero] at this
  rw [this, fld_all _ _ h.q0]
theorem hv_f {c q : Int} {F R : List Int} (h : HvB c q F R) (s : Nat) (hs : s < 45) : fld (hV c q F R) (21 + 5 * s) 5 = (F.getD s 0).toNat := by
  unfold hV
  rw [fld_low _ _ 246 _ _ (by omega), fld_at _ _ 21 _ _ (hv_lt2 h), vhBk_at h.f 45 s hs]
theorem hv_r {c q : Int} {F R : List Int} (h : HvB c q F R) (s : Nat) (hs : s < 16) : fld (hV c q F R) (246 + 5 * s) 5 = (R.getD s 0).toNat := by
  unfold hV
  rw [fld_at _ _ 246 _ _ (hv_lt3 h), vhBk_at h.r 16 s hs]
theorem hv_end {c q : Int} {F R : List Int} (h : HvB c q F R) : fld (hV c q F R) 326 2 = 0 := by
  unfold fld
  rw [Nat.div_eq_of_lt (hv_lt4 h), Nat.zero_mod]

/-- What is read of bytes at a place; 0, if so many are not there. -/
def gv (xs : List Int) (q n : Nat) : Nat := if q + n ≤ 8 * xs.length then fld (bv xs) q n else 0
theorem gv_lt (xs : List Int) (q n : Nat) : gv xs q n < 2 ^ n := by
  unfold gv; split
  · exact fld_lt _ _ _
  · exact Nat.two_pow_pos n
def vhC (xs : List Int) : Int := 1 + ((gv xs 16 1 : Nat) : Int)
def vhQ (xs : List Int) : Int := ((gv xs 17 4 : Nat) : Int)
def vhF (xs : List Int) : List Int := tab 45 fun s => ((gv xs (21 + 5 * s) 5 : Nat) : Int)
def vhR (xs : List Int) : List Int := tab 16 fun s => ((gv xs (246 + 5 * s) 5 : Nat) : Int)
def vhIn (xs : List Int) : Bool := vhRight (vhC xs) (vhQ xs) (vhF xs) (vhR xs)
def vhOk (xs : List Int) : Bool := decide (xs.length = 41 ∧ gv xs 0 16 = 22099 ∧ gv xs 326 2 = 0 ∧ vhIn xs = true)
def vhE (xs : List Int) : Int := if xs.length < 41 then 4 else if vhOk xs = true then 0 else 2
def oC (xs : List Int) : Int := if vhOk xs = true then vhC xs else 0
def oQ (xs : List Int) : Int := if vhOk xs = true then vhQ xs else 0
def oF (xs : List Int) : List Int := if vhOk xs = true then vhF xs else []
def oR (xs : List Int) : List Int := if vhOk xs = true then vhR xs else []
theorem vhOk_parts {xs : List Int} (h : vhOk xs = true) : xs.length = 41 ∧ gv xs 0 16 = 22099 ∧ gv xs 326 2 = 0 ∧ vhIn xs = true := of_decide_eq_true h
theorem gv_in {xs : List Int} (hl : xs.length = 41) (q n : Nat) (h : q + n ≤ 328) : gv xs q n = fld (bv xs) q n := by
  unfold gv; rw [if_pos (by omega)]
theorem vhF_in {xs : List Int} (hl : xs.length = 41) : vhF xs = tab 45 fun s => ((fld (bv xs) (21 + 5 * s) 5 : Nat) : Int) :=
  tab_congr fun s hs => by rw [gv_in hl _ _ (by omega)]
theorem vhR_in {xs : List Int} (hl : xs.length = 41) : vhR xs = tab 16 fun s => ((fld (bv xs) (246 + 5 * s) 5 : Nat) : Int) :=
  tab_congr fun s hs => by rw [gv_in hl _ _ (by omega)]
theorem bv_hv {c q : Int} {F R : List Int} (h : HvB c q F R) : bv (byL (hV c q F R) 41) = hV c q F R := by
  have := hv_lt4 h
  have h2 := pow_up 326 (8 * 41) (by omega) _ this
  rw [byL_bv, pow256, Nat.mod_eq_of_lt h2]
structure Back (c q : Int) (F R xs : List Int) : Prop where
  len : xs.length = 41
  ok : vhOk xs = true
  c : vhC xs = c
  q : vhQ xs = q
  f : vhF xs = F
  r : vhR xs = R
theorem vh_back {c q : Int} {F R : List Int} (h : vhRight c q F R = true) : Back c q F R (byL (hV c q F R) 41) := by
  have hb := hvb h
  obtain ⟨h1, h2, h3, h4, h5, h6, h7, h8, h9⟩ := vhRight_parts h
  have hl : (byL (hV c q F R) 41).length = 41 := byL_length _ _
  have e1 : vhC (byL (hV c q F R) 41) = c := by
    unfold vhC; rw [gv_in hl _ _ (by omega), bv_hv hb, hv_c hb]; omega
  have e2 : vhQ (byL (hV c q F R) 41) = q := by
    unfold vhQ; rw [gv_in hl _ _ (by omega), bv_hv hb, hv_q hb]; omega
  have e3 : vhF (byL (hV c q F R) 41) = F := by
    rw [vhF_in hl, bv_hv hb]
    exact (tab_eq h5 fun s hs => by rw [hv_f hb s hs]; have := hb.f s; omega).symm
  have e4 : vhR (byL (hV c q F R) 41) = R := by
    rw [vhR_in hl, bv_hv hb]
    exact (tab_eq h6 fun s hs => by rw [hv_r hb s hs]; have := hb.r s; omega).symm
  refine ⟨hl, decide_eq_true ⟨hl, ?_, ?_, ?_⟩, e1, e2, e3, e4⟩
  · rw [gv_in hl _ _ (by omega), bv_hv hb, hv_magic hb]
  · rw [gv_in hl _ _ (by omega), bv_hv hb, hv_end hb]
  · unfold vhIn; rw [e1, e2, e3, e4]; exact h
theorem vh_only {xs : List Int} (hx : Byts xs) (h : vhOk xs = true) : byL (hV (vhC xs) (vhQ xs) (vhF xs) (vhR xs)) 41 = xs := by
  obtain ⟨hl, hm, he, hr⟩ := vhOk_parts h
  have hlt := bv_len_lt hx (326 + 2) (by omega)
  have e : hV (vhC xs) (vhQ xs) (vhF xs) (vhR xs) = bv xs := by
    rw [gv_in hl _ _ (by omega)] at hm he
    unfold hV
    rw [vhF_in hl, vhR_in hl, vhBk_tab _ _ _ _ (Nat.le_refl _), vhBk_tab _ _ _ _ (Nat.le_refl _)]
    unfold vhC vhQ
    rw [gv_in hl _ _ (by omega), gv_in hl _ _ (by omega)]
    have m0 := mod_whole (bv xs) 326 2 hlt he
    have m1 := mod_fld (bv xs) 246 80
    have m2 := mod_fld (bv xs) 21 225
    have m3 := mod_fld (bv xs) 17 4
    have m4 := mod_fld (bv xs) 16 1
    have m5 : fld (bv xs) 0 16 = bv xs % 2 ^ 16 := by unfold fld; rw [Nat.pow_zero, Nat.div_one]
    rw [show (1 + ((fld (bv xs) 16 1 : Nat) : Int) - 1).toNat = fld (bv xs) 16 1 by omega, show (((fld (bv xs) 17 4 : Nat) : Int)).toNat = fld (bv xs) 17 4 by omega]
    rw [m5] at hm
    rw [hm] at m4
    rw [show 16 + 1 = 17 from rfl] at m4
    rw [show 17 + 4 = 21 from rfl, m4] at m3
    rw [show 21 + 225 = 246 from rfl, m3] at m2
    rw [show 246 + 80 = 326 from rfl] at m1
    have m6 := congrArg (fun t => t + fld (bv xs) 246 80 * 2 ^ 246) m2
    rw [show 5 * 45 = 225 from rfl, show 5 * 16 = 80 from rfl]
    exact (m0.trans (m1.trans m6)).symm
  have := byL_eq hx e.symm
  rw [hl] at this
  exact this.symm

/-- The plain books. -/
def plF : List Int := tab 45 fun s => if s < 19 then 5 else 6
def plR : List Int := tab 16 fun _ => 4
theorem plF_right : rightL plF = true := by decide
theorem plR_right : rightL plR = true := by decide
theorem pl_right (c q : Int) : vhRight c q plF plR = decide (1 ≤ c ∧ c ≤ 2 ∧ 0 ≤ q ∧ q ≤ 12) := by
  have h1 : plF.length = 45 := tab_len _ _
  have h2 : plR.length = 16 := tab_len _ _
  have h3 : 0 < plR.getD 15 0 := by decide
  unfold vhRight
  rw [decide_eq_decide]
  exact ⟨fun h => ⟨h.1, h.2.1, h.2.2.1, h.2.2.2.1⟩, fun h => ⟨h.1, h.2.1, h.2.2.1, h.2.2.2, h1, h2, plF_right, plR_right, h3⟩⟩
/-- The first two bytes. -/
theorem two_bytes {xs : List Int} (hx : Byts xs) (hl : 2 ≤ xs.length) : gv xs 0 16 = (xs.getD 0 0).toNat + (xs.getD 1 0).toNat * 256 := by
  unfold gv; rw [if_pos (by omega)]
  have h0 := bv_get hx 0
  have h1 := bv_get hx 1
  unfold fld
  have e : bv xs % 65536 = bv xs % 256 + bv xs / 256 % 256 * 256 := by omega
  rw [Nat.pow_zero, Nat.div_one] at h0
  rw [Nat.pow_one] at h1
  rw [Nat.pow_zero, Nat.div_one, show (2 : Nat) ^ 16 = 65536 from rfl, e, h0, h1]
theorem magic_bytes {xs : List Int} (hx : Byts xs) (hl : 2 ≤ xs.length) : gv xs 0 16 = 22099 ↔ xs.getD 0 0 = 83 ∧ xs.getD 1 0 = 86 := by
  rw [two_bytes hx hl]
  have h0 := hx.getD 0
  have h1 := hx.getD 1
  omega
end Go.Proofs.Ytdgacbelpenmmaa
