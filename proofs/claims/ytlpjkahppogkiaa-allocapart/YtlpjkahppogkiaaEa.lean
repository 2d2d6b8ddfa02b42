/- Pulse vectors on plain numbers: how many there are, their numbers, their order. Nothing of the program is imported. -/
import Derived.Test.YtlpjkahppogkiaaGrids
namespace Go.Proofs.Ytlpjkahppogkiaa
open Go.RowKit
set_option linter.unusedVariables false
set_option linter.unusedSimpArgs false

/-- The sum of f at the places below k. -/
def S (f : Nat → Nat) : Nat → Nat
  | 0 => 0
  | k + 1 => S f k + f k
theorem S_mono (f : Nat → Nat) {a b : Nat} (h : a ≤ b) : S f a ≤ S f b := by
  induction b with
  | zero => have : a = 0 := by omega
            subst this; exact Nat.le_refl _
  | succ b ih =>
    by_cases e : a = b + 1
    · subst e; exact Nat.le_refl _
    · have := ih (by omega); show S f a ≤ S f b + f b; omega

/-- How many vectors of n places and k pulses there are. -/
def V : Nat → Nat → Nat
  | 0 => fun k => if k = 0 then 1 else 0
  | n + 1 => fun k => V n k + 2 * S (V n) k
theorem V_succ (n k : Nat) : V (n + 1) k = V n k + 2 * S (V n) k := rfl
theorem V_zero (k : Nat) : V 0 k = if k = 0 then 1 else 0 := rfl

theorem V_le (n : Nat) : ∀ k, V n k ≤ 2 ^ n * 3 ^ k := by
  induction n with
  | zero =>
    intro k
    rw [V_zero]
    have : 0 < 3 ^ k := Nat.pow_pos (by decide)
    split <;> omega
  | succ n ih =>
    have hs : ∀ k, 2 * S (V n) k + 2 ^ n ≤ 2 ^ n * 3 ^ k := fun k => by
      induction k with
      | zero => simp [S]
      | succ k ihk =>
        have := ih k
        simp only [S, Nat.pow_succ]
        rw [← Nat.mul_assoc]
        omega
    intro k
    have h1 := hs k
    have h2 := ih k
    rw [V_succ, Nat.pow_succ]
    have : 2 ^ n * 2 * 3 ^ k = 2 * (2 ^ n * 3 ^ k) := by rw [Nat.mul_comm (2 ^ n) 2, Nat.mul_assoc]
    rw [this]
    generalize 2 ^ n * 3 ^ k = a at *
    generalize 2 ^ n = c at *
    omega
theorem V_small (n k : Nat) (hn : n ≤ 16) (hk : k ≤ 13) : V n k ≤ 104485552128 := by
  refine Nat.le_trans (V_le n k) ?_
  exact Nat.mul_le_mul (Nat.pow_le_pow_right (by decide) hn : 2 ^ n ≤ 2 ^ 16) (Nat.pow_le_pow_right (by decide) hk : 3 ^ k ≤ 3 ^ 13)
theorem S_small (n k : Nat) (hn : n ≤ 16) (hk : k ≤ 13) : S (V n) k ≤ 1358312177664 := by
  have : ∀ j, j ≤ 13 → S (V n) j ≤ j * 104485552128 := fun j => by
    induction j with
    | zero => intro _; simp [S]
    | succ j ih =>
      intro hj
      have h1 := ih (by omega)
      have h2 := V_small n j hn (by omega)
      show S (V n) j + V n j ≤ _
      omega
  have := this k hk
  omega
theorem V_one (n k : Nat) : 1 ≤ V (n + 1) k := by
  induction n generalizing k with
  | zero =>
    rw [V_succ]
    cases k with
    | zero => decide
    | succ k =>
      have h1 : S (V 0) 1 ≤ S (V 0) (k + 1) := S_mono _ (by omega)
      have h2 : S (V 0) 1 = 1 := by decide
      omega
  | succ n ih => rw [V_succ]; have := ih k; omega
theorem V_pos (n k : Nat) (h : 1 ≤ n) : 1 ≤ V n k := by
  obtain ⟨m, rfl⟩ : ∃ m, n = m + 1 := ⟨n - 1, by omega⟩
  exact V_one m k
/-- P6.5: each count is the sum of three others. -/
theorem V_three (n k : Nat) : V (n + 1) (k + 1) = V n (k + 1) + V (n + 1) k + V n k := by
  rw [V_succ, V_succ]
  show _ + 2 * (S (V n) k + V n k) = _
  omega

/-- The integer at a place of the row 0, 1, -1, 2, -2 .., and the place of an integer. -/
def pl (p : Nat) : Int := if p % 2 = 1 then (((p + 1) / 2 : Nat) : Int) else -((p / 2 : Nat) : Int)
def plc (v : Int) : Nat := if 0 < v then (2 * v - 1).toNat else (-2 * v).toNat
theorem pl_abs (p : Nat) : (pl p).natAbs = (p + 1) / 2 := by unfold pl; split <;> omega
theorem plc_pl (p : Nat) : plc (pl p) = p := by unfold plc pl; split <;> split <;> omega
theorem pl_plc (v : Int) : pl (plc v) = v := by unfold plc pl; split <;> split <;> omega
theorem plc_half (v : Int) : (plc v + 1) / 2 = v.natAbs := by unfold plc; split <;> omega
theorem plc_le (v : Int) : plc v ≤ 2 * v.natAbs := by unfold plc; split <;> omega
theorem plc_inj {u v : Int} (h : plc u = plc v) : u = v := by rw [← pl_plc u, h, pl_plc]
theorem pl_inj {p q : Nat} (h : pl p = pl q) : p = q := by rw [← plc_pl p, h, plc_pl]
theorem pl_zero : pl 0 = 0 := rfl
theorem pl_pos (p : Nat) (h : 0 < pl p) : -pl p = pl (p + 1) := by unfold pl at *; split at h <;> split <;> omega
theorem pl_neg (p : Nat) (h : ¬ 0 < pl p) : 1 - pl p = pl (p + 1) := by unfold pl at *; split at h <;> split <;> omega
theorem pl_small (p : Nat) (k : Nat) (h : p ≤ 2 * k) : -(k : Int) ≤ pl p ∧ pl p ≤ k := by unfold pl; split <;> omega

/-- All vectors of n + 1 places and k pulses that begin with one of the first p integers. -/
def A (n k p : Nat) : Nat := S (fun q => V n (k - (q + 1) / 2)) p
theorem A_succ (n k p : Nat) : A n k (p + 1) = A n k p + V n (k - (p + 1) / 2) := rfl
theorem A_zero (n k : Nat) : A n k 0 = 0 := rfl
theorem A_mono (n k : Nat) {p q : Nat} (h : p ≤ q) : A n k p ≤ A n k q := S_mono _ h
theorem A_odd (n k m : Nat) (h : m ≤ k) : A n k (2 * m + 1) + 2 * S (V n) (k - m) = V n k + 2 * S (V n) k := by
  induction m with
  | zero => show 0 + V n (k - (0 + 1) / 2) + 2 * S (V n) (k - 0) = _; simp
  | succ m ih =>
    have h1 := ih (by omega)
    have e : A n k (2 * (m + 1) + 1) = A n k (2 * m + 1) + V n (k - (m + 1)) + V n (k - (m + 1)) := by
      show A n k (2 * m + 1) + V n (k - (2 * m + 1 + 1) / 2) + V n (k - (2 * m + 1 + 1 + 1) / 2) = _
      rw [show (2 * m + 1 + 1) / 2 = m + 1 by omega, show (2 * m + 1 + 1 + 1) / 2 = m + 1 by omega]
    have e2 : S (V n) (k - m) = S (V n) (k - (m + 1)) + V n (k - (m + 1)) := by
      rw [show k - m = (k - (m + 1)) + 1 by omega]; rfl
    omega
theorem A_top (n k : Nat) : A n k (2 * k + 1) = V (n + 1) k := by
  have := A_odd n k k (Nat.le_refl _)
  rw [V_succ, ← this]
  simp [S]
theorem A_le (n k p : Nat) (h : p ≤ 2 * k + 1) : A n k p ≤ V (n + 1) k := by
  rw [← A_top]; exact A_mono n k h

/-- The sizes of a vector together; its number among those of n places and k pulses (of a vector's beginning, too). -/
def ps : List Int → Nat
  | [] => 0
  | v :: t => v.natAbs + ps t
def ix : Nat → Nat → List Int → Nat
  | _, _, [] => 0
  | n, k, v :: t => A (n - 1) k (plc v) + ix (n - 1) (k - v.natAbs) t
theorem ps_append (a b : List Int) : ps (a ++ b) = ps a + ps b := by
  induction a with
  | nil => simp [ps]
  | cons v t ih => simp only [List.cons_append, ps, ih]; omega
theorem ix_snoc (t : List Int) : ∀ (n k : Nat) (v : Int), ix n k (t ++ [v]) = ix n k t + A (n - t.length - 1) (k - ps t) (plc v) := by
  induction t with
  | nil => intro n k v; simp [ix, ps]
  | cons u t ih =>
    intro n k v
    simp only [List.cons_append, ix, ih, ps, List.length_cons]
    rw [show n - 1 - t.length - 1 = n - (t.length + 1) - 1 by omega, show k - u.natAbs - ps t = k - (u.natAbs + ps t) by omega]
    omega
theorem ps_take (y : List Int) (j : Nat) : ps (y.take j) ≤ ps y := by
  have h := List.take_append_drop j y
  have e : ps y = ps (y.take j) + ps (y.drop j) := by rw [← ps_append, h]
  omega
theorem take_next (y : List Int) (j : Nat) (h : j < y.length) : y.take (j + 1) = y.take j ++ [y.getD j 0] := by
  rw [List.take_succ_eq_append_getElem h, List.getD_eq_getElem?_getD, List.getElem?_eq_getElem h]; rfl
theorem ps_next (y : List Int) (j : Nat) (h : j < y.length) : ps (y.take (j + 1)) = ps (y.take j) + (y.getD j 0).natAbs := by
  rw [take_next y j h, ps_append]; simp [ps]
theorem ps_at (y : List Int) (j : Nat) (h : j < y.length) : ps (y.take j) + (y.getD j 0).natAbs ≤ ps y := by
  rw [← ps_next y j h]; exact ps_take y _
theorem ix_next (y : List Int) (n k j : Nat) (h : j < y.length) : ix n k (y.take (j + 1)) = ix n k (y.take j) + A (n - j - 1) (k - ps (y.take j)) (plc (y.getD j 0)) := by
  rw [take_next y j h, ix_snoc, List.length_take, Nat.min_eq_left (by omega)]
/-- Behind a beginning there is room for all vectors that go on from it. -/
theorem ix_room (t : List Int) : ∀ (n k : Nat), t.length ≤ n → ps t ≤ k → ix n k t + V (n - t.length) (k - ps t) ≤ V n k := by
  induction t with
  | nil => intro n k _ _; simp [ix, ps]
  | cons v t ih =>
    intro n k hn hk
    simp only [List.length_cons, ps] at *
    obtain ⟨m, rfl⟩ : ∃ m, n = m + 1 := ⟨n - 1, by omega⟩
    have h1 := ih m (k - v.natAbs) (by omega) (by omega)
    have h2 := A_succ m k (plc v)
    rw [plc_half] at h2
    have h3 := A_le m k (plc v + 1) (by have := plc_le v; omega)
    simp only [ix]
    rw [show m + 1 - 1 = m by omega, show m + 1 - (t.length + 1) = m - t.length by omega, show k - (v.natAbs + ps t) = k - v.natAbs - ps t by omega]
    omega
theorem ix_le (t : List Int) (n k : Nat) (hn : t.length ≤ n) (hk : ps t ≤ k) : ix n k t ≤ V n k := by
  have := ix_room t n k hn hk; omega
theorem ix_lt (t : List Int) (n k : Nat) (hn : t.length = n) (hk : ps t = k) : ix n k t < V n k := by
  have h := ix_room t n k (by omega) (by omega)
  rw [hn, hk, Nat.sub_self, Nat.sub_self] at h
  have : V 0 0 = 1 := rfl
  omega
/-- Vectors of as many places and pulses: alike, or their numbers' order is theirs. -/
theorem ix_ways (y : List Int) : ∀ (z : List Int) (n k : Nat), y.length = n → z.length = n → ps y = k → ps z = k →
    y = z ∨ ∃ j, j < n ∧ (∀ i, i < j → y.getD i 0 = z.getD i 0) ∧ ((plc (y.getD j 0) < plc (z.getD j 0) ∧ ix n k y < ix n k z) ∨ (plc (z.getD j 0) < plc (y.getD j 0) ∧ ix n k z < ix n k y)) := by
  induction y with
  | nil =>
    intro z n k h1 h2 _ _
    left
    have : z = [] := List.eq_nil_of_length_eq_zero (by rw [h2, ← h1]; rfl)
    rw [this]
  | cons v t ih =>
    intro z n k h1 h2 h3 h4
    cases z with
    | nil => simp at h1 h2; omega
    | cons u s =>
      simp only [List.length_cons] at h1 h2
      simp only [ps] at h3 h4
      obtain ⟨m, rfl⟩ : ∃ m, n = m + 1 := ⟨n - 1, by omega⟩
      have part : ∀ (a b : Int) (p q : List Int), p.length = m → q.length = m → a.natAbs + ps p = k → b.natAbs + ps q = k → plc a < plc b → ix (m + 1) k (a :: p) < ix (m + 1) k (b :: q) := by
        intro a b p q hp hq ha hb hab
        have l1 := ix_lt p m (k - a.natAbs) hp (by omega)
        have l2 := A_succ m k (plc a)
        rw [plc_half] at l2
        have l3 := A_mono m k (show plc a + 1 ≤ plc b by omega)
        simp only [ix]
        rw [show m + 1 - 1 = m by omega]
        omega
      rcases Nat.lt_trichotomy (plc v) (plc u) with h | h | h
      · right
        exact ⟨0, by omega, fun i hi => by omega, .inl ⟨by simpa using h, part v u t s (by omega) (by omega) h3 h4 h⟩⟩
      · have e := plc_inj h
        subst e
        rcases ih s m (k - v.natAbs) (by omega) (by omega) (by omega) (by omega) with e | ⟨j, hj, hb, hc⟩
        · left; rw [e]
        · right
          refine ⟨j + 1, by omega, fun i hi => ?_, ?_⟩
          · cases i with
            | zero => simp
            | succ i => have := hb i (by omega); simpa using this
          · simp only [List.getD_cons_succ, ix]
            rw [show m + 1 - 1 = m by omega]
            rcases hc with ⟨c1, c2⟩ | ⟨c1, c2⟩
            · exact .inl ⟨c1, by omega⟩
            · exact .inr ⟨c1, by omega⟩
      · right
        exact ⟨0, by omega, fun i hi => by omega, .inr ⟨by simpa using h, part u v s t (by omega) (by omega) h4 h3 h⟩⟩
theorem ix_inj {y z : List Int} {n k : Nat} (h1 : y.length = n) (h2 : z.length = n) (h3 : ps y = k) (h4 : ps z = k) (h : ix n k y = ix n k z) : y = z := by
  rcases ix_ways y z n k h1 h2 h3 h4 with e | ⟨j, _, _, h' | h'⟩
  · exact e
  · omega
  · omega
theorem ix_order {y z : List Int} {n k : Nat} (h1 : y.length = n) (h2 : z.length = n) (h3 : ps y = k) (h4 : ps z = k) (h : ix n k y < ix n k z) :
    ∃ j, j < n ∧ (∀ i, i < j → y.getD i 0 = z.getD i 0) ∧ plc (y.getD j 0) < plc (z.getD j 0) := by
  rcases ix_ways y z n k h1 h2 h3 h4 with e | ⟨j, hj, hb, h' | h'⟩
  · subst e; omega
  · exact ⟨j, hj, hb, h'.1⟩
  · omega

/-- A vector's beginning t, with the pulses kl and the number il that are left. -/
structure Beg (n k i : Nat) (t : List Int) (kl il : Nat) : Prop where
  len : t.length ≤ n
  pulses : ps t + kl = k
  num : ix n k t + il = i
  room : il < V (n - t.length) kl
theorem Beg.start {n k i : Nat} (h : i < V n k) : Beg n k i [] k i := ⟨by simp, by simp [ps], by simp [ix], by simpa using h⟩
/-- At the integer of place p: those ahead of it are passed. -/
structure At (n k i : Nat) (t : List Int) (kl p ir : Nat) : Prop where
  lt : t.length < n
  pulses : ps t + kl = k
  num : ix n k t + A (n - t.length - 1) kl p + ir = i
  room : ir + A (n - t.length - 1) kl p < V (n - t.length) kl
  top : p ≤ 2 * kl
theorem Beg.at_ {n k i : Nat} {t : List Int} {kl il : Nat} (h : Beg n k i t kl il) (hl : t.length < n) : At n k i t kl 0 il :=
  ⟨hl, h.pulses, by rw [A_zero]; exact h.num, by rw [A_zero]; exact h.room, by omega⟩
theorem At.pass {n k i : Nat} {t : List Int} {kl p ir : Nat} (h : At n k i t kl p ir) (hp : V (n - t.length - 1) (kl - (p + 1) / 2) ≤ ir) : At n k i t kl (p + 1) (ir - V (n - t.length - 1) (kl - (p + 1) / 2)) := by
  have e := A_succ (n - t.length - 1) kl p
  have h1 := h.num
  have h2 := h.room
  have h3 := h.top
  refine ⟨h.lt, h.pulses, by omega, by omega, ?_⟩
  rcases Nat.lt_or_ge p (2 * kl) with h' | h'
  · omega
  · exfalso
    have hp2 : p = 2 * kl := by omega
    have ht := A_top (n - t.length - 1) kl
    rw [show n - t.length - 1 + 1 = n - t.length by have := h.lt; omega] at ht
    rw [hp2] at e h2
    rw [hp2] at hp
    omega
theorem At.take {n k i : Nat} {t : List Int} {kl p ir : Nat} (h : At n k i t kl p ir) (hp : ir < V (n - t.length - 1) (kl - (p + 1) / 2)) : Beg n k i (t ++ [pl p]) (kl - (p + 1) / 2) ir := by
  have h3 := h.top
  have h0 := h.pulses
  refine ⟨by have := h.lt; simp; omega, by rw [ps_append]; simp only [ps, pl_abs]; omega, ?_, by simpa [Nat.sub_sub] using hp⟩
  rw [ix_snoc, plc_pl, show k - ps t = kl by omega]
  exact h.num
theorem Beg.end_ {n k i : Nat} {t : List Int} {kl il : Nat} (h : Beg n k i t kl il) (hl : t.length = n) : t.length = n ∧ ps t = k ∧ ix n k t = i := by
  have hr := h.room
  have h1 := h.pulses
  have h2 := h.num
  rw [hl, Nat.sub_self, V_zero] at hr
  split at hr
  · exact ⟨hl, by omega, by omega⟩
  · omega

/-- A vector that may be: from 1 to 16 places, not more than 12 pulses. -/
def okB (y : List Int) : Bool := decide (1 ≤ y.length ∧ y.length ≤ 16 ∧ ps y ≤ 12)
/-- May there be such vectors? -/
def fairB (n k : Int) : Bool := decide (1 ≤ n ∧ n ≤ 16 ∧ 0 ≤ k ∧ k ≤ 12)
end Go.Proofs.Ytlpjkahppogkiaa
