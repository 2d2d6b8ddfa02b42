/- Pulse vectors on plain numbers: how many there are, their numbers, their order. Nothing of the program is imported. -/
import Derived.Test.YtidppkbphkcmeaaGreatZc
import Derived.Laws.Rows
import Derived.Deep.MidRow
import Derived.Deep.WholeRow
import Derived.Test.YtidppkbphkcmeaaGreatRows
import Derived.Lib.BitFns
import Derived.Lib.Walk
import Derived.Deep.QuietTactic
namespace Go.Proofs.YtidppkbphkcmeaaGreat
open Go.RowKit
set_option linter.unusedVariables false
set_option linter.unusedSimpArgs false

/-- The sum of f at the places below k. -/
def S (f : Nat → Nat) : Nat → Nat
  | 0 => 0
  | k + 1 => S f k + f k
theorem S_mono (f : Nat → Nat) {a b : Nat} (h : a ≤ b) : S f a ≤ S f b := by
  induction b with
  | zero => have : a = 0 := by omega
            subst this; exact Nat.le_refl _
  | succ b ih =>
    by_cases e : a = b + 1
    · subst e; exact Nat.le_refl _
    · have := ih (by omega); show S f a ≤ S f b + f b; omega

/-- How many vectors of n places and k pulses there are. -/
def V : Nat → Nat → Nat
  | 0 => fun k => if k = 0 then 1 else 0
  | n + 1 => fun k => V n k + 2 * S (V n) k
theorem V_succ (n k : Nat) : V (n + 1) k = V n k + 2 * S (V n) k := rfl
theorem V_zero (k : Nat) : V 0 k = if k = 0 then 1 else 0 := rfl

theorem V_le (n : Nat) : ∀ k, V n k ≤ 2 ^ n * 3 ^ k := by
  induction n with
  | zero =>
    intro k
    rw [V_zero]
    have : 0 < 3 ^ k := Nat.pow_pos (by decide)
    split <;> omega
  | succ n ih =>
    have hs : ∀ k, 2 * S (V n) k + 2 ^ n ≤ 2 ^ n * 3 ^ k := fun k => by
      induction k with
      | zero => simp [S]
      | succ k ihk =>
        have := ih k
        simp only [S, Nat.pow_succ]
        rw [← Nat.mul_assoc]
        omega
    intro k
    have h1 := hs k
    have h2 := ih k
    rw [V_succ, Nat.pow_succ]
    have : 2 ^ n * 2 * 3 ^ k = 2 * (2 ^ n * 3 ^ k) := by rw [Nat.mul_comm (2 ^ n) 2, Nat.mul_assoc]
    rw [this]
    generalize 2 ^ n * 3 ^ k = a at *
    generalize 2 ^ n = c at *
    omega
theorem V_small (n k : Nat) (hn : n ≤ 16) (hk : k ≤ 13) : V n k ≤ 104485552128 := by
  refine Nat.le_trans (V_le n k) ?_
  exact Nat.mul_le_mul (Nat.pow_le_pow_right (by decide) hn : 2 ^ n ≤ 2 ^ 16) (Nat.pow_le_pow_right (by decide) hk : 3 ^ k ≤ 3 ^ 13)
theorem S_small (n k : Nat) (hn : n ≤ 16) (hk : k ≤ 13) : S (V n) k ≤ 1358312177664 := by
  have : ∀ j, j ≤ 13 → S (V n) j ≤ j * 104485552128 := fun j => by
    induction j with
    | zero => intro _; simp [S]
    | succ j ih =>
      intro hj
      have h1 := ih (by omega)
      have h2 := V_small n j hn (by omega)
      show S (V n) j + V n j ≤ _
      omega
  have := this k hk
  omega
theorem V_one (n k : Nat) : 1 ≤ V (n + 1) k := by
  induction n generalizing k with
  | zero =>
    rw [V_succ]
    cases k with
    | zero => decide
    | succ k =>
      have h1 : S (V 0) 1 ≤ S (V 0) (k + 1) := S_mono _ (by omega)
      have h2 : S (V 0) 1 = 1 := by decide
      omega
  | succ n ih => rw [V_succ]; have := ih k; omega
theorem V_pos (n k : Nat) (h : 1 ≤ n) : 1 ≤ V n k := by
  obtain ⟨m, rfl⟩ : ∃ m, n = m + 1 := ⟨n - 1, by omega⟩
  exact V_one m k
/-- P6.5: each count is the sum of three others. -/
theorem V_three (n k : Nat) : V (n + 1) (k + 1) = V n (k + 1) + V (n + 1) k + V n k := by
  rw [V_succ, V_succ]
  show _ + 2 * (S (V n) k + V n k) = _
  omega

/-- The integer at a place of the row 0, 1, -1, 2, -2 .., and the place of an integer. -/
def pl (p : Nat) : Int := if p % 2 = 1 then (((p + 1) / 2 : Nat) : Int) else -((p / 2 : Nat) : Int)
def plc (v : Int) : Nat := if 0 < v then (2 * v - 1).toNat else (-2 * v).toNat
theorem pl_abs (p : Nat) : (pl p).natAbs = (p + 1) / 2 := by unfold pl; split <;> omega
theorem plc_pl (p : Nat) : plc (pl p) = p := by unfold plc pl; split <;> split <;> omega
theorem pl_plc (v : Int) : pl (plc v) = v := by unfold plc pl; split <;> split <;> omega
theorem plc_half (v : Int) : (plc v + 1) / 2 = v.natAbs := by unfold plc; split <;> omega
theorem plc_le (v : Int) : plc v ≤ 2 * v.natAbs := by unfold plc; split <;> omega
theorem plc_inj {u v : Int} (h : plc u = plc v) : u = v := by rw [← pl_plc u, h, pl_plc]
theorem pl_inj {p q : Nat} (h : pl p = pl q) : p = q := by rw [← plc_pl p, h, plc_pl]
theorem pl_zero : pl 0 = 0 := rfl
theorem pl_pos (p : Nat) (h : 0 < pl p) : -pl p = pl (p + 1) := by unfold pl at *; split at h <;> split <;> omega
theorem pl_neg (p : Nat) (h : ¬ 0 < pl p) : 1 - pl p = pl (p + 1) := by unfold pl at *; split at h <;> split <;> omega
theorem pl_small (p : Nat) (k : Nat) (h : p ≤ 2 * k) : -(k : Int) ≤ pl p ∧ pl p ≤ k := by unfold pl; split <;> omega

/-- All vectors of n + 1 places and k pulses that begin with one of the first p integers. -/
def A (n k p : Nat) : Nat := S (fun q => V n (k - (q + 1) / 2)) p
theorem A_succ (n k p : Nat) : A n k (p + 1) = A n k p + V n (k - (p + 1) / 2) := rfl
theorem A_zero (n k : Nat) : A n k 0 = 0 := rfl
theorem A_mono (n k : Nat) {p q : Nat} (h : p ≤ q) : A n k p ≤ A n k q := S_mono _ h
theorem A_odd (n k m : Nat) (h : m ≤ k) : A n k (2 * m + 1) + 2 * S (V n) (k - m) = V n k + 2 * S (V n) k := by
  induction m with
  | zero => show 0 + V n (k - (0 + 1) / 2) + 2 * S (V n) (k - 0) = _; simp
  | succ m ih =>
    have h1 := ih (by omega)
    have e : A n k (2 * (m + 1) + 1) = A n k (2 * m + 1) + V n (k - (m + 1)) + V n (k - (m + 1)) := by
      show A n k (2 * m + 1) + V n (k - (2 * m + 1 + 1) / 2) + V n (k - (2 * m + 1 + 1 + 1) / 2) = _
      rw [show (2 * m + 1 + 1) / 2 = m + 1 by omega, show (2 * m + 1 + 1 + 1) / 2 = m + 1 by omega]
    have e2 : S (V n) (k - m) = S (V n) (k - (m + 1)) + V n (k - (m + 1)) := by
      rw [show k - m = (k - (m + 1)) + 1 by omega]; rfl
    omega
theorem A_top (n k : Nat) : A n k (2 * k + 1) = V (n + 1) k := by
  have := A_odd n k k (Nat.le_refl _)
  rw [V_succ, ← this]
  simp [S]
theorem A_le (n k p : Nat) (h : p ≤ 2 * k + 1) : A n k p ≤ V (n + 1) k := by
  rw [← A_top]; exact A_mono n k h

/-- The sizes of a vector together; its number among those of n places and k pulses (of a vector's beginning, too). -/
def ps : List Int → Nat
  | [] => 0
  | v :: t => v.natAbs + ps t
def ix : Nat → Nat → List Int → Nat
  | _, _, [] => 0
  | n, k, v :: t => A (n - 1) k (plc v) + ix (n - 1) (k - v.natAbs) t
theorem ps_append (a b : List Int) : ps (a ++ b) = ps a + ps b := by
  induction a with
  | nil => simp [ps]
  | cons v t ih => simp only [List.cons_append, ps, ih]; omega
theorem ix_snoc (t : List Int) : ∀ (n k : Nat) (v : Int), ix n k (t ++ [v]) = ix n k t + A (n - t.length - 1) (k - ps t) (plc v) := by
  induction t with
  | nil => intro n k v; simp [ix, ps]
  | cons u t ih =>
    intro n k v
    simp only [List.cons_append, ix, ih, ps, List.length_cons]
    rw [show n - 1 - t.length - 1 = n - (t.length + 1) - 1 by omega, show k - u.natAbs - ps t = k - (u.natAbs + ps t) by omega]
    omega
theorem ps_take (y : List Int) (j : Nat) : ps (y.take j) ≤ ps y := by
  have h := List.take_append_drop j y
  have e : ps y = ps (y.take j) + ps (y.drop j) := by rw [← ps_append, h]
  omega
theorem take_next (y : List Int) (j : Nat) (h : j < y.length) : y.take (j + 1) = y.take j ++ [y.getD j 0] := by
  rw [List.take_succ_eq_append_getElem h, List.getD_eq_getElem?_getD, List.getElem?_eq_getElem h]; rfl
theorem ps_next (y : List Int) (j : Nat) (h : j < y.length) : ps (y.take (j + 1)) = ps (y.take j) + (y.getD j 0).natAbs := by
  rw [take_next y j h, ps_append]; simp [ps]
theorem ps_at (y : List Int) (j : Nat) (h : j < y.length) : ps (y.take j) + (y.getD j 0).natAbs ≤ ps y := by
  rw [← ps_next y j h]; exact ps_take y _
theorem ix_next (y : List Int) (n k j : Nat) (h : j < y.length) : ix n k (y.take (j + 1)) = ix n k (y.take j) + A (n - j - 1) (k - ps (y.take j)) (plc (y.getD j 0)) := by
  rw [take_next y j h, ix_snoc, List.length_take, Nat.min_eq_left (by omega)]
/-- Behind a beginning there is room for all vectors that go on from it. -/
theorem ix_room (t : List Int) : ∀ (n k : Nat), t.length ≤ n → ps t ≤ k → ix n k t + V (n - t.length) (k - ps t) ≤ V n k := by
  induction t with
  | nil => intro n k _ _; simp [ix, ps]
  | cons v t ih =>
    intro n k hn hk
    simp only [List.length_cons, ps] at *
    obtain ⟨m, rfl⟩ : ∃ m, n = m + 1 := ⟨n - 1, by omega⟩
    have h1 := ih m (k - v.natAbs) (by omega) (by omega)
    have h2 := A_succ m k (plc v)
    rw [plc_half] at h2
    have h3 := A_le m k (plc v + 1) (by have := plc_le v; omega)
    simp only [ix]
    rw [show m + 1 - 1 = m by omega, show m + 1 - (t.length + 1) = m - t.length by omega, show k - (v.natAbs + ps t) = k - v.natAbs - ps t by omega]
    omega
theorem ix_le (t : List Int) (n k : Nat) (hn : t.length ≤ n) (hk : ps t ≤ k) : ix n k t ≤ V n k := by
  have := ix_room t n k hn hk; omega
theorem ix_lt (t : List Int) (n k : Nat) (hn : t.length = n) (hk : ps t = k) : ix n k t < V n k := by
  have h := ix_room t n k (by omega) (by omega)
  rw [hn, hk, Nat.sub_self, Nat.sub_self] at h
  have : V 0 0 = 1 := rfl
  omega
/-- Vectors of as many places and pulses: alike, or their numbers' order is theirs. -/
theorem ix_ways (y : List Int) : ∀ (z : List Int) (n k : Nat), y.length = n → z.length = n → ps y = k → ps z = k →
    y = z ∨ ∃ j, j < n ∧ (∀ i, i < j → y.getD i 0 = z.getD i 0) ∧ ((plc (y.getD j 0) < plc (z.getD j 0) ∧ ix n k y < ix n k z) ∨ (plc (z.getD j 0) < plc (y.getD j 0) ∧ ix n k z < ix n k y)) := by
  induction y with
  | nil =>
    intro z n k h1 h2 _ _
    left
    have : z = [] := List.eq_nil_of_length_eq_zero (by rw [h2, ← h1]; rfl)
    rw [this]
  | cons v t ih =>
    intro z n k h1 h2 h3 h4
    cases z with
    | nil => simp at h1 h2; omega
    | cons u s =>
      simp only [List.length_cons] at h1 h2
      simp only [ps] at h3 h4
      obtain ⟨m, rfl⟩ : ∃ m, n = m + 1 := ⟨n - 1, by omega⟩
      have part : ∀ (a b : Int) (p q : List Int), p.length = m → q.length = m → a.natAbs + ps p = k → b.natAbs + ps q = k → plc a < plc b → ix (m + 1) k (a :: p) < ix (m + 1) k (b :: q) := by
        intro a b p q hp hq ha hb hab
        have l1 := ix_lt p m (k - a.natAbs) hp (by omega)
        have l2 := A_succ m k (plc a)
        rw [plc_half] at l2
        have l3 := A_mono m k (show plc a + 1 ≤ plc b by omega)
        simp only [ix]
        rw [show m + 1 - 1 = m by omega]
        omega
      rcases Nat.lt_trichotomy (plc v) (plc u) with h | h | h
      · right
        exact ⟨0, by omega, fun i hi => by omega, .inl ⟨by simpa using h, part v u t s (by omega) (by omega) h3 h4 h⟩⟩
      · have e := plc_inj h
        subst e
        rcases ih s m (k - v.natAbs) (by omega) (by omega) (by omega) (by omega) with e | ⟨j, hj, hb, hc⟩
        · left; rw [e]
        · right
          refine ⟨j + 1, by omega, fun i hi => ?_, ?_⟩
          · cases i with
            | zero => simp
            | succ i => have := hb i (by omega); simpa using this
          · simp only [List.getD_cons_succ, ix]
            rw [show m + 1 - 1 = m by omega]
            rcases hc with ⟨c1, c2⟩ | ⟨c1, c2⟩
            · exact .inl ⟨c1, by omega⟩
            · exact .inr ⟨c1, by omega⟩
      · right
        exact ⟨0, by omega, fun i hi => by omega, .inr ⟨by simpa using h, part u v s t (by omega) (by omega) h4 h3 h⟩⟩
theorem ix_inj {y z : List Int} {n k : Nat} (h1 : y.length = n) (h2 : z.length = n) (h3 : ps y = k) (h4 : ps z = k) (h : ix n k y = ix n k z) : y = z := by
  rcases ix_ways y z n k h1 h2 h3 h4 with e | ⟨j, _, _, h' | h'⟩
  · exact e
  · omega
  · omega
theorem ix_order {y z : List Int} {n k : Nat} (h1 : y.length = n) (h2 : z.length = n) (h3 : ps y = k) (h4 : ps z = k) (h : ix n k y < ix n k z) :
    ∃ j, j < n ∧ (∀ i, i < j → y.getD i 0 = z.getD i 0) ∧ plc (y.getD j 0) < plc (z.getD j 0) := by
  rcases ix_ways y z n k h1 h2 h3 h4 with e | ⟨j, hj, hb, h' | h'⟩
  · subst e; omega
  · exact ⟨j, hj, hb, h'.1⟩
  · omega

/-- A vector's beginning t, with the pulses kl and the number il that are left. -/
structure Beg (n k i : Nat) (t : List Int) (kl il : Nat) : Prop where
  len : t.length ≤ n
  pulses : ps t + kl = k
  num : ix n k t + il = i
  room : il < V (n - t.length) kl
theorem Beg.start {n k i : Nat} (h : i < V n k) : Beg n k i [] k i := ⟨by simp, by simp [ps], by simp [ix], by simpa using h⟩
/-- At the integer of place p: those ahead of it are passed. -/
structure At (n k i : Nat) (t : List Int) (kl p ir : Nat) : Prop where
  lt : t.length < n
  pulses : ps t + kl = k
  num : ix n k t + A (n - t.length - 1) kl p + ir = i
  room : ir + A (n - t.length - 1) kl p < V (n - t.length) kl
  top : p ≤ 2 * kl
theorem Beg.at_ {n k i : Nat} {t : List Int} {kl il : Nat} (h : Beg n k i t kl il) (hl : t.length < n) : At n k i t kl 0 il :=
  ⟨hl, h.pulses, by rw [A_zero]; exact h.num, by rw [A_zero]; exact h.room, by omega⟩
theorem At.pass {n k i : Nat} {t : List Int} {kl p ir : Nat} (h : At n k i t kl p ir) (hp : V (n - t.length - 1) (kl - (p + 1) / 2) ≤ ir) : At n k i t kl (p + 1) (ir - V (n - t.length - 1) (kl - (p + 1) / 2)) := by
  have e := A_succ (n - t.length - 1) kl p
  have h1 := h.num
  have h2 := h.room
  have h3 := h.top
  refine ⟨h.lt, h.pulses, by omega, by omega, ?_⟩
  rcases Nat.lt_or_ge p (2 * kl) with h' | h'
  · omega
  · exfalso
    have hp2 : p = 2 * kl := by omega
    have ht := A_top (n - t.length - 1) kl
    rw [show n - t.length - 1 + 1 = n - t.length by have := h.lt; omega] at ht
    rw [hp2] at e h2
    rw [hp2] at hp
    omega
theorem At.take {n k i : Nat} {t : List Int} {kl p ir : Nat} (h : At n k i t kl p ir) (hp : ir < V (n - t.length - 1) (kl - (p + 1) / 2)) : Beg n k i (t ++ [pl p]) (kl - (p + 1) / 2) ir := by
  have h3 := h.top
  have h0 := h.pulses
  refine ⟨by have := h.lt; simp; omega, by rw [ps_append]; simp only [ps, pl_abs]; omega, ?_, by simpa [Nat.sub_sub] using hp⟩
  rw [ix_snoc, plc_pl, show k - ps t = kl by omega]
  exact h.num
theorem Beg.end_ {n k i : Nat} {t : List Int} {kl il : Nat} (h : Beg n k i t kl il) (hl : t.length = n) : t.length = n ∧ ps t = k ∧ ix n k t = i := by
  have hr := h.room
  have h1 := h.pulses
  have h2 := h.num
  rw [hl, Nat.sub_self, V_zero] at hr
  split at hr
  · exact ⟨hl, by omega, by omega⟩
  · omega

/-- A vector that may be: from 1 to 16 places, not more than 12 pulses. -/
def okB (y : List Int) : Bool := decide (1 ≤ y.length ∧ y.length ≤ 16 ∧ ps y ≤ 12)
/-- May there be such vectors? -/
def fairNB (n k : Int) : Bool := decide (1 ≤ n ∧ n ≤ 16 ∧ 0 ≤ k ∧ k ≤ 12)
end Go.Proofs.YtidppkbphkcmeaaGreat
/- Whole arrays by value: a new one, one stored whole, a part of one; and the table of counts as cells. Nothing of the program is imported. -/
namespace Go.Proofs.YtidppkbphkcmeaaGreat
open Go.RowKit
set_option linter.unusedVariables false
set_option linter.unusedSimpArgs false

/-- The table of counts, its first m numbers made; a row of it. -/
def tabL (m : Nat) : List Int := (List.range 221).map fun j => if j < m then (V (j / 13) (j % 13) : Int) else 0
def rowL (n : Nat) : List Int := (List.range 13).map fun k => (V n k : Int)
def cel (l : List Int) : Array Value := (l.map (Value.int .u64)).toArray
def zer : Array Value := cel (tabL 0)
def tabC : Array Value := cel (tabL 221)
def rowC (n : Nat) : Array Value := cel (rowL n)
theorem tabL_len (m : Nat) : (tabL m).length = 221 := by simp [tabL]
theorem rowL_len (n : Nat) : (rowL n).length = 13 := by simp [rowL]
theorem cel_size (l : List Int) : (cel l).size = l.length := by simp [cel]
theorem tabC_size : tabC.size = 221 := by unfold tabC; rw [cel_size, tabL_len]
theorem zer_size : zer.size = 221 := by unfold zer; rw [cel_size, tabL_len]
theorem rowC_size (n : Nat) : (rowC n).size = 13 := by unfold rowC; rw [cel_size, rowL_len]
theorem cel_one (l : List Int) : (cel l).all (·.oneCell') = true := by
  refine Array.all_eq_true_iff_forall_mem.2 fun v hv => ?_
  simp only [cel, List.mem_toArray, List.mem_map] at hv
  obtain ⟨x, _, rfl⟩ := hv
  rfl
theorem tabL_at (m j : Nat) (h : j < m) (hj : j < 221) : (tabL m).getD j 0 = (V (j / 13) (j % 13) : Int) := by simp [tabL, hj, h]
theorem tabL_row (m n k : Nat) (h : 13 * n + k < m) (hn : n < 17) (hk : k < 13) : (tabL m).getD (13 * n + k) 0 = (V n k : Int) := by
  rw [tabL_at m _ h (by omega), show (13 * n + k) / 13 = n by omega, show (13 * n + k) % 13 = k by omega]
theorem rowL_at (n k : Nat) (h : k < 13) : (rowL n).getD k 0 = (V n k : Int) := by simp [rowL, h]
theorem rowC_at (n k : Nat) (h : k < 13) : (rowC n)[k]? = some (.int .u64 (V n k : Nat)) := by
  simp [rowC, cel, rowL, h]
theorem tabL_set (m : Nat) (h : m < 221) : (tabL m).set m (V (m / 13) (m % 13) : Nat) = tabL (m + 1) := by
  refine list_ext_getD (by simp [tabL]) fun j hj => ?_
  have hj : j < 221 := by simpa [tabL] using hj
  rw [List.getD_eq_getElem?_getD, List.getElem?_set]
  by_cases e : m = j
  · subst e
    simp [tabL, h]
  · rw [if_neg e]
    simp only [tabL, List.getElem?_map, List.getElem?_range hj, Option.map_some, Option.getD_some, List.getD_eq_getElem?_getD]
    have : (j < m) ↔ (j < m + 1) := by omega
    simp only [this]
theorem tabL_next (n k : Nat) (hn : n < 17) (hk : k < 13) : (tabL (13 * n + k)).set (13 * n + k) (V n k : Nat) = tabL (13 * n + k + 1) := by
  have := tabL_set (13 * n + k) (by omega)
  rwa [show (13 * n + k) / 13 = n by omega, show (13 * n + k) % 13 = k by omega] at this
theorem tabL_start : (tabL 0).set 0 1 = tabL 13 := by
  refine list_ext_getD (by simp [tabL]) fun j hj => ?_
  have hj : j < 221 := by simpa [tabL] using hj
  rw [List.getD_eq_getElem?_getD, List.getElem?_set]
  by_cases e : j = 0
  · subst e
    simp [tabL, V]
  · rw [if_neg (Ne.symm e)]
    simp only [tabL, List.getElem?_map, List.getElem?_range hj, Option.map_some, Option.getD_some, List.getD_eq_getElem?_getD]
    rw [if_neg (by omega)]
    by_cases h13 : j < 13
    · rw [if_pos h13, show j / 13 = 0 by omega, V_zero, if_neg (by omega)]; rfl
    · rw [if_neg h13]
theorem tab_range {w : World} {g m n : Nat} {t : TypeId} (h : w.heap[g]? = some (.cells (cel (tabL m)) t (0, 0))) (hm : 13 * (n + 1) ≤ m) (hn : n < 17) : w.rangeAt g (13 * n) ((rowL n).map (Value.int .u64)) := by
  intro j v hv
  have hj : j < 13 := by
    have := (List.getElem?_eq_some_iff.1 hv).1
    simpa [rowL] using this
  have e1 := (cell_of_row h (13 * n + j) (by rw [tabL_len]; omega)).1
  rw [e1, tabL_row m n j (by omega) hn hj, ← hv]
  simp [rowL, hj]
theorem tab_part (n : Nat) (hn : n < 17) : tabC.extract (n * 13) (n * 13 + 13) = rowC n := by
  apply Array.ext_getElem?
  intro j
  by_cases hj : j < 13
  · rw [rowC_at n j hj, Array.getElem?_extract]
    have h1 : n * 13 + j < 221 := by omega
    rw [if_pos (by rw [tabC_size]; omega)]
    have := tabL_row 221 n j (by omega) hn hj
    rw [Nat.mul_comm n 13]
    simp only [tabC, cel, List.getElem?_toArray, List.getElem?_map]
    rw [List.getD_eq_getElem?_getD] at this
    rw [List.getElem?_eq_getElem (by rw [tabL_len]; omega)] at this ⊢
    simp only [Option.getD_some] at this
    simp only [Option.map_some, this]
  · rw [Array.getElem?_eq_none (by rw [Array.size_extract, tabC_size]; omega), Array.getElem?_eq_none (by rw [rowC_size]; omega)]
end Go.Proofs.YtidppkbphkcmeaaGreat
/- Contracts of the small functions: the next integer, sizes, which numbers are fair. -/
namespace Go.Proofs.YtidppkbphkcmeaaGreat
open Go.RowKit
set_option linter.unusedVariables false
set_option linter.unusedSimpArgs false

theorem next_any (p : Nat) (w : World) (hp : p ≤ 100) : Calls Tryz.prog 87 #[.int .i64 (pl p)] w fun e w' => e = .returned (.int .i64 (pl (p + 1))) ∧ w' = w := by
  have hb := pl_small p 50 (by omega)
  by_cases h : 0 < pl p
  · rw [← pl_pos p h]
    generalize pl p = x at *
    go_enter Tryz.func87, Tryz.ntmps87
    go_wp2
    go_ret
    exact ⟨rfl, rfl⟩
  · rw [← pl_neg p h]
    generalize pl p = x at *
    go_enter Tryz.func87, Tryz.ntmps87
    go_wp2
    go_ret
    exact ⟨rfl, rfl⟩
theorem size_any (v : Int) (w : World) (h1 : -1000 ≤ v) (h2 : v ≤ 1000) : Calls Tryz.prog 88 #[.int .i64 v] w fun e w' => e = .returned (.int .i64 (v.natAbs : Nat)) ∧ w' = w := by
  by_cases h : v < 0
  · rw [show ((v.natAbs : Nat) : Int) = -v by omega]
    go_enter Tryz.func88, Tryz.ntmps88
    go_wp2
    go_ret
    exact ⟨rfl, rfl⟩
  · rw [show ((v.natAbs : Nat) : Int) = v by omega]
    go_enter Tryz.func88, Tryz.ntmps88
    go_wp2
    go_ret
    exact ⟨rfl, rfl⟩
/-- The document's size: 13, if there are more pulses than may be. -/
def rsz (v : Int) : Nat := if v.natAbs ≤ 12 then v.natAbs else 13
theorem rsz_ok (v : Int) (h : v.natAbs ≤ 12) : rsz v = v.natAbs := if_pos h
theorem rsz_le (v : Int) : rsz v ≤ 13 := by unfold rsz; split <;> omega
set_option maxRecDepth 10000 in
set_option maxHeartbeats 400000 in
theorem rsize_any (v : Int) (w : World) (h1 : -9223372036854775808 ≤ v) (h2 : v ≤ 9223372036854775807) : Calls Tryz.prog 61 #[.int .i64 v] w fun e w' => e = .returned (.int .i64 (rsz v : Nat)) ∧ w' = w := by
  go_enter Tryz.func61, Tryz.ntmps61
  go_wp2
  go_loop [3] (fun i => ∃ k : Nat, k ≤ 13 ∧ k ≤ v.natAbs ∧ i = .int .i64 k) (fun i => 13 - (intOf i).toNat)
  case atStart => exact ⟨0, by omega, by omega, rfl⟩
  case round =>
    obtain ⟨k, hk, hkv, rfl⟩ := hrel
    by_cases h13 : k ≤ 12
    · by_cases he : v.natAbs = k
      · have HR : Hid ((rsz v : Int) = k) := by unfold Hid rsz; rw [if_pos (by omega)]; omega
        by_cases hk0 : v = (k : Int)
        · have hd : ((v : Int) == (k : Int)) = true := by simp; omega
          clear hk0 he hkv
          go_wp2
          go_ret
          exact ⟨ret_int HR.out.symm, rfl⟩
        · have hc : ((v : Int) == -(k : Int)) = true := by simp; omega
          have hd : ((v : Int) == (k : Int)) = false := by simp; omega
          clear hk0 he hkv
          go_wp2
          go_ret
          exact ⟨ret_int HR.out.symm, rfl⟩
      · have hc : ((v : Int) == -(k : Int)) = false := by simp; omega
        have hd : ((v : Int) == (k : Int)) = false := by simp; omega
        go_wp2
        exact ⟨⟨k + 1, by omega, by omega, by go_num⟩, by simp [intOf]; omega⟩
    · have HR : Hid ((rsz v : Int) = 13) := by unfold Hid rsz; rw [if_neg (by omega)]; rfl
      go_wp2
      go_ret
      exact ⟨ret_int HR.out.symm, rfl⟩
end Go.Proofs.YtidppkbphkcmeaaGreat
/- Contracts of the table of all counts, and of Count. -/
namespace Go.Proofs.YtidppkbphkcmeaaGreat
open Go.RowKit
set_option linter.unusedVariables false
set_option linter.unusedSimpArgs false

theorem info_counts : (Tryz.prog.info? 137).map (fun i => (i.zero, i.size)) = some (some (.agg zer), 221) := by kernel_rfl
theorem size_counts : (Tryz.prog.info? 137).map (·.size) = some 221 := by kernel_rfl
theorem size_row : (Tryz.prog.info? 135).map (·.size) = some 13 := by kernel_rfl
theorem size_u64 : (Tryz.prog.info? 49).map (·.size) = some 1 := by kernel_rfl

set_option maxRecDepth 10000 in
set_option maxHeartbeats 2000000 in
theorem all_any (w : World) : Calls Tryz.prog 86 #[] w fun e w' => e = .returned (.agg tabC) ∧ Below w.heap.size w w' := by
  go_enter Tryz.func86, Tryz.ntmps86
  go_wp2_with (first | (refine wpList_alloc_zero rfl 137 rfl (some 0) rfl (.agg zer) 221 info_counts ?_; intro w1 h1 b1 s1) | (refine wpList_alloc_zero rfl 137 rfl (some 1) rfl (.agg zer) 221 info_counts ?_; intro w2 h2 b2 s2; rw [s1] at h2 ⊢; have c0 := (cell_of_row h2 0 (by simp [tabL])).1; have f0 := (cell_of_row h2 0 (by simp [tabL])).2; have B2 : Below w.heap.size w w2 := bthen b1 b2 b1.size; have H0 : Hid (w2.heap[w.heap.size]? = some (.cells zer 137 (0, 0))) := (b2.block _ (by omega)).trans h1; have H1 : Hid (w2.heap[w.heap.size + 1]? = some (.cells zer 137 (0, 0))) := h2; clear h1 h2 b1 b2 s1 s2))
  go_loopw [8] (fun i wr => ∃ n : Nat, n ≤ 16 ∧ i = .int .i64 n ∧ Hid (wr.heap[w.heap.size + 1]? = some (.cells (cel (tabL (13 * (n + 1)))) 137 (0, 0))) ∧ Hid (wr.heap[w.heap.size]? = some (.cells zer 137 (0, 0))) ∧ Below w.heap.size w wr) (fun i _ => 16 - (intOf i).toNat)
  case atStart =>
    refine ⟨0, by omega, rfl, ?_, (heap_setCell_other _ _ _ _ (by show w.heap.size ≠ w.heap.size + 1; omega)).trans H0.out, B2.setCell (p := ⟨w.heap.size + 1, 0, none⟩) (by show w.heap.size ≤ w.heap.size + 1; omega) _⟩
    have := row_set (cur := tabL 0) H1.out 0 1
    rw [tabL_start] at this
    exact this
  case round =>
    obtain ⟨n, hn, rfl, HT, HZ, hB⟩ := hrel
    clear H0 H1 c0 f0 B2
    by_cases h16 : n < 16
    · have hrange := tab_range (n := n) HT.out (by omega) (by omega)
      have hrange2 : wr.rangeAt (w.heap.size + 1) (n * 13) ((rowL n).map (Value.int .u64)) := by rw [Nat.mul_comm]; exact hrange
      go_wp2_with (refine wpList_load_part rfl 135 (.tmp 12) rfl (w.heap.size + 1) _ rfl ((rowL n).map (Value.int .u64)) (rowC n) rfl 13 49 hrange2 Tryz.underlying135 (by rw [size_row]; simp [rowL]) ?_)
      obtain ⟨W1, rfl⟩ : ∃ x, x = wr := ⟨wr, rfl⟩
      go_loopw [3, 14] (fun f i wr => ∃ k : Nat, k ≤ 13 ∧ i = .int .i64 k ∧ f = .int .u64 (S (V n) k : Nat) ∧ Hid (wr.heap[w.heap.size + 1]? = some (.cells (cel (tabL (13 * (n + 1) + k))) 137 (0, 0))) ∧ Hid (wr.heap[w.heap.size]? = some (.cells zer 137 (0, 0))) ∧ Below w.heap.size w wr) (fun _ i _ => 13 - (intOf i).toNat)
      case atStart => exact ⟨0, by omega, rfl, rfl, HT, HZ, hB⟩
      case round =>
        obtain ⟨k, hk, rfl, rfl, HT2, HZ2, hB2⟩ := hrel
        clear HT HZ hB hrange hrange2
        by_cases h13 : k < 13
        · obtain ⟨c1, c2⟩ := cell_of_row HT2.out (13 * (n + 1) + k) (by rw [tabL_len]; omega)
          have R1 : Hid _ := row_set HT2.out (13 * (n + 1) + k) (V (n + 1) k : Nat)
          rw [tabL_next (n + 1) k (by omega) h13] at R1
          have R2 : Hid (S (V n) (k + 1) = S (V n) k + V n k) := rfl
          have R3 : Hid (V (n + 1) k = V n k + 2 * S (V n) k) := V_succ n k
          have hx := rowC_at n k h13
          have b1 := V_small n k (by omega) (by omega)
          have b2 := S_small n k (by omega) (by omega)
          rw [show 13 * (n + 1) + k = (n + 1) * 13 + k by omega] at c1 c2
          generalize (tabL ((n + 1) * 13 + k)).getD ((n + 1) * 13 + k) 0 = z at c1
          generalize V n k = X at *
          generalize S (V n) k = F at *
          obtain ⟨x, hx1⟩ : ∃ x : Int, (X : Int) = x := ⟨_, rfl⟩
          obtain ⟨f, hf1⟩ : ∃ f : Int, (F : Int) = f := ⟨_, rfl⟩
          rw [hx1] at hx
          rw [hf1]
          have d1 : 0 ≤ x := by omega
          have d2 : x ≤ 104485552128 := by omega
          have d3 : 0 ≤ f := by omega
          have d4 : f ≤ 1358312177664 := by omega
          have HX : Hid _ := hx1
          have HF : Hid _ := hf1
          clear hx1 hf1 b1 b2
          go_wp2_with (refine wpList_index_one rfl 135 (.tmp 13) (.tmp 14) rfl 13 49 .u64 (rowC n) .i64 k (.int .u64 x) rfl rfl (by omega) (by omega) Tryz.underlying135 Tryz.underlying49 size_u64 hx ?_)
          refine ⟨⟨k + 1, by omega, by go_num, ?_, ?_, (heap_setCell_other _ _ _ _ (by show w.heap.size ≠ w.heap.size + 1; omega)).trans HZ2.out, hB2.setCell (p := ⟨w.heap.size + 1, (n + 1) * 13 + k, none⟩) (by show w.heap.size ≤ w.heap.size + 1; omega) _⟩, by simp [intOf]; omega⟩
          · rw [R2.out, ← HX.out, ← HF.out]; simp
          · have := R1.out
            rw [R3.out, show 13 * (n + 1) + k = (n + 1) * 13 + k by omega] at this
            rw [← HX.out, ← HF.out, show ((X : Int) + 2 * (F : Int)) = ((X + 2 * F : Nat) : Int) by omega, show 13 * (n + 1) + (k + 1) = (n + 1) * 13 + k + 1 by omega]
            exact this
        · have hk13 : k = 13 := by omega
          subst hk13
          clear h13
          go_wp2
          exact ⟨⟨n + 1, by omega, by go_num, HT2, HZ2, hB2⟩, by simp [intOf]; omega⟩
    · have hn16 : n = 16 := by omega
      subst hn16
      clear h16
      go_wp2_with (first | (refine wpList_load_row rfl 137 (.tmp 1) rfl (w.heap.size + 1) rfl 137 tabC (0, 0) _ HT.out Tryz.underlying137 rfl (by rw [size_counts, tabC_size]) ?_) | (refine wpList_store_whole rfl 137 (.tmp 0) (.tmp 32) rfl w.heap.size w.heap.size tabC rfl rfl 137 zer HZ.out (by rw [size_counts, tabC_size]) (by rw [zer_size, tabC_size]) (cel_one _) (Nat.le_refl _) ?_; intro w3 h3 b3 s3 o3))
      exact bodyPost_ret (v := .agg tabC) (results_cell_row (fn := Tryz.f86) (p := 0) rfl _ _ w.heap.size 137 tabC (0, 0) _ rfl h3 Tryz.underlying137 rfl (by rw [size_counts, tabC_size])) rfl ⟨rfl, hB.trans b3⟩

set_option maxRecDepth 10000 in
set_option maxHeartbeats 400000 in
theorem count_any (n k : Nat) (w : World) (h1 : 1 ≤ n) (h2 : n ≤ 16) (h3 : k ≤ 12) : Calls Tryz.prog 56 #[.int .i64 n, .int .i64 k] w fun e w' => e = .returned (.tuple #[.int .u64 (V n k : Nat), .int .i64 0]) ∧ Below w.heap.size w w' := by
  have hp := tab_part n (by omega)
  have hx := rowC_at n k (by omega)
  generalize V n k = X at *
  go_enter Tryz.func56, Tryz.ntmps56
  go_wp2_with (first | (go_at_call 86; refine (all_any _).mono ?_; rintro e w1 ⟨rfl, hb1⟩) | (refine wpList_index_part rfl 137 (.tmp 20) (.tmp 21) rfl 17 13 135 49 13 tabC (rowC n) .i64 n rfl rfl (by omega) (by omega) Tryz.underlying137 Tryz.underlying135 size_row hp ?_) | (refine wpList_index_one rfl 135 (.tmp 22) (.tmp 23) rfl 13 49 .u64 (rowC n) .i64 k (.int .u64 X) rfl rfl (by omega) (by omega) Tryz.underlying135 Tryz.underlying49 size_u64 hx ?_))
  go_ret2
  exact ⟨rfl, hb1⟩
theorem count_no (n k : Int) (w : World) (h : fairNB n k = false) : Calls Tryz.prog 56 #[.int .i64 n, .int .i64 k] w fun e w' => e = .returned (.tuple #[.int .u64 0, .int .i64 1]) ∧ w' = w := by
  have h' : ¬ (1 ≤ n ∧ n ≤ 16 ∧ 0 ≤ k ∧ k ≤ 12) := of_decide_eq_false h
  clear h
  by_cases h1 : 1 ≤ n
  · by_cases h2 : n ≤ 16
    · by_cases h3 : 0 ≤ k
      · have h4 : 12 < k := by omega
        clear h'
        go_enter Tryz.func56, Tryz.ntmps56
        go_wp2_with fail
        go_ret2; exact ⟨rfl, rfl⟩
      · clear h'
        go_enter Tryz.func56, Tryz.ntmps56
        go_wp2_with fail
        go_ret2; exact ⟨rfl, rfl⟩
    · clear h'
      go_enter Tryz.func56, Tryz.ntmps56
      go_wp2_with fail
      go_ret2; exact ⟨rfl, rfl⟩
  · clear h'
    go_enter Tryz.func56, Tryz.ntmps56
    go_wp2_with fail
    go_ret2; exact ⟨rfl, rfl⟩
end Go.Proofs.YtidppkbphkcmeaaGreat
/- Contracts of the document's row of counts, and of its count. -/
namespace Go.Proofs.YtidppkbphkcmeaaGreat
open Go.RowKit
set_option linter.unusedVariables false
set_option linter.unusedSimpArgs false

theorem info_u64 : (Tryz.prog.info? 49).map (fun i => (i.zero, i.size, i.bytes)) = some (some (.int .u64 0), 1, 8) := by kernel_rfl
theorem info_int_c : (Tryz.prog.info? 3).map (fun i => (i.zero, i.size, i.bytes)) = some (some (.int .i64 0), 1, 8) := by kernel_rfl

/-- The first k counts of n places. -/
def rowP (n k : Nat) : List Int := (List.range k).map fun j => (V n j : Int)
theorem rowP_len (n k : Nat) : (rowP n k).length = k := by simp [rowP]
theorem rowP_succ (n k : Nat) : rowP n (k + 1) = rowP n k ++ [(V n k : Int)] := by simp [rowP, List.range_succ]
theorem rowP_at (n k j : Nat) (h : j < k) : (rowP n k).getD j 0 = (V n j : Int) := by simp [rowP, h]

theorem own13 {w : World} {base n : Nat} {v : Value} {e : TypeId} (h : w.ownsRow base e 1 v 13 ((rowP n 13).map (Value.int .u64))) : ∃ b cap, v = .slice (some ⟨b, 0, none⟩) 13 cap ∧ base ≤ b ∧ b < w.heap.size ∧ ∀ k, k < 13 → w.cell? ⟨b, k, none⟩ = some (.int .u64 (V n k : Nat)) := by
  obtain ⟨a, cap, hv, hr⟩ := RwF.of_owns h
  rw [rowP_len] at hv hr
  obtain ⟨b, off, rfl, hb, hlt, hc⟩ := hr.resolve_left (by intro h0; have := rowP_len n 13; rw [h0] at this; simp at this)
  obtain ⟨_, h2⟩ := h
  rcases h2 with ⟨h2, _⟩ | ⟨g, cap', cur, h2, _⟩
  · rw [hv] at h2; cases h2
  · rw [hv] at h2
    simp only [Value.slice.injEq, Option.some.injEq, Addr.mk.injEq] at h2
    obtain ⟨⟨rfl, rfl, _⟩, _, rfl⟩ := h2
    refine ⟨b, cap, hv, hb, hlt, fun k hk => ?_⟩
    have := hc k hk
    rw [Nat.zero_add, rowP_at n 13 k hk] at this
    exact this

set_option maxRecDepth 10000 in
set_option maxHeartbeats 4000000 in
theorem row_any (n : Nat) (w : World) (hn : n ≤ 16) : Calls Tryz.prog 65 #[.int .i64 n] w fun e w' => ∃ b cap, e = .returned (.slice (some ⟨b, 0, none⟩) 13 cap) ∧ w.heap.size ≤ b ∧ b < w'.heap.size ∧ (∀ k, k < 13 → w'.cell? ⟨b, k, none⟩ = some (.int .u64 (V n k : Nat))) ∧ Below w.heap.size w w' := by
  obtain ⟨i0, hi, hz0, hz1, hz2⟩ := info_parts info_u64
  go_enter Tryz.func65, Tryz.ntmps65
  go_wp2
  go_loopw [3, 4] (fun r i wr => ∃ k : Nat, k ≤ 13 ∧ i = .int .i64 k ∧ wr.ownsRow w.heap.size 49 1 r k ((rowP 0 k).map (Value.int .u64)) ∧ Below w.heap.size w wr) (fun _ i _ => 13 - (intOf i).toNat)
  case atStart => exact ⟨0, by omega, rfl, World.ownsRow_nil _ _ _ _, Below.refl _ _⟩
  case round =>
    obtain ⟨k, hk, rfl, hown, hbr⟩ := hrel
    by_cases h13 : k ≤ 12
    · have HS : Hid ((rowP 0 (k + 1)).map (Value.int .u64) = (rowP 0 k).map (Value.int .u64) ++ [.int .u64 (V 0 k : Nat)]) := by unfold Hid; rw [rowP_succ]; simp
      have hsz := hbr.size
      by_cases h0 : k = 0
      · subst h0
        go_wp2_with (at_builtin; refine wpList_append_own _ rfl _ _ 112 rfl w.heap.size 49 i0 (.int .u64 0) 1 8 Tryz.underlying112 hi hz0 hz1 hz2 rfl (by decide) _ _ _ rfl (hown.alloc _) ⟨wr.heap.size, 0, none⟩ 1 1 [.int .u64 1] rfl rfl (cell_one_at rfl _ _) (one_cell _ _) ?c3 ?c4 ?c5 ?_)
        case c3 => unfold maxLen; omega
        case c4 => omega
        case c5 => simp; omega
        intro v' w2 hown' hgrow _
        have hb2 := bgrow hbr hown (Nat.le_refl _) hgrow
        go_wp2
        exact ⟨⟨1, by omega, by go_num, by have e := HS.out; rw [e]; exact hown', hb2⟩, by simp [intOf]⟩
      · have h0' : ((k : Int) == 0) = false := by simp; omega
        have HV : Hid (V 0 k = 0) := by unfold Hid; rw [V_zero, if_neg h0]
        go_wp2_with (at_builtin; refine wpList_append_own _ rfl _ _ 112 rfl w.heap.size 49 i0 (.int .u64 0) 1 8 Tryz.underlying112 hi hz0 hz1 hz2 rfl (by decide) _ _ _ rfl (hown.alloc _) ⟨wr.heap.size, 0, none⟩ 1 1 [.int .u64 0] rfl rfl (cell_one_at rfl _ _) (one_cell _ _) ?c3 ?c4 ?c5 ?_)
        case c3 => unfold maxLen; omega
        case c4 => omega
        case c5 => simp; omega
        intro v' w2 hown' hgrow _
        have hb2 := bgrow hbr hown (Nat.le_refl _) hgrow
        go_wp2
        exact ⟨⟨k + 1, by omega, by go_num, by have e := HS.out; rw [HV.out] at e; rw [e]; exact hown', hb2⟩, by simp [intOf]; omega⟩
    · have hk13 : k = 13 := by omega
      rw [hk13] at hown
      clear hk13
      obtain ⟨W0, rfl⟩ : ∃ x, x = wr := ⟨wr, rfl⟩
      go_wp2
      go_loopw [3, 5] (fun r i wr => ∃ m : Nat, m ≤ n ∧ i = .int .i64 m ∧ wr.ownsRow w.heap.size 49 1 r 13 ((rowP m 13).map (Value.int .u64)) ∧ Below w.heap.size w wr) (fun _ i _ => n - (intOf i).toNat)
      case atStart => exact ⟨0, by omega, rfl, hown, hbr⟩
      case round =>
        clear hown hbr
        obtain ⟨m, hm, rfl, hown, hbr⟩ := hrel
        obtain ⟨b, cap, rfl, hb1, hb2, hcells⟩ := own13 hown
        by_cases hlt : m < n
        · clear hown
          go_wp2
          obtain ⟨W1, rfl⟩ : ∃ x, x = wr := ⟨wr, rfl⟩
          go_loopw [6, 7] (fun r i wr => ∃ k : Nat, k ≤ 13 ∧ i = .int .i64 k ∧ wr.ownsRow W1.heap.size 49 1 r k ((rowP (m + 1) k).map (Value.int .u64)) ∧ Below W1.heap.size W1 wr) (fun _ i _ => 13 - (intOf i).toNat)
          case atStart => exact ⟨0, by omega, rfl, World.ownsRow_nil _ _ _ _, Below.refl _ _⟩
          case round =>
            obtain ⟨k, hk, rfl, hown2, hbr2⟩ := hrel
            by_cases h13 : k ≤ 12
            · have HC : Hid (∀ j, j < 13 → wr.cell? ⟨b, j, none⟩ = some (.int .u64 (V m j : Nat))) := fun j hj => (hbr2.cell (p := ⟨b, j, none⟩) hb2).trans (hcells j hj)
              have g := HC.out k (by omega)
              have HS : Hid ((rowP (m + 1) (k + 1)).map (Value.int .u64) = (rowP (m + 1) k).map (Value.int .u64) ++ [.int .u64 (V (m + 1) k : Nat)]) := by unfold Hid; rw [rowP_succ]; simp
              have HE : Hid (V m k + 2 * S (V m) (k - 0) = V (m + 1) k) := rfl
              have HB : Hid (V (m + 1) k ≤ 104485552128) := V_small (m + 1) k (by omega) (by omega)
              have hsz := hbr2.size
              generalize V m k = X at *
              go_wp2
              go_loop [8, 9] (fun v i => ∃ q Y : Nat, q ≤ k ∧ i = .int .i64 ((q : Int) + 1) ∧ v = .int .u64 Y ∧ Hid (Y + 2 * S (V m) (k - q) = V (m + 1) k)) (fun _ i => k + 1 - (intOf i).toNat)
              case atStart => exact ⟨0, X, by omega, by go_num, rfl, HE⟩
              case round =>
                obtain ⟨q, Y, hq, rfl, rfl, HY⟩ := hrel
                clear g HE
                by_cases hqk : q < k
                · have HN : Hid ((Y + 2 * V m (k - (q + 1))) + 2 * S (V m) (k - (q + 1)) = V (m + 1) k) := by
                    unfold Hid
                    have e := HY.out
                    rw [show k - q = (k - (q + 1)) + 1 by omega] at e
                    simp only [S] at e
                    omega
                  have g := HC.out (k - (q + 1)) (by omega)
                  have hbY : Y + 2 * V m (k - (q + 1)) ≤ 104485552128 := by have := HN.out; have := HB.out; omega
                  generalize V m (k - (q + 1)) = Z at *
                  have eo : ((k : Int) - ((q : Int) + 1)).toNat = k - (q + 1) := by omega
                  have i1 : (0 : Int) ≤ (k : Int) - ((q : Int) + 1) := by omega
                  have i2 : (k : Int) - ((q : Int) + 1) < 13 := by omega
                  clear HY HC
                  go_wp2
                  exact ⟨⟨q + 1, Y + 2 * Z, by omega, by go_num, by go_num, HN⟩, by simp [intOf]; omega⟩
                · have hqe : q = k := by omega
                  subst hqe
                  have HY2 : Hid (V (m + 1) q = Y) := by
                    unfold Hid
                    have e := HY.out
                    rw [Nat.sub_self] at e
                    simp only [S] at e
                    omega
                  clear hqk HY HC hcells
                  go_wp2_with (at_builtin; refine wpList_append_own _ rfl _ _ 112 rfl W1.heap.size 49 i0 (.int .u64 0) 1 8 Tryz.underlying112 hi hz0 hz1 hz2 rfl (by decide) _ _ _ rfl (hown2.alloc _) ⟨wr.heap.size, 0, none⟩ 1 1 [.int .u64 Y] rfl rfl (cell_one_at rfl _ _) (one_cell _ _) ?c3 ?c4 ?c5 ?_)
                  case c3 => unfold maxLen; omega
                  case c4 => omega
                  case c5 => first | (simp; omega) | omega
                  intro v' w2 hown' hgrow _
                  have hb3 := bgrow hbr2 hown2 (Nat.le_refl _) hgrow
                  go_wp2
                  go_roundw
                  case rel => exact ⟨q + 1, by omega, by go_num, by have e := HS.out; rw [HY2.out] at e; rw [e]; exact hown', hb3⟩
                  case measure => simp [intOf]; omega
            · have hk13 : k = 13 := by omega
              rw [hk13] at hown2
              clear hk13 hcells
              go_wp2
              exact ⟨⟨m + 1, by omega, by go_num, owns_base hown2 hbr.size, bthen hbr hbr2 hbr.size⟩, by simp [intOf]; omega⟩
        · have hme : m = n := by omega
          subst hme
          clear hlt hown
          have HC : Hid (∀ j, j < 13 → wr.cell? ⟨b, j, none⟩ = some (.int .u64 (V m j : Nat))) := hcells
          clear hcells
          go_wp2
          go_ret
          exact ⟨b, cap, rfl, hb1, hb2, HC.out, hbr⟩

set_option maxRecDepth 10000 in
set_option maxHeartbeats 400000 in
theorem rcount_any (n k : Nat) (w : World) (h2 : n ≤ 16) (h3 : k ≤ 12) : Calls Tryz.prog 36 #[.int .i64 n, .int .i64 k] w fun e w' => e = .returned (.int .u64 (V n k : Nat)) ∧ Below w.heap.size w w' := by
  have i1 : (k : Int) < 13 := by omega
  go_enter Tryz.func36, Tryz.ntmps36
  go_wp2_with (go_at_call 65; refine (row_any n _ h2).mono ?_; rintro e w1 ⟨b, cap, rfl, _, _, hc, hb1⟩; have g := hc k (by omega); clear hc)
  go_ret
  exact ⟨rfl, hb1⟩
end Go.Proofs.YtidppkbphkcmeaaGreat
/- Contracts of the logarithms and of the costs, by the program and by the document. -/
namespace Go.Proofs.YtidppkbphkcmeaaGreat
open Go.RowKit
set_option linter.unusedVariables false
set_option linter.unusedSimpArgs false

/-- The table's number at a place is how many bits the place has. -/
theorem len8_tab_at (y : Int) (h0 : 0 ≤ y) (h1 : y < 256) (h : y.toNat < Lib.len8tab.size) : ((Lib.len8tab[y.toNat]'h).toNat : Int) = Lib.bitLen y.toNat := by
  have e := Lib.len8_of y h0 (by omega)
  unfold Lib.len8 at e
  rw [getElem?_pos Lib.len8tab y.toNat h] at e
  exact e

theorem fin_core (B : Nat → Nat) (x y s : Nat) (h8 : B y ≤ 8) (hs : s ≤ 56) (sh : B x = s + B y) : wrap64 ((s : Int) + wrap64 (B y : Int)) = (B x : Int) := by
  unfold wrap64; omega
theorem fin_core0 (B : Nat → Nat) (x : Nat) (h8 : B x ≤ 8) : wrap64 (wrap64 (B x : Int)) = (B x : Int) := by
  unfold wrap64; omega
theorem len_fin (x : Int) (s : Nat) (y : Int) (P : Nat) (hP : P = 2 ^ s) (h1 : x.toNat < 2 ^ 64) (hy0 : 0 ≤ y) (hy : y < 256) (hs : s ≤ 56) (e : y.toNat = x.toNat / P) (hz : P ≤ x.toNat) (h : y.toNat < Lib.len8tab.size) :
    wrap64 ((s : Int) + wrap64 ((Lib.len8tab[y.toNat]'h).toNat : Int)) = Lib.bitLen x.toNat :=
  (congrArg (fun z => wrap64 ((s : Int) + wrap64 z)) (len8_tab_at y hy0 hy h)).trans
    (fin_core Lib.bitLen x.toNat y.toNat s (Lib.bitLen_le8' y hy0 (by omega)) hs (by subst hP; rw [e]; exact Lib.bitLen_shift s x.toNat hz h1))
theorem len_fin0 (x : Int) (hy0 : 0 ≤ x) (hy : x < 256) (h : x.toNat < Lib.len8tab.size) :
    wrap64 (wrap64 ((Lib.len8tab[x.toNat]'h).toNat : Int)) = Lib.bitLen x.toNat :=
  (congrArg (fun z => wrap64 (wrap64 z)) (len8_tab_at x hy0 hy h)).trans (fin_core0 Lib.bitLen x.toNat (Lib.bitLen_le8' x hy0 (by omega)))

set_option maxRecDepth 10000 in
set_option maxHeartbeats 4000000 in
set_option maxRecDepth 100000 in
theorem len_any (x : Int) (h0 : 0 ≤ x) (h1 : x ≤ 18446744073709551615) (w : World) : Calls Tryz.prog 121 #[.int .u64 x] w fun e w' => e = .returned (.int .i64 (Lib.bitLen x.toNat)) ∧ w' = w := by
  have hsz : (Lib.len8tab.size : Int) = 256 := by rw [Lib.len8tab_size]; rfl
  go_enter Tryz.func121, Tryz.ntmps121
  go_wp2
  all_goals (go_ret; refine ⟨ret_int ?_, rfl⟩)
  · exact len_fin x 56 _ 72057594037927936 (by decide) (by omega) (by omega) (by omega) (by omega) (by omega) (by omega) _
  · exact len_fin x 48 _ 281474976710656 (by decide) (by omega) (by omega) (by omega) (by omega) (by omega) (by omega) _
  · exact len_fin x 40 _ 1099511627776 (by decide) (by omega) (by omega) (by omega) (by omega) (by omega) (by omega) _
  · exact len_fin x 32 _ 4294967296 (by decide) (by omega) (by omega) (by omega) (by omega) (by omega) (by omega) _
  · exact len_fin x 24 _ 16777216 (by decide) (by omega) (by omega) (by omega) (by omega) (by omega) (by omega) _
  · exact len_fin x 16 _ 65536 (by decide) (by omega) (by omega) (by omega) (by omega) (by omega) (by omega) _
  · exact len_fin x 8 _ 256 (by decide) (by omega) (by omega) (by omega) (by omega) (by omega) (by omega) _
  · exact len_fin0 x (by omega) (by omega) _

/-- B counts a number's bits. -/
structure Counts (B : Nat → Nat) : Prop where
  zero : B 0 = 0
  half : ∀ x : Nat, x ≠ 0 → x < 2 ^ 64 → B x = 1 + B (x / 2)
  le : ∀ x : Nat, x < 2 ^ 64 → B x ≤ 64
  three : B 3 = 2
  shift : ∀ x : Nat, 65536 ≤ x → x < 2 ^ 64 → B x = 16 + B (x / 65536)

theorem logR_of {B : Nat → Nat} (H : Counts B) (k : Nat) : ∀ (x : Nat) (w : World), x ≤ k → x < 2 ^ 64 → Calls Tryz.prog 120 #[.int .u64 x] w fun e w' => e = .returned (.int .i64 ((B x : Int) - 1)) ∧ w' = w := by
  induction k with
  | zero =>
    intro x w hk _
    have : x = 0 := by omega
    subst this
    rw [H.zero]
    go_enter Tryz.func120, Tryz.ntmps120
    go_wp2_with fail
    go_ret
    exact ⟨rfl, rfl⟩
  | succ k ih =>
    intro x w hk hx
    by_cases h0 : x = 0
    · subst h0
      rw [H.zero]
      go_enter Tryz.func120, Tryz.ntmps120
      go_wp2_with fail
      go_ret
      exact ⟨rfl, rfl⟩
    · have hb : Hid _ := H.half x h0 hx
      have hl := H.le (x / 2) (by omega)
      have hc := fun w => ih (x / 2) w (by omega) (by omega)
      have e2 : ((x / 2 : Nat) : Int) = (x : Int) / 2 := by omega
      rw [e2] at hc
      generalize B (x / 2) = l at *
      clear e2 ih
      go_enter Tryz.func120, Tryz.ntmps120
      go_wp2_with (go_at_call 120; refine (hc _).mono ?_; rintro e w' ⟨rfl, rfl⟩)
      go_ret
      exact ⟨ret_int (by rw [hb.out]; omega), rfl⟩


theorem bits_counts : Counts Lib.bitLen := ⟨by decide, fun x h0 h => Lib.bitLen_half x h0 h, fun x h => Lib.bitLen_le x 64 (by omega) h, by decide, fun x h0 h => Lib.bitLen_shift 16 x h0 h⟩

set_option maxRecDepth 10000 in
set_option maxHeartbeats 400000 in
theorem cost_of {B : Nat → Nat} (H : Counts B) (hc : ∀ (x : Nat) (w : World), x < 2 ^ 64 → Calls Tryz.prog 121 #[.int .u64 x] w fun e w' => e = .returned (.int .i64 (B x)) ∧ w' = w) (n k : Nat) (w : World) (h1 : 1 ≤ n) (h2 : n ≤ 16) (h3 : k ≤ 12) :
    Calls Tryz.prog 118 #[.int .i64 n, .int .i64 k] w fun e w' => e = .returned (.tuple #[.int .i64 (B (V n k - 1)), .int .i64 0]) ∧ Below w.heap.size w w' := by
  have hb := V_small n k h2 (by omega)
  have hp := V_pos n k h1
  have hl := H.le (V n k - 1) (by omega)
  have hcc := fun w => hc (V n k - 1) w (by omega)
  have hcnt := fun w => count_any n k w h1 h2 h3
  rw [show ((V n k - 1 : Nat) : Int) = (V n k : Int) - 1 by omega] at hcc
  generalize B (V n k - 1) = l at *
  generalize V n k = X at *
  clear hc H
  go_enter Tryz.func118, Tryz.ntmps118
  go_wp2_with (first | (go_at_call 56; refine (hcnt _).mono ?_; rintro e w1 ⟨rfl, hb1⟩) | (go_at_call 121; refine (hcc _).mono ?_; rintro e w2 ⟨rfl, rfl⟩))
  go_ret2
  exact ⟨rfl, hb1⟩
theorem cost_no (n k : Int) (w : World) (h : fairNB n k = false) : Calls Tryz.prog 118 #[.int .i64 n, .int .i64 k] w fun e w' => e = .returned (.tuple #[.int .i64 0, .int .i64 1]) ∧ w' = w := by
  go_enter Tryz.func118, Tryz.ntmps118
  go_wp2_with (go_at_call 56; refine (count_no n k _ h).mono ?_; rintro e w1 ⟨rfl, rfl⟩)
  go_ret2
  exact ⟨rfl, rfl⟩
set_option maxRecDepth 10000 in
set_option maxHeartbeats 400000 in
theorem rcost_of {B : Nat → Nat} (H : Counts B) (n k : Nat) (w : World) (h1 : 1 ≤ n) (h2 : n ≤ 16) (h3 : k ≤ 12) :
    Calls Tryz.prog 117 #[.int .i64 n, .int .i64 k] w fun e w' => e = .returned (.int .i64 (B (V n k - 1))) ∧ Below w.heap.size w w' := by
  have hb := V_small n k h2 (by omega)
  have hp := V_pos n k h1
  have hcnt := fun w => rcount_any n k w h2 h3
  by_cases hlt : V n k - 1 < 65536
  · have hl := H.le (V n k - 1) (by omega)
    have hcc := fun w => logR_of H (V n k - 1) (V n k - 1) w (Nat.le_refl _) (by omega)
    rw [show ((V n k - 1 : Nat) : Int) = (V n k : Int) - 1 by omega] at hcc
    generalize B (V n k - 1) = l at *
    generalize V n k = X at *
    have i1 : (X : Int) - 1 < 65536 := by omega
    clear H hlt
    go_enter Tryz.func117, Tryz.ntmps117
    go_wp2_with (first | (go_at_call 36; refine (hcnt _).mono ?_; rintro e w1 ⟨rfl, hb1⟩) | (go_at_call 120; refine (hcc _).mono ?_; rintro e w2 ⟨rfl, rfl⟩))
    go_ret
    exact ⟨ret_int (by omega), hb1⟩
  · have hs := H.shift (V n k - 1) (by omega) (by omega)
    have hl := H.le ((V n k - 1) / 65536) (by omega)
    have hcc := fun w => logR_of H ((V n k - 1) / 65536) ((V n k - 1) / 65536) w (Nat.le_refl _) (by omega)
    rw [show (((V n k - 1) / 65536 : Nat) : Int) = ((V n k : Int) - 1) / 65536 by omega] at hcc
    rw [hs]
    generalize B ((V n k - 1) / 65536) = l at *
    clear hs
    generalize V n k = X at *
    have i1 : ¬ ((X : Int) - 1 < 65536) := by omega
    clear H hlt
    go_enter Tryz.func117, Tryz.ntmps117
    go_wp2_with (first | (go_at_call 36; refine (hcnt _).mono ?_; rintro e w1 ⟨rfl, hb1⟩) | (go_at_call 120; refine (hcc _).mono ?_; rintro e w2 ⟨rfl, rfl⟩))
    go_ret
    exact ⟨ret_int (by omega), hb1⟩
/-- Both costs are how many bits the greatest number has. -/
theorem costs : ∃ B : Nat → Nat, B 3 = 2 ∧ (∀ x : Nat, x < 2 ^ 64 → B x ≤ 64) ∧
    (∀ (n k : Nat) (w : World), 1 ≤ n → n ≤ 16 → k ≤ 12 → Calls Tryz.prog 118 #[.int .i64 n, .int .i64 k] w fun e w' => e = .returned (.tuple #[.int .i64 (B (V n k - 1)), .int .i64 0]) ∧ Below w.heap.size w w') ∧
    (∀ (n k : Nat) (w : World), 1 ≤ n → n ≤ 16 → k ≤ 12 → Calls Tryz.prog 117 #[.int .i64 n, .int .i64 k] w fun e w' => e = .returned (.int .i64 (B (V n k - 1))) ∧ Below w.heap.size w w') :=
  ⟨Lib.bitLen, bits_counts.three, bits_counts.le, fun n k w h1 h2 h3 => cost_of bits_counts (fun x w h => len_any (x : Int) (by omega) (by omega) w) n k w h1 h2 h3, fun n k w h1 h2 h3 => rcost_of bits_counts n k w h1 h2 h3⟩
end Go.Proofs.YtidppkbphkcmeaaGreat
/- Contracts of the pulses of a vector, by the program and by the document; Index by the program. -/
namespace Go.Proofs.YtidppkbphkcmeaaGreat
open Go.RowKit
set_option linter.unusedVariables false
set_option linter.unusedSimpArgs false

theorem okB_false_at {y : List Int} {j : Nat} (hj : j < y.length) (h : 12 < (y.getD j 0).natAbs) : okB y = false := by
  unfold okB
  rw [decide_eq_false_iff_not]
  have := ps_at y j hj
  omega
theorem okB_len {y : List Int} (h1 : 1 ≤ y.length) (h2 : y.length ≤ 16) : okB y = decide ((ps y : Int) ≤ 12) := by
  unfold okB
  rw [Bool.eq_iff_iff, decide_eq_true_eq, decide_eq_true_eq]
  omega
theorem okB_parts {y : List Int} (h : okB y = true) : 1 ≤ y.length ∧ y.length ≤ 16 ∧ ps y ≤ 12 := of_decide_eq_true h
theorem ret_pair {a b : Int} {c d : Bool} (h : a = b) (h' : c = d) : Ending.returned (.tuple #[.int .i64 a, .bool c]) = .returned (.tuple #[.int .i64 b, .bool d]) := by rw [h, h']
/-- What pulses tells. -/
def PsPost (y : List Int) (e : Ending) : Prop := ∃ s : Int, e = .returned (.tuple #[.int .i64 s, .bool (okB y)]) ∧ (okB y = true → s = (ps y : Int))

set_option maxRecDepth 10000 in
set_option maxHeartbeats 1000000 in
theorem pulses_any (v : Value) (y : List Int) (w : World) (hv : Rw .i64 w v y) (hf : Fits y) : Calls Tryz.prog 85 #[v] w fun e w' => PsPost y e ∧ w' = w := by
  obtain ⟨a, cap, rfl, ha⟩ := hv
  by_cases h1 : y.length < 1
  · have HO : Hid (okB y = false) := by unfold Hid okB; rw [decide_eq_false_iff_not]; omega
    go_enter Tryz.func85, Tryz.ntmps85
    go_wp2
    go_ret2
    exact ⟨⟨0, ret_pair rfl HO.out.symm, fun h => by rw [HO.out] at h; cases h⟩, rfl⟩
  by_cases h2 : 16 < y.length
  · have HO : Hid (okB y = false) := by unfold Hid okB; rw [decide_eq_false_iff_not]; omega
    have i1 : (16 : Int) < (y.length : Int) := by omega
    go_enter Tryz.func85, Tryz.ntmps85
    go_wp2
    go_ret2
    exact ⟨⟨0, ret_pair rfl HO.out.symm, fun h => by rw [HO.out] at h; cases h⟩, rfl⟩
  have i1 : (y.length : Int) ≤ 16 := by omega
  obtain ⟨b, off, rfl, hlt, hc⟩ := ha.resolve_left (by intro h; subst h; simp at h1)
  clear ha
  have HC : Hid (∀ i, i < y.length → w.cell? ⟨b, off + i, none⟩ = some (.int .i64 (y.getD i 0))) := hc
  clear hc
  go_enter Tryz.func85, Tryz.ntmps85
  go_wp2
  go_loop [4, 17] (fun s i => ∃ j : Nat, j ≤ y.length ∧ i = .int .i64 j ∧ s = .int .i64 (ps (y.take j) : Nat) ∧ ps (y.take j) ≤ 12 * j) (fun _ i => y.length - (intOf i).toNat)
  case atStart => exact ⟨0, by omega, rfl, rfl, by simp [ps]⟩
  case round =>
    obtain ⟨j, hj, rfl, rfl, hps⟩ := hrel
    by_cases hl : j < y.length
    · have g := HC.out j hl
      have hx := hf j
      have HN : Hid _ := ps_next y j hl
      by_cases hx12 : (y.getD j 0).natAbs ≤ 12
      · generalize y.getD j 0 = x at *
        have hx1 : -12 ≤ x := by omega
        have hx2 : x ≤ 12 := by omega
        have hsz := fun w => size_any x w (by omega) (by omega)
        have HA : Hid (x.natAbs ≤ 12) := hx12
        obtain ⟨z, hz⟩ : ∃ z : Nat, x.natAbs = z := ⟨_, rfl⟩
        rw [hz] at hsz HN HA
        have hz12 := HA.out
        clear hx12 hz
        generalize ps (y.take j) = s at *
        go_wp2_with (go_at_call 88; refine (hsz _).mono ?_; rintro e w' ⟨rfl, rfl⟩)
        exact ⟨⟨j + 1, by omega, by go_num, by rw [HN.out]; go_num, by rw [HN.out]; omega⟩, by simp [intOf]; omega⟩
      · have HO : Hid (okB y = false) := okB_false_at hl (by omega)
        generalize y.getD j 0 = x at *
        clear HN
        by_cases hneg : x < -12
        · clear hx12
          go_wp2_with fail
          go_ret2
          exact ⟨⟨0, ret_pair rfl HO.out.symm, fun h => by rw [HO.out] at h; cases h⟩, rfl⟩
        · have hpos : 12 < x := by omega
          clear hx12
          go_wp2_with fail
          go_ret2
          exact ⟨⟨0, ret_pair rfl HO.out.symm, fun h => by rw [HO.out] at h; cases h⟩, rfl⟩
    · have hje : j = y.length := by omega
      have HO : Hid (okB y = decide ((ps (y.take j) : Int) ≤ 12)) := by
        unfold Hid
        rw [hje, List.take_length, okB_len (by omega) (by omega)]
      have HP : Hid (ps y = ps (y.take j)) := by unfold Hid; rw [hje, List.take_length]
      generalize ps (y.take j) = s at *
      clear hje
      by_cases h12 : (s : Int) ≤ 12
      · go_wp2_with fail
        go_ret2
        exact ⟨⟨s, ret_pair rfl (by rw [HO.out]; simpa using h12), fun _ => by rw [HP.out]⟩, rfl⟩
      · go_wp2_with fail
        go_ret2
        exact ⟨⟨s, ret_pair rfl (by rw [HO.out]; simpa using h12), fun _ => by rw [HP.out]⟩, rfl⟩
end Go.Proofs.YtidppkbphkcmeaaGreat
/- Contracts of the document's Pulses, and of Index by the program. -/
namespace Go.Proofs.YtidppkbphkcmeaaGreat
open Go.RowKit
set_option linter.unusedVariables false
set_option linter.unusedSimpArgs false

/-- The document's pulses: more than there may be are too many. -/
def rps : List Int → Nat
  | [] => 0
  | v :: t => rsz v + rps t
theorem rps_append (a b : List Int) : rps (a ++ b) = rps a + rps b := by
  induction a with
  | nil => simp [rps]
  | cons v t ih => simp only [List.cons_append, rps, ih]; omega
theorem rps_next (y : List Int) (j : Nat) (h : j < y.length) : rps (y.take (j + 1)) = rps (y.take j) + rsz (y.getD j 0) := by
  rw [take_next y j h, rps_append]; simp [rps]
theorem rps_ok (y : List Int) (h : ps y ≤ 12) : rps y = ps y := by
  induction y with
  | nil => rfl
  | cons v t ih =>
    simp only [ps] at h
    simp only [rps, ps]
    rw [ih (by omega), rsz_ok v (by omega)]
theorem rps_no (y : List Int) (h : 12 < ps y) : 12 < rps y := by
  induction y with
  | nil => simp [ps] at h
  | cons v t ih =>
    simp only [ps] at h
    simp only [rps]
    by_cases hv : v.natAbs ≤ 12
    · rw [rsz_ok v hv]
      by_cases ht : ps t ≤ 12
      · rw [rps_ok t ht]; omega
      · have := ih (by omega); omega
    · have : rsz v = 13 := by unfold rsz; rw [if_neg hv]
      omega

set_option maxRecDepth 10000 in
set_option maxHeartbeats 1000000 in
theorem rpulses_any (v : Value) (y : List Int) (w : World) (hv : Rw .i64 w v y) (hf : Fits y) (hl : y.length ≤ 100) : Calls Tryz.prog 28 #[v] w fun e w' => e = .returned (.int .i64 (rps y : Nat)) ∧ w' = w := by
  obtain ⟨a, cap, rfl, ha⟩ := hv
  have i1 : (y.length : Int) ≤ 100 := by omega
  go_enter Tryz.func28, Tryz.ntmps28
  go_wp2
  go_loop [3, 4] (fun s i => ∃ j : Nat, j ≤ y.length ∧ i = .int .i64 j ∧ s = .int .i64 (rps (y.take j) : Nat) ∧ rps (y.take j) ≤ 13 * j) (fun _ i => y.length - (intOf i).toNat)
  case atStart => exact ⟨0, by omega, rfl, rfl, by simp [rps]⟩
  case round =>
    obtain ⟨j, hj, rfl, rfl, hps⟩ := hrel
    by_cases hlt : j < y.length
    · obtain ⟨b, off, rfl, hbl, hc⟩ := ha.resolve_left (by intro h; subst h; simp at hlt)
      have g := hc j hlt
      clear hc ha
      have hx := hf j
      have HN : Hid _ := rps_next y j hlt
      have hsz := fun w => rsize_any (y.getD j 0) w hx.1 hx.2
      have h13 := rsz_le (y.getD j 0)
      generalize y.getD j 0 = x at *
      generalize rsz x = z at *
      generalize rps (y.take j) = s at *
      go_wp2_with (go_at_call 61; refine (hsz _).mono ?_; rintro e w' ⟨rfl, rfl⟩)
      exact ⟨⟨j + 1, by omega, by go_num, by rw [HN.out]; go_num, by rw [HN.out]; omega⟩, by simp [intOf]; omega⟩
    · have hje : j = y.length := by omega
      have HP : Hid (rps y = rps (y.take j)) := by unfold Hid; rw [hje, List.take_length]
      generalize rps (y.take j) = s at *
      clear hje ha
      go_wp2
      go_ret
      exact ⟨ret_int (by rw [HP.out]), rfl⟩

def zer13 : Array Value := cel (List.replicate 13 0)
theorem info_row : (Tryz.prog.info? 135).map (fun i => (i.zero, i.size)) = some (some (.agg zer13), 13) := by kernel_rfl
theorem zer13_size : zer13.size = 13 := by unfold zer13; rw [cel_size]; simp
theorem row_cells {w : World} {g m : Nat} {t : TypeId} (h : w.heap[g]? = some (.cells (rowC m) t (0, 0))) : g < w.heap.size ∧ ∀ k, k < 13 → w.cell? ⟨g, k, none⟩ = some (.int .u64 (V m k : Nat)) := by
  refine ⟨block_in h, fun k hk => ?_⟩
  rw [Go.cell_of_row w g k (rowC m) t (0, 0) h]
  exact rowC_at m k hk

/-- What a round of the number's loop wants. -/
theorem idx_round (y : List Int) (j : Nat) (hj : j < y.length) (hK : ps y ≤ 12) (hn : y.length ≤ 16) :
    ∃ m kl I : Nat, y.length - j - 1 = m ∧ ps y - ps (y.take j) = kl ∧ ix y.length (ps y) (y.take j) = I ∧ m ≤ 15 ∧ kl ≤ 12 ∧ (y.getD j 0).natAbs ≤ kl ∧
      (∀ p, p ≤ plc (y.getD j 0) → I + A m kl p ≤ 104485552128) ∧ ix y.length (ps y) (y.take (j + 1)) = I + A m kl (plc (y.getD j 0)) ∧ ps y - ps (y.take (j + 1)) = kl - (y.getD j 0).natAbs := by
  have h1 := ps_at y j hj
  have h2 := ix_next y y.length (ps y) j hj
  have h3 := ps_next y j hj
  have h4 := ix_le (y.take (j + 1)) y.length (ps y) (by rw [List.length_take]; omega) (ps_take y _)
  have h5 := V_small y.length (ps y) hn (by omega)
  refine ⟨_, _, _, rfl, rfl, rfl, by omega, by omega, by omega, fun p hp => ?_, h2, by omega⟩
  have := A_mono (y.length - j - 1) (ps y - ps (y.take j)) hp
  omega
theorem pass_half (p : Nat) (x : Int) (kl : Nat) (h : p < plc x) (hx : x.natAbs ≤ kl) : (p + 1) / 2 ≤ kl := by
  have := plc_le x
  omega

theorem index_no (v : Value) (y : List Int) (w : World) (hv : Rw .i64 w v y) (hf : Fits y) (h : okB y = false) : Calls Tryz.prog 55 #[v] w fun e w' => e = .returned (.tuple #[.int .u64 0, .int .i64 1]) ∧ w' = w := by
  go_enter Tryz.func55, Tryz.ntmps55
  go_wp2_with (go_at_call 85; refine (pulses_any _ y _ hv hf).mono ?_; rintro e w1 ⟨⟨s, rfl, _⟩, rfl⟩; rw [h])
  go_ret2
  exact ⟨rfl, rfl⟩

set_option maxRecDepth 10000 in
set_option maxHeartbeats 4000000 in
theorem index_ok (v : Value) (y : List Int) (w : World) (hv : Rw .i64 w v y) (hf : Fits y) (h : okB y = true) : Calls Tryz.prog 55 #[v] w fun e w' => e = .returned (.tuple #[.int .u64 (ix y.length (ps y) y : Nat), .int .i64 0]) ∧ Below w.heap.size w w' := by
  obtain ⟨h1, h2, h3⟩ := okB_parts h
  have hv0 := hv
  obtain ⟨a, cap, rfl, ha⟩ := hv
  obtain ⟨b, off, rfl, hlt, hc⟩ := ha.resolve_left (by intro h; subst h; simp at h1)
  clear ha
  have HC : Hid (∀ i, i < y.length → w.cell? ⟨b, off + i, none⟩ = some (.int .i64 (y.getD i 0))) := hc
  clear hc
  have i1 : (y.length : Int) ≤ 16 := by omega
  go_enter Tryz.func55, Tryz.ntmps55
  go_wp2_with (first | (go_at_call 85; refine (pulses_any _ y _ hv0 hf).mono ?_; rintro e w1 ⟨⟨s, rfl, hs⟩, rfl⟩; have := hs h; subst this; rw [h]; clear hs) | (go_at_call 86; refine (all_any _).mono ?_; rintro e w2 ⟨rfl, hb2⟩) | (refine wpList_alloc_zero rfl 137 rfl (some 6) rfl (.agg zer) 221 info_counts ?_; intro w3 h3' b3 s3) | (refine wpList_store_whole rfl 137 (.tmp 6) (.tmp 19) rfl w2.heap.size w2.heap.size tabC rfl rfl 137 zer h3' (by rw [size_counts, tabC_size]) (by rw [zer_size, tabC_size]) (cel_one _) (Nat.le_refl _) ?_; intro w4 h4 b4 s4 o4; have hbw := bthen' hb2 ((Below.trans b3 b4)); have HT4 : Hid (w4.heap[w2.heap.size]? = some (.cells tabC 137 (0, 0))) := h4; have hsz4 : w2.heap.size < w4.heap.size := block_in h4; clear h4 b4 s4 o4 h3' b3 s3))
  go_loopw [4, 7, 22] (fun l i c wr => ∃ j : Nat, j ≤ y.length ∧ c = .int .i64 j ∧ l = .int .i64 (ps y - ps (y.take j) : Nat) ∧ i = .int .u64 (ix y.length (ps y) (y.take j) : Nat) ∧ Hid (wr.heap[w2.heap.size]? = some (.cells tabC 137 (0, 0))) ∧ Below w1.heap.size w1 wr ∧ w2.heap.size < wr.heap.size) (fun _ _ c _ => y.length - (intOf c).toNat)
  case atStart => exact ⟨0, by omega, rfl, by simp [ps], by simp [ix], HT4, hbw, hsz4⟩
  case round =>
    clear HT4 hbw hsz4
    obtain ⟨j, hj, rfl, rfl, rfl, HT, hbr, hsz⟩ := hrel
    by_cases hl : j < y.length
    · have g := (hbr.cell (p := ⟨b, off + j, none⟩) hlt).trans (HC.out j hl)
      obtain ⟨m, kl, I, hm, hkl, hI, hm15, hk12, hxk, hroom, hnext, hleft⟩ := idx_round y j hl h3 h2
      have hrange := tab_range (n := m) HT.out (by omega) (by omega)
      rw [Nat.mul_comm] at hrange
      have HNx : Hid _ := hnext
      have HLf : Hid _ := hleft
      clear hnext hleft
      rw [hkl, hI]
      generalize y.getD j 0 = x at *
      have em : ((y.length : Int) - (j : Int) - 1) = (m : Int) := by omega
      have hx1 : -12 ≤ x := by omega
      have hx2 : x ≤ 12 := by omega
      have HR : Hid _ := hroom
      have HM : Hid _ := hm
      have HKL : Hid _ := hkl
      have HI : Hid _ := hI
      clear hroom hm hkl hI
      go_wp2_with (first | (refine wpList_load_part rfl 135 (.tmp 32) rfl w2.heap.size _ rfl ((rowL m).map (Value.int .u64)) (rowC m) rfl 13 49 hrange Tryz.underlying135 (by rw [size_row]; simp [rowL]) ?_) | (refine wpList_alloc_zero rfl 135 rfl (some 10) rfl (.agg zer13) 13 info_row ?_; intro w5 h5 b5 s5) | (refine wpList_store_whole rfl 135 (.tmp 10) (.tmp 33) rfl wr.heap.size wr.heap.size (rowC m) rfl rfl 135 zer13 h5 (by rw [size_row, rowC_size]) (by rw [zer13_size, rowC_size]) (cel_one _) (Nat.le_refl _) ?_; intro w6 h6 b6 s6 o6; have hb6 := Below.trans b5 b6; obtain ⟨hg6, hcells⟩ := row_cells h6; have HC6 : Hid (∀ k, k < 13 → w6.cell? ⟨wr.heap.size, k, none⟩ = some (.int .u64 (V m k : Nat))) := hcells; clear h6 b6 s6 o6 b5 h5 s5 hcells))
      go_loop [7, 11] (fun i v => ∃ p : Nat, p ≤ plc x ∧ v = .int .i64 (pl p) ∧ i = .int .u64 (I + A m kl p : Nat)) (fun _ v => plc x - plc (intOf v))
      case atStart => exact ⟨0, by omega, rfl, rfl⟩
      case round =>
        obtain ⟨p, hp, rfl, rfl⟩ := hrel
        by_cases hpx : p < plc x
        · have hhalf := pass_half p x kl hpx hxk
          have hle := plc_le x
          have hp24 : p ≤ 24 := by omega
          have gk := HC6.out (kl - (p + 1) / 2) (by omega)
          have HA : Hid _ := A_succ m kl p
          have hr := HR.out (p + 1) hpx
          rw [HA.out] at hr
          have hnx := fun w => next_any p w (by omega)
          have hsz2 := fun w => size_any (pl p) w (by have := pl_small p 12 hp24; omega) (by have := pl_small p 12 hp24; omega)
          rw [pl_abs] at hsz2
          have hne : (pl p != x) = true := by
            simp only [bne_iff_ne, ne_eq]
            intro e
            rw [← e, plc_pl] at hpx
            omega
          have HPl : Hid (plc (pl p) = p ∧ plc (pl (p + 1)) = p + 1) := ⟨plc_pl _, plc_pl _⟩
          generalize pl p = P at *
          generalize pl (p + 1) = P2 at *
          generalize A m kl p = a0 at *
          generalize V m (kl - (p + 1) / 2) = X at *
          have ez : ((kl : Int) - (((p + 1) / 2 : Nat) : Int)).toNat = kl - (p + 1) / 2 := by omega
          have e0 : (0 : Int) ≤ (kl : Int) - (((p + 1) / 2 : Nat) : Int) := by omega
          have e1 : (kl : Int) - (((p + 1) / 2 : Nat) : Int) < 13 := by omega
          generalize (p + 1) / 2 = q at *
          clear HC6 HR
          go_wp2_with (first | (go_at_call 88; refine (hsz2 _).mono ?_; rintro e w' ⟨rfl, rfl⟩) | (go_at_call 87; refine (hnx _).mono ?_; rintro e w' ⟨rfl, rfl⟩))
          refine ⟨⟨p + 1, hpx, by rw [← HPl.out.2, pl_plc], by rw [HA.out]; go_num⟩, ?_⟩
          show plc x - plc P2 < plc x - plc P
          rw [HPl.out.1, HPl.out.2]
          omega
        · have hpe : p = plc x := by omega
          subst hpe
          rw [pl_plc] at *
          have hsz2 := fun w => size_any x w (by omega) (by omega)
          have HI2 : Hid (ix y.length (ps y) (y.take (j + 1)) = I + A m kl (plc x)) := HNx
          have HL2 : Hid (ps y - ps (y.take (j + 1)) = kl - x.natAbs) := HLf
          have HT2 : Hid (w6.heap[w2.heap.size]? = some (.cells tabC 137 (0, 0))) := (hb6.block _ hsz).trans HT.out
          have hb7 := bthen hbr hb6 hbr.size
          have hz7 : w2.heap.size < w6.heap.size := Nat.lt_of_lt_of_le hsz hb6.size
          generalize A m kl (plc x) = a0 at *
          obtain ⟨z, hz⟩ : ∃ z : Nat, x.natAbs = z := ⟨_, rfl⟩
          rw [hz] at hsz2 hxk HL2
          clear HR HC6 hz hpx hp HLf HNx
          go_wp2_with (go_at_call 88; refine (hsz2 _).mono ?_; rintro e w' ⟨rfl, rfl⟩)
          exact ⟨⟨j + 1, by omega, by go_num, by rw [HL2.out]; go_num, by rw [HI2.out]; go_num, HT2, hb7, hz7⟩, by simp [intOf]; omega⟩
    · have hje : j = y.length := by omega
      have HI : Hid (ix y.length (ps y) y = ix y.length (ps y) (y.take j)) := by unfold Hid; rw [hje, List.take_length]
      generalize ix y.length (ps y) (y.take j) = I at *
      generalize ps y - ps (y.take j) = kl at *
      clear hje HT
      go_wp2
      go_ret2
      exact ⟨by rw [HI.out]; rfl, hbr⟩
end Go.Proofs.YtidppkbphkcmeaaGreat
/- Contracts of Vector, by the program. -/
namespace Go.Proofs.YtidppkbphkcmeaaGreat
open Go.RowKit
set_option linter.unusedVariables false
set_option linter.unusedSimpArgs false

theorem vector_no (n k : Int) (i : Int) (w : World) (h : fairNB n k = false) : Calls Tryz.prog 106 #[.int .i64 n, .int .i64 k, .int .u64 i] w fun e w' => e = .returned (.tuple #[.slice none 0 0, .int .i64 1]) ∧ w' = w := by
  go_enter Tryz.func106, Tryz.ntmps106
  go_wp2_with (go_at_call 56; refine (count_no n k _ h).mono ?_; rintro e w1 ⟨rfl, rfl⟩)
  go_ret2
  exact ⟨rfl, rfl⟩
theorem vector_none (n k i : Nat) (w : World) (h1 : 1 ≤ n) (h2 : n ≤ 16) (h3 : k ≤ 12) (h : V n k ≤ i) : Calls Tryz.prog 106 #[.int .i64 n, .int .i64 k, .int .u64 i] w fun e w' => e = .returned (.tuple #[.slice none 0 0, .int .i64 5]) ∧ Below w.heap.size w w' := by
  have hcnt := fun w => count_any n k w h1 h2 h3
  generalize V n k = X at *
  have i1 : (X : Int) ≤ (i : Int) := by omega
  go_enter Tryz.func106, Tryz.ntmps106
  go_wp2_with (go_at_call 56; refine (hcnt _).mono ?_; rintro e w1 ⟨rfl, hb1⟩)
  go_ret2
  exact ⟨rfl, hb1⟩

/-- The row of a vector whose beginning t is found: noughts behind it. -/
def fil (n : Nat) (t : List Int) : List Int := t ++ List.replicate (n - t.length) 0
theorem fil_len (n : Nat) (t : List Int) (h : t.length ≤ n) : (fil n t).length = n := by unfold fil; simp; omega
theorem fil_nil (n : Nat) : fil n [] = List.replicate n 0 := by simp [fil]
theorem fil_full (n : Nat) (t : List Int) (h : t.length = n) : fil n t = t := by unfold fil; rw [h]; simp
theorem fil_set (n : Nat) (t : List Int) (v : Int) (h : t.length < n) : (fil n t).set t.length v = fil n (t ++ [v]) := by
  unfold fil
  rw [List.set_append, if_neg (by omega), Nat.sub_self, show n - t.length = (n - t.length - 1) + 1 by omega, List.replicate_succ, List.set_cons_zero]
  simp [Nat.sub_sub]

set_option maxRecDepth 10000 in
set_option maxHeartbeats 4000000 in
theorem vector_ok (n k i : Nat) (w : World) (h1 : 1 ≤ n) (h2 : n ≤ 16) (h3 : k ≤ 12) (h : i < V n k) : Calls Tryz.prog 106 #[.int .i64 n, .int .i64 k, .int .u64 i] w fun e w' => ∃ (g : Nat) (ys : List Int), e = .returned (.tuple #[.slice (some ⟨g, 0, none⟩) n n, .int .i64 0]) ∧ RwF w.heap.size .i64 w' (.slice (some ⟨g, 0, none⟩) n n) ys ∧ ys.length = n ∧ ps ys = k ∧ ix n k ys = i ∧ Below w.heap.size w w' := by
  obtain ⟨i0, hi, hz0, hz1, hz2⟩ := info_parts info_int_c
  have hcnt := fun w => count_any n k w h1 h2 h3
  have HV : Hid _ := h
  have hiV : i < V n k := h
  clear h
  obtain ⟨X, hX⟩ : ∃ X, V n k = X := ⟨_, rfl⟩
  rw [hX] at hcnt hiV
  clear hX
  have i1 : (i : Int) < (X : Int) := by omega
  go_enter Tryz.func106, Tryz.ntmps106
  go_wp2_with (first | (go_at_call 56; refine (hcnt _).mono ?_; rintro e w1 ⟨rfl, hb1⟩) | (go_at_call 86; refine (all_any _).mono ?_; rintro e w2 ⟨rfl, hb2⟩) | (refine wpList_alloc_zero rfl 137 rfl (some 10) rfl (.agg zer) 221 info_counts ?_; intro w3 h3' b3 s3) | (refine wpList_store_whole rfl 137 (.tmp 10) (.tmp 27) rfl w2.heap.size w2.heap.size tabC rfl rfl 137 zer h3' (by rw [size_counts, tabC_size]) (by rw [zer_size, tabC_size]) (cel_one _) (Nat.le_refl _) ?_; intro w4 h4 b4 s4 o4; have hbw := bthen' (bthen' hb1 hb2) ((Below.trans b3 b4)); have HT4 : Hid (w4.heap[w2.heap.size]? = some (.cells tabC 137 (0, 0))) := h4; have hsz4 : w2.heap.size < w4.heap.size := block_in h4; clear h4 b4 s4 o4 h3' b3 s3) | (at_make; refine wpList_make_full _ rfl _ _ 45 rfl w4.heap.size 3 i0 (.int .i64 0) 1 Tryz.underlying45 hi hz0 hz1 .i64 .i64 _ _ n rfl rfl (by omega) (by omega) (by rw [hz2]; omega) (by unfold maxLen; omega) (by simp) ?_))
  intro w5 hown5 hgrow5
  have hb5 := grown_of_none hgrow5
  have hfull := owns_full hown5
  rw [made_one] at hfull
  have HT5 : Hid (w5.heap[w2.heap.size]? = some (.cells tabC 137 (0, 0))) := (hb5.block _ hsz4).trans HT4.out
  have HY5 : Hid (w5.heap[w4.heap.size]? = some (.cells ((fil n []).map (Value.int .i64)).toArray 3 (0, 0))) := by
    unfold Hid; rw [fil_nil, List.map_replicate]; exact hfull.1
  have hB5 := bthen' hbw hb5
  have hsz5 : w4.heap.size < w5.heap.size := block_in HY5.out
  have hws := hbw.size
  clear hown5 hgrow5 hfull HT4 hb5
  go_wp2
  have hw2 : w.heap.size ≤ w2.heap.size := (bthen' hb1 hb2).size
  go_loopw [1, 2, 32] (fun kv iv c wr => ∃ (t : List Int) (kl il : Nat), t.length ≤ n ∧ c = .int .i64 t.length ∧ kv = .int .i64 kl ∧ iv = .int .u64 il ∧ Hid (Beg n k i t kl il) ∧ Hid (wr.heap[w2.heap.size]? = some (.cells tabC 137 (0, 0))) ∧ Hid (wr.heap[w4.heap.size]? = some (.cells ((fil n t).map (Value.int .i64)).toArray 3 (0, 0))) ∧ Below w.heap.size w wr ∧ w4.heap.size < wr.heap.size) (fun _ _ c _ => n - (intOf c).toNat)
  case atStart => exact ⟨[], k, i, by simp, rfl, rfl, rfl, Beg.start HV.out, HT5, HY5, hB5, hsz5⟩
  case round =>
    clear HT5 HY5 hB5 hsz5 HV hcnt i1 hiV
    obtain ⟨t, kl, il, htn, rfl, rfl, rfl, HB, HT, HY, hbr, hsz⟩ := hrel
    by_cases hl : t.length < n
    · obtain ⟨m, hm⟩ : ∃ m, n - t.length - 1 = m := ⟨_, rfl⟩
      have hrange := tab_range (n := m) HT.out (by omega) (by omega)
      rw [Nat.mul_comm] at hrange
      have hkl : kl ≤ 12 := by have := HB.out.pulses; omega
      have em : ((n : Int) - (t.length : Int) - 1) = (m : Int) := by omega
      have HM : Hid _ := hm
      have HA0 : Hid _ := HB.out.at_ hl
      clear hm HB
      go_wp2_with (first | (refine wpList_load_part rfl 135 (.tmp 39) rfl w2.heap.size _ rfl ((rowL m).map (Value.int .u64)) (rowC m) rfl 13 49 hrange Tryz.underlying135 (by rw [size_row]; simp [rowL]) ?_) | (refine wpList_alloc_zero rfl 135 rfl (some 13) rfl (.agg zer13) 13 info_row ?_; intro w7 h7 b7 s7) | (refine wpList_store_whole rfl 135 (.tmp 13) (.tmp 40) rfl wr.heap.size wr.heap.size (rowC m) rfl rfl 135 zer13 h7 (by rw [size_row, rowC_size]) (by rw [zer13_size, rowC_size]) (cel_one _) (Nat.le_refl _) ?_; intro w6 h6 b6 s6 o6; have hb6 := Below.trans b7 b6; obtain ⟨hg6, hcells⟩ := row_cells h6; have HC6 : Hid (∀ k, k < 13 → w6.cell? ⟨wr.heap.size, k, none⟩ = some (.int .u64 (V m k : Nat))) := hcells; clear h6 b6 s6 o6 b7 h7 s7 hcells))
      go_loop [2, 14] (fun iv v => ∃ p ir : Nat, p ≤ 2 * kl ∧ v = .int .i64 (pl p) ∧ iv = .int .u64 ir ∧ Hid (At n k i t kl p ir)) (fun _ v => 2 * kl + 1 - plc (intOf v))
      case atStart => exact ⟨0, il, by omega, rfl, rfl, HA0⟩
      case round =>
        clear HA0
        obtain ⟨p, ir, hp, rfl, rfl, HA⟩ := hrel
        have hp24 : p ≤ 24 := by omega
        have gk := HC6.out (kl - (p + 1) / 2) (by omega)
        have hsz2 := fun w => size_any (pl p) w (by have := pl_small p 12 hp24; omega) (by have := pl_small p 12 hp24; omega)
        rw [pl_abs] at hsz2
        have hhalf : (p + 1) / 2 ≤ kl := by omega
        have ez : ((kl : Int) - (((p + 1) / 2 : Nat) : Int)).toNat = kl - (p + 1) / 2 := by omega
        have e0 : (0 : Int) ≤ (kl : Int) - (((p + 1) / 2 : Nat) : Int) := by omega
        have e1 : (kl : Int) - (((p + 1) / 2 : Nat) : Int) < 13 := by omega
        have HPl : Hid (plc (pl p) = p ∧ plc (pl (p + 1)) = p + 1) := ⟨plc_pl _, plc_pl _⟩
        by_cases hpass : V m (kl - (p + 1) / 2) ≤ ir
        · have HA2 : Hid (At n k i t kl (p + 1) (ir - V m (kl - (p + 1) / 2))) := by
            have := HA.out.pass (by rw [HM.out]; exact hpass)
            rw [HM.out] at this
            exact this
          have hp2 : p + 1 ≤ 2 * kl := HA2.out.top
          have hnx := fun w => next_any p w (by omega)
          generalize pl p = P at *
          generalize pl (p + 1) = P2 at *
          generalize V m (kl - (p + 1) / 2) = X2 at *
          generalize (p + 1) / 2 = q at *
          have j1 : (X2 : Int) ≤ (ir : Int) := by omega
          clear HC6 HA
          go_wp2_with (first | (go_at_call 88; refine (hsz2 _).mono ?_; rintro e w' ⟨rfl, rfl⟩) | (go_at_call 87; refine (hnx _).mono ?_; rintro e w' ⟨rfl, rfl⟩))
          have hb64 : ir - X2 < 2 ^ 64 := by
            have h1 := HA2.out.room
            have h2 := V_small (n - t.length) kl (by omega) (by omega)
            omega
          refine ⟨⟨p + 1, ir - X2, hp2, by rw [← HPl.out.2, pl_plc], ?_, HA2⟩, ?_⟩
          · rw [show ((ir : Int) - (X2 : Int)) = ((ir - X2 : Nat) : Int) by omega, nat_u64 _ hb64]
          · show 2 * kl + 1 - plc P2 < 2 * kl + 1 - plc P
            rw [HPl.out.1, HPl.out.2]
            omega
        · have HB2 : Hid (Beg n k i (t ++ [pl p]) (kl - (p + 1) / 2) ir) := HA.out.take (by rw [HM.out]; omega)
          have HY2 : Hid (w6.heap[w4.heap.size]? = some (.cells ((fil n t).map (Value.int .i64)).toArray 3 (0, 0))) := (hb6.block _ hsz).trans HY.out
          have HT2 : Hid (w6.heap[w2.heap.size]? = some (.cells tabC 137 (0, 0))) := (hb6.block _ (by omega)).trans HT.out
          obtain ⟨y1, y2⟩ := cell_of_row HY2.out t.length (by rw [fil_len n t htn]; exact hl)
          have HS : Hid _ := row_set HY2.out t.length (pl p)
          rw [fil_set n t _ hl] at HS
          have hb7 := bthen hbr hb6 hbr.size
          have hz7 : w4.heap.size < w6.heap.size := Nat.lt_of_lt_of_le hsz hb6.size
          generalize (fil n t).getD t.length 0 = z at y1
          generalize pl p = P at *
          generalize V m (kl - (p + 1) / 2) = X2 at *
          generalize (p + 1) / 2 = q at *
          have j1 : ¬ ((X2 : Int) ≤ (ir : Int)) := by omega
          clear HC6 HA HPl
          go_wp2_with (go_at_call 88; refine (hsz2 _).mono ?_; rintro e w' ⟨rfl, rfl⟩)
          refine ⟨⟨t ++ [P], kl - q, ir, by simp; omega, by simp, by go_num, rfl, HB2, (heap_setCell_other _ _ _ _ (by show w2.heap.size ≠ w4.heap.size; omega)).trans HT2.out, HS, hb7.setCell (p := ⟨w4.heap.size, t.length, none⟩) hws _, by simpa [World.setCell] using hz7⟩, by simp [intOf]; omega⟩
    · have hte : t.length = n := by omega
      have HE : Hid _ := HB.out.end_ hte
      have HY2 : Hid (wr.heap[w4.heap.size]? = some (.cells (t.map (Value.int .i64)).toArray 3 (0, 0))) := by
        have := HY.out
        rw [fil_full n t hte] at this
        exact this
      clear HB HT HY hte
      go_wp2
      go_ret2
      exact ⟨w4.heap.size, t, rfl, RwF.of_row HY2.out HE.out.1 hws, HE.out.1, HE.out.2.1, HE.out.2.2, hbr⟩
end Go.Proofs.YtidppkbphkcmeaaGreat
/- Contracts of the document's Same and order. -/
namespace Go.Proofs.YtidppkbphkcmeaaGreat
open Go.RowKit
set_option linter.unusedVariables false
set_option linter.unusedSimpArgs false

set_option maxRecDepth 10000 in
set_option maxHeartbeats 2000000 in
theorem same_yes_c (v1 v2 : Value) (xs : List Int) (w : World) (h1 : Rw .i64 w v1 xs) (h2 : Rw .i64 w v2 xs) (hl : xs.length ≤ 100) : Calls Tryz.prog 49 #[v1, v2] w fun e w' => e = .returned (.bool true) ∧ Below w.heap.size w w' := by
  obtain ⟨a1, c1, rfl, ha1⟩ := h1
  obtain ⟨a2, c2, rfl, ha2⟩ := h2
  obtain ⟨n, hn⟩ : ∃ n, xs.length = n := ⟨_, rfl⟩
  rw [hn] at ha1 ha2 hl ⊢
  have hnil : 0 < n → xs ≠ [] := fun h e => by rw [e] at hn; simp at hn; omega
  clear hn
  go_enter Tryz.func49, Tryz.ntmps49
  go_wp2
  go_loopw [5] (fun i wr => ∃ k : Nat, k ≤ n ∧ i = .int .i64 k ∧ Below w.heap.size w wr) (fun i _ => n - (intOf i).toNat)
  case atStart => exact ⟨0, by omega, rfl, Below.refl _ _⟩
  case round =>
    obtain ⟨k, hk, rfl, hnx⟩ := hrel
    by_cases hlt : k < n
    · obtain ⟨b1, o1, rfl, hb1, hc1⟩ := ha1.resolve_left (hnil (by omega))
      obtain ⟨b2, o2, rfl, hb2, hc2⟩ := ha2.resolve_left (hnil (by omega))
      have g1 := (hnx.cell (p := ⟨b1, o1 + k, none⟩) hb1).trans (hc1 k hlt)
      have g2 := (hnx.cell (p := ⟨b2, o2 + k, none⟩) hb2).trans (hc2 k hlt)
      clear ha1 ha2 hc1 hc2 hnil
      generalize xs.getD k 0 = x at *
      have i1 : (0 : Int) ≤ (k : Int) := by omega
      have i2 : (k : Int) < (n : Int) := by omega
      have i3 : IntKind.i64.wrap (k : Int) = k := wraps_i64 _ (by omega) (by omega)
      go_wp2
      go_quiet (fail)
      go_wp2
      exact ⟨⟨k + 1, by omega, by go_num, drewN_below hnx _⟩, by simp [intOf]; omega⟩
    · clear ha1 ha2 hnil
      go_wp2
      go_ret
      exact ⟨rfl, hnx⟩

/-- The first q integers of the row 0, 1, -1, 2, -2 .. -/
def ordP (q : Nat) : List Int := (List.range q).map pl
theorem ordP_len (q : Nat) : (ordP q).length = q := by simp [ordP]
theorem ordP_at (q p : Nat) (h : p < q) : (ordP q).getD p 0 = pl p := by simp [ordP, h]
theorem pl_up (m : Nat) : pl (2 * m + 1) = (m : Int) + 1 := by unfold pl; split <;> omega
theorem pl_down (m : Nat) : pl (2 * m + 2) = -((m : Int) + 1) := by unfold pl; split <;> omega
theorem ordP_two (m : Nat) : (ordP (2 * (m + 1) + 1)).map (Value.int .i64) = (ordP (2 * m + 1)).map (Value.int .i64) ++ [.int .i64 ((m : Int) + 1), .int .i64 (-((m : Int) + 1))] := by
  have : ordP (2 * (m + 1) + 1) = ordP (2 * m + 1) ++ [pl (2 * m + 1), pl (2 * m + 2)] := by
    show (List.range (2 * m + 1 + 1 + 1)).map pl = _
    rw [List.range_succ, List.range_succ]
    simp [ordP]
  rw [this, pl_up, pl_down]
  simp
set_option maxRecDepth 10000 in
set_option maxHeartbeats 2000000 in
theorem order_any (k : Nat) (w : World) (hk : k ≤ 12) : Calls Tryz.prog 66 #[.int .i64 k] w fun e w' => ∃ b cap, e = .returned (.slice (some ⟨b, 0, none⟩) (2 * k + 1) cap) ∧ w.heap.size ≤ b ∧ b < w'.heap.size ∧ (∀ p, p < 2 * k + 1 → w'.cell? ⟨b, p, none⟩ = some (.int .i64 (pl p))) ∧ Below w.heap.size w w' := by
  obtain ⟨i0, hi, hz0, hz1, hz2⟩ := info_parts info_int_c
  have hown0 : (w.alloc (.cells #[.int .i64 0] 3)).ownsRow w.heap.size 3 1 (.slice (some ⟨w.heap.size, 0, none⟩) 1 1) 1 ((ordP 1).map (Value.int .i64)) :=
    owns_of_full (heap_alloc_last w _) (Nat.le_refl _) rfl (by unfold maxLen; omega)
  go_enter Tryz.func66, Tryz.ntmps66
  go_wp2
  go_loopw [3, 4] (fun r i wr => ∃ m : Nat, m ≤ k ∧ i = .int .i64 ((m : Int) + 1) ∧ wr.ownsRow w.heap.size 3 1 r (2 * m + 1) ((ordP (2 * m + 1)).map (Value.int .i64)) ∧ Below w.heap.size w wr) (fun _ i _ => k + 1 - (intOf i).toNat)
  case atStart => exact ⟨0, by omega, rfl, hown0, below1 _ _⟩
  case round =>
    clear hown0
    obtain ⟨m, hm, rfl, hown, hbr⟩ := hrel
    have hsz := hbr.size
    by_cases hlt : m < k
    · have HS : Hid _ := ordP_two m
      go_wp2_with (at_builtin; refine wpList_append_own _ rfl _ _ 45 rfl w.heap.size 3 i0 (.int .i64 0) 1 8 Tryz.underlying45 hi hz0 hz1 hz2 rfl (by decide) _ _ _ rfl (hown.alloc _) ⟨wr.heap.size, 0, none⟩ 2 2 [.int .i64 ((m : Int) + 1), .int .i64 (-((m : Int) + 1))] rfl rfl (cell_pair_new _ _ _ _) (two_cells _ _ _) ?c3 ?c4 ?c5 ?_)
      case c3 => unfold maxLen; omega
      case c4 => omega
      case c5 => simp; omega
      intro v' w2 hown' hgrow _
      have hb2 := bgrow hbr hown (Nat.le_refl _) hgrow
      go_wp2
      refine ⟨⟨m + 1, by omega, by go_num, ?_, hb2⟩, by simp [intOf]; omega⟩
      rw [HS.out]
      exact hown'
    · have hme : m = k := by omega
      obtain ⟨b, cap, rfl, hb1, hb2, hcells⟩ := own_ints hown (by omega)
      have HC : Hid (∀ p, p < 2 * m + 1 → wr.cell? ⟨b, p, none⟩ = some (.int .i64 (pl p))) := fun p hp => by
        have := hcells p hp
        rw [ordP_at _ p hp] at this
        exact this
      clear hcells hown hlt
      subst hme
      go_wp2
      go_ret
      exact ⟨b, cap, rfl, hb1, hb2, HC.out, hbr⟩
end Go.Proofs.YtidppkbphkcmeaaGreat
/- Contract of the document's Index. -/
namespace Go.Proofs.YtidppkbphkcmeaaGreat
open Go.RowKit
set_option linter.unusedVariables false
set_option linter.unusedSimpArgs false

theorem rsz_pl (p : Nat) (h : p ≤ 24) : rsz (pl p) = (p + 1) / 2 := by
  rw [rsz_ok _ (by rw [pl_abs]; omega), pl_abs]

set_option maxRecDepth 10000 in
set_option maxHeartbeats 4000000 in
theorem rindex_ok (v : Value) (y : List Int) (w : World) (hv : Rw .i64 w v y) (hf : Fits y) (h : okB y = true) : Calls Tryz.prog 35 #[v] w fun e w' => e = .returned (.int .u64 (ix y.length (ps y) y : Nat)) ∧ Below w.heap.size w w' := by
  obtain ⟨h1, h2, h3⟩ := okB_parts h
  have hv0 := hv
  have hpul := fun w hv => rpulses_any v y w hv hf (by omega)
  rw [rps_ok y h3] at hpul
  obtain ⟨a, cap, rfl, ha⟩ := hv
  obtain ⟨b, off, rfl, hlt, hc⟩ := ha.resolve_left (by intro h; subst h; simp at h1)
  clear ha
  have HC : Hid (∀ i, i < y.length → w.cell? ⟨b, off + i, none⟩ = some (.int .i64 (y.getD i 0))) := hc
  clear hc
  have i1 : (y.length : Int) ≤ 16 := by omega
  go_enter Tryz.func35, Tryz.ntmps35
  go_wp2_with (go_at_call 28; refine (hpul _ hv0).mono ?_; rintro e w1 ⟨rfl, rfl⟩)
  go_loopw [3, 4, 5] (fun l i c wr => ∃ j : Nat, j ≤ y.length ∧ c = .int .i64 j ∧ l = .int .i64 (ps y - ps (y.take j) : Nat) ∧ i = .int .u64 (ix y.length (ps y) (y.take j) : Nat) ∧ Below w1.heap.size w1 wr) (fun _ _ c _ => y.length - (intOf c).toNat)
  case atStart => exact ⟨0, by omega, rfl, by simp [ps], by simp [ix], Below.refl _ _⟩
  case round =>
    obtain ⟨j, hj, rfl, rfl, rfl, hbr⟩ := hrel
    by_cases hl : j < y.length
    · have HG : Hid (∀ W, Below w1.heap.size w1 W → W.cell? ⟨b, off + j, none⟩ = some (.int .i64 (y.getD j 0))) := fun W hW => (hW.cell (p := ⟨b, off + j, none⟩) hlt).trans (HC.out j hl)
      obtain ⟨m, kl, I, hm, hkl, hI, hm15, hk12, hxk, hroom, hnext, hleft⟩ := idx_round y j hl h3 h2
      have HNx : Hid _ := hnext
      have HLf : Hid _ := hleft
      clear hnext hleft
      rw [hkl, hI]
      generalize y.getD j 0 = x at *
      have em : ((y.length : Int) - (j : Int) - 1) = (m : Int) := by omega
      have hx1 : -12 ≤ x := by omega
      have hx2 : x ≤ 12 := by omega
      have HR : Hid _ := hroom
      clear hroom hm hkl hI hpul
      have hrow := fun w => row_any m w (by omega)
      have hord := fun w => order_any kl w hk12
      obtain ⟨M, hM⟩ : ∃ M, 2 * kl + 1 = M := ⟨_, rfl⟩
      simp only [hM] at hord
      have HM : Hid (2 * kl + 1 = M) := hM
      have hM25 : M ≤ 25 := by omega
      clear hM
      go_wp2_with (first | (go_at_call 65; refine (hrow _).mono ?_; rintro e wa ⟨rb, rcap, rfl, rb1, rb2, rcells, hba⟩) | (go_at_call 66; refine (hord _).mono ?_; rintro e wb ⟨ob, ocap, rfl, ob1, ob2, ocells, hbb⟩; have HRC : Hid (∀ W, Below wb.heap.size wb W → ∀ k, k < 13 → W.cell? ⟨rb, k, none⟩ = some (.int .u64 (V m k : Nat))) := (fun W hW k hk => ((bthen' hbb hW).cell (p := ⟨rb, k, none⟩) rb2).trans (rcells k hk)); have HOC : Hid (∀ W, Below wb.heap.size wb W → ∀ p, p < M → W.cell? ⟨ob, p, none⟩ = some (.int .i64 (pl p))) := (fun W hW p hp => (hW.cell (p := ⟨ob, p, none⟩) ob2).trans (ocells p hp)); have hwb := bthen hbr (bthen' hba hbb) hbr.size; clear rcells ocells))
      obtain ⟨W1, rfl⟩ : ∃ x, x = wr := ⟨wr, rfl⟩
      go_loopw [4, 8] (fun i c wr => ∃ p : Nat, p ≤ plc x ∧ c = .int .i64 p ∧ i = .int .u64 (I + A m kl p : Nat) ∧ Below wb.heap.size wb wr) (fun _ c _ => plc x - (intOf c).toNat)
      case atStart => exact ⟨0, by omega, rfl, rfl, Below.refl _ _⟩
      case round =>
        obtain ⟨p, hp, rfl, rfl, hbr2⟩ := hrel
        have hle := plc_le x
        have hpM : p < M := by have := HM.out; omega
        have hp24 : p ≤ 24 := by omega
        have hbw2 := bthen hwb hbr2 hwb.size
        have gy := HG.out _ hbw2
        have go := HOC.out _ hbr2 p hpM
        have c1 : (0 : Int) ≤ (p : Int) := by omega
        have c2 : (p : Int) < (M : Int) := by omega
        have c3 : IntKind.i64.wrap (p : Int) = p := wraps_i64 _ (by omega) (by omega)
        have c4 : (0 : Int) ≤ (j : Int) := by omega
        have c5 : (j : Int) < (y.length : Int) := by omega
        have c6 : IntKind.i64.wrap (j : Int) = j := wraps_i64 _ (by omega) (by omega)
        by_cases hpx : p < plc x
        · have hhalf := pass_half p x kl hpx hxk
          have gk := fun n => HRC.out _ (drewN_below hbr2 n) (kl - (p + 1) / 2) (by omega)
          have HA : Hid _ := A_succ m kl p
          have hr := HR.out (p + 1) hpx
          rw [HA.out] at hr
          have hsz2 := fun w => rsize_any (pl p) w (by have := pl_small p 12 hp24; omega) (by have := pl_small p 12 hp24; omega)
          rw [rsz_pl p hp24] at hsz2
          have hne : (pl p != x) = true := by
            simp only [bne_iff_ne, ne_eq]
            intro e
            rw [← e, plc_pl] at hpx
            omega
          generalize pl p = P at *
          generalize A m kl p = a0 at *
          generalize V m (kl - (p + 1) / 2) = X at *
          have ez : ((kl : Int) - (((p + 1) / 2 : Nat) : Int)).toNat = kl - (p + 1) / 2 := by omega
          have e0 : (0 : Int) ≤ (kl : Int) - (((p + 1) / 2 : Nat) : Int) := by omega
          have e1 : (kl : Int) - (((p + 1) / 2 : Nat) : Int) < 13 := by omega
          generalize (p + 1) / 2 = q at *
          clear HR HRC HOC HG HC
          go_wp2
          go_quiet (fail)
          go_wp2_with (go_at_call 61; refine (hsz2 _).mono ?_; rintro e w' ⟨rfl, rfl⟩)
          exact ⟨⟨p + 1, hpx, by go_num, by rw [HA.out]; go_num, drewN_below hbr2 _⟩, by simp [intOf]; omega⟩
        · have hpe : p = plc x := by omega
          rw [hpe, pl_plc] at go
          rw [← hpe] at go
          have hsz2 := fun w => rsize_any x w (by omega) (by omega)
          rw [rsz_ok x (by omega)] at hsz2
          have HI2 : Hid (ix y.length (ps y) (y.take (j + 1)) = I + A m kl p) := by rw [hpe]; exact HNx
          have HL2 : Hid (ps y - ps (y.take (j + 1)) = kl - x.natAbs) := HLf
          generalize A m kl p = a0 at *
          obtain ⟨z, hz⟩ : ∃ z : Nat, x.natAbs = z := ⟨_, rfl⟩
          rw [hz] at hsz2 hxk HL2
          clear HR HRC HOC HG HC hz hpx hp hpe HLf HNx hle
          go_wp2
          go_quiet (fail)
          go_wp2_with (go_at_call 61; refine (hsz2 _).mono ?_; rintro e w' ⟨rfl, rfl⟩)
          exact ⟨⟨j + 1, by omega, by go_num, by rw [HL2.out]; go_num, by rw [HI2.out]; go_num, drewN_below hbw2 _⟩, by simp [intOf]; omega⟩
    · have hje : j = y.length := by omega
      have HI : Hid (ix y.length (ps y) y = ix y.length (ps y) (y.take j)) := by unfold Hid; rw [hje, List.take_length]
      generalize ix y.length (ps y) (y.take j) = I at *
      generalize ps y - ps (y.take j) = kl at *
      clear hje
      go_wp2
      go_ret
      exact ⟨ret_int (by rw [HI.out]), hbr⟩
end Go.Proofs.YtidppkbphkcmeaaGreat
/- Contract of the document's Vector. -/
namespace Go.Proofs.YtidppkbphkcmeaaGreat
open Go.RowKit
set_option linter.unusedVariables false
set_option linter.unusedSimpArgs false

set_option maxRecDepth 10000 in
set_option maxHeartbeats 4000000 in
theorem rvector_ok (n k i : Nat) (w : World) (h2 : n ≤ 16) (h3 : k ≤ 12) (h : i < V n k) : Calls Tryz.prog 48 #[.int .i64 n, .int .i64 k, .int .u64 i] w fun e w' => ∃ (v : Value) (ys : List Int), e = .returned v ∧ RwF w.heap.size .i64 w' v ys ∧ ys.length = n ∧ ps ys = k ∧ ix n k ys = i ∧ Below w.heap.size w w' := by
  obtain ⟨i0, hi, hz0, hz1, hz2⟩ := info_parts info_int_c
  have HV : Hid _ := h
  clear h
  go_enter Tryz.func48, Tryz.ntmps48
  go_wp2
  go_loopw [1, 2, 7, 8] (fun kv iv r c wr => ∃ (t : List Int) (kl il : Nat), t.length ≤ n ∧ c = .int .i64 t.length ∧ kv = .int .i64 kl ∧ iv = .int .u64 il ∧ Hid (Beg n k i t kl il) ∧ wr.ownsRow w.heap.size 3 1 r t.length (t.map (Value.int .i64)) ∧ Below w.heap.size w wr) (fun _ _ _ c _ => n - (intOf c).toNat)
  case atStart => exact ⟨[], k, i, by simp, rfl, rfl, rfl, Beg.start HV.out, World.ownsRow_nil _ _ _ _, Below.refl _ _⟩
  case round =>
    clear HV
    obtain ⟨t, kl, il, htn, rfl, rfl, rfl, HB, hown, hbr⟩ := hrel
    by_cases hl : t.length < n
    · obtain ⟨m, hm⟩ : ∃ m, n - t.length - 1 = m := ⟨_, rfl⟩
      have hkl : kl ≤ 12 := by have := HB.out.pulses; omega
      have em : ((n : Int) - (t.length : Int) - 1) = (m : Int) := by omega
      have HM : Hid _ := hm
      have hm15 : m ≤ 15 := by omega
      have HA0 : Hid _ := HB.out.at_ hl
      have hrow := fun w => row_any m w (by omega)
      have hord := fun w => order_any kl w hkl
      obtain ⟨M, hM⟩ : ∃ M, 2 * kl + 1 = M := ⟨_, rfl⟩
      simp only [hM] at hord
      have HMM : Hid (2 * kl + 1 = M) := hM
      have hM25 : M ≤ 25 := by omega
      clear hm HB hM
      have hlt2 := hown.lt
      go_wp2_with (first | (go_at_call 65; refine (hrow _).mono ?_; rintro e wa ⟨rb, rcap, rfl, rb1, rb2, rcells, hba⟩) | (go_at_call 66; refine (hord _).mono ?_; rintro e wb ⟨ob, ocap, rfl, ob1, ob2, ocells, hbb⟩; have HRC : Hid (∀ k, k < 13 → wb.cell? ⟨rb, k, none⟩ = some (.int .u64 (V m k : Nat))) := (fun k hk => (hbb.cell (p := ⟨rb, k, none⟩) rb2).trans (rcells k hk)); have HOC : Hid (∀ p, p < M → wb.cell? ⟨ob, p, none⟩ = some (.int .i64 (pl p))) := ocells; have hown2 := owns_below hown (bthen' hba hbb); have hwb := bthen hbr (bthen' hba hbb) hbr.size; have hobn : wr.heap.size ≤ ob := Nat.le_trans hba.size ob1; clear rcells ocells hown))
      obtain ⟨r0, rfl⟩ : ∃ r0, r0 = u7 := ⟨u7, rfl⟩
      go_loop [1, 2, 7, 11] (fun kv iv r c => ∃ p ir : Nat, p ≤ 2 * kl ∧ kv = .int .i64 kl ∧ r = r0 ∧ c = .int .i64 p ∧ iv = .int .u64 ir ∧ Hid (At n k i t kl p ir)) (fun _ _ _ c => 2 * kl + 1 - (intOf c).toNat)
      case atStart => exact ⟨0, il, by omega, rfl, rfl, rfl, rfl, HA0⟩
      case round =>
        clear HA0
        obtain ⟨p, ir, hp, rfl, rfl, rfl, rfl, HA⟩ := hrel
        have hp24 : p ≤ 24 := by omega
        have hpM : p < M := by have := HMM.out; omega
        have gk := HRC.out (kl - (p + 1) / 2) (by omega)
        have go := HOC.out p hpM
        have hsz2 := fun w => rsize_any (pl p) w (by have := pl_small p 12 hp24; omega) (by have := pl_small p 12 hp24; omega)
        rw [rsz_pl p hp24] at hsz2
        have hhalf : (p + 1) / 2 ≤ kl := by omega
        have ez : ((kl : Int) - (((p + 1) / 2 : Nat) : Int)).toNat = kl - (p + 1) / 2 := by omega
        have e0 : (0 : Int) ≤ (kl : Int) - (((p + 1) / 2 : Nat) : Int) := by omega
        have e1 : (kl : Int) - (((p + 1) / 2 : Nat) : Int) < 13 := by omega
        have c2 : (p : Int) < (M : Int) := by omega
        by_cases hpass : V m (kl - (p + 1) / 2) ≤ ir
        · have HA2 : Hid (At n k i t kl (p + 1) (ir - V m (kl - (p + 1) / 2))) := by
            have := HA.out.pass (by rw [HM.out]; exact hpass)
            rw [HM.out] at this
            exact this
          have hp2 : p + 1 ≤ 2 * kl := HA2.out.top
          generalize pl p = P at *
          generalize V m (kl - (p + 1) / 2) = X2 at *
          generalize (p + 1) / 2 = q at *
          have j1 : ¬ ((ir : Int) < (X2 : Int)) := by omega
          have hb64 : ir - X2 < 2 ^ 64 := by
            have h1 := HA2.out.room
            have h2 := V_small (n - t.length) kl (by omega) (by omega)
            omega
          clear HRC HOC HA hlt2
          go_wp2_with (go_at_call 61; refine (hsz2 _).mono ?_; rintro e w' ⟨rfl, rfl⟩)
          refine ⟨⟨p + 1, ir - X2, hp2, rfl, rfl, by go_num, ?_, HA2⟩, by simp [intOf]; omega⟩
          rw [show ((ir : Int) - (X2 : Int)) = ((ir - X2 : Nat) : Int) by omega]
        · have HB2 : Hid (Beg n k i (t ++ [pl p]) (kl - (p + 1) / 2) ir) := HA.out.take (by rw [HM.out]; omega)
          have HS : Hid ((t ++ [pl p]).map (Value.int .i64) = t.map (Value.int .i64) ++ [.int .i64 (pl p)]) := by unfold Hid; simp
          have HSL : Hid ((t ++ [pl p]).length = t.length + 1) := by unfold Hid; simp
          have hwz := hwb.size
          generalize pl p = P at *
          generalize V m (kl - (p + 1) / 2) = X2 at *
          generalize (p + 1) / 2 = q at *
          have j1 : (ir : Int) < (X2 : Int) := by omega
          clear HRC HOC HA
          go_wp2_with (first | (go_at_call 61; refine (hsz2 _).mono ?_; rintro e w9 ⟨rfl, h9⟩; have h9 := h9.symm; subst h9) | (at_builtin; refine wpList_append_own _ rfl _ _ 45 rfl w.heap.size 3 i0 (.int .i64 0) 1 8 Tryz.underlying45 hi hz0 hz1 hz2 rfl (by decide) _ _ _ rfl (hown2.alloc _) ⟨wb.heap.size, 0, none⟩ 1 1 [.int .i64 P] rfl rfl (cell_one_at rfl _ _) (one_cell _ _) ?c3 ?c4 ?c5 ?_))
          case c3 => unfold maxLen; omega
          case c4 => omega
          case c5 => first | (simp; omega) | omega
          intro v' w2 hown' hgrow _
          have hb2 := bgrow hwb hown2 (Nat.le_refl _) hgrow
          have hblk : w2.heap[ob]? = (wb.alloc (.cells #[.int .i64 P] 3)).heap[ob]? := hgrow.block ob (by simp; omega) (by first | (intro e; have := hlt2 _ e; omega) | (intro e; have := hlt2 _ e.symm; omega))
          have go2 : w2.cell? ⟨ob, p, none⟩ = some (.int .i64 P) := by
            rw [World.cell?_of_block (w := wb.alloc (.cells #[.int .i64 P] 3)) hblk, World.cell?_alloc_past _ _ _ ob2]
            exact go
          rw [← HS.out, ← HSL.out] at hown'
          clear hgrow hblk hlt2 hown2 go gk
          go_wp2_with (go_at_call 61; refine (hsz2 _).mono ?_; rintro e w9 ⟨rfl, h9⟩; have h9 := h9.symm; subst h9)
          exact ⟨⟨t ++ [P], kl - q, ir, by rw [HSL.out]; omega, by rw [HSL.out]; go_num, by go_num, rfl, HB2, hown', hb2⟩, by simp [intOf]; omega⟩
    · have hte : t.length = n := by omega
      have HE : Hid _ := HB.out.end_ hte
      have hrw := RwF.of_owns hown
      clear HB hte hown
      go_wp2
      go_ret
      exact ⟨_, t, rfl, hrw, HE.out.1, HE.out.2.1, HE.out.2.2, hbr⟩
end Go.Proofs.YtidppkbphkcmeaaGreat
