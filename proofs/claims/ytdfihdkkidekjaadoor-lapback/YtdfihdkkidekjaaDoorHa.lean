/- Borders turned and turned back, signals filled up, frames: plain. Nothing of the program is imported. -/
import Derived.Test.YtdfihdkkidekjaaDoorGf
namespace Go.Proofs.YtdfihdkkidekjaaDoor
open Go.RowKit
set_option linter.unusedVariables false
set_option linter.unusedSimpArgs false

/-- So many 16ths of a sample, downwards. -/
def prt (v : Int) (k : Nat) : Int := v * (7 - 2 * (k : Int)) / 16
theorem prt_bd (v B : Int) (k : Nat) (hk : k < 4) (h0 : -B ≤ v) (h1 : v ≤ B) : -B ≤ prt v k ∧ prt v k ≤ B := by
  unfold prt
  match k, hk with
  | 0, _ => simp; omega
  | 1, _ => simp; omega
  | 2, _ => simp; omega
  | 3, _ => simp; omega

/-- Both sides of p, m samples each, are new. -/
def two (p m : Nat) (U V f : Nat → Int) (i : Nat) : Int := if p ≤ i ∧ i < p + m then V (i - p) else if i < p ∧ p ≤ i + m then U (p - 1 - i) else f i
def twL (p m : Nat) (U V : Nat → Int) (x : List Int) : List Int := tab x.length (two p m U V fun i => x.getD i 0)
theorem twL_len (p m : Nat) (U V : Nat → Int) (x : List Int) : (twL p m U V x).length = x.length := tab_len _ _
theorem twL_at (p m : Nat) (U V : Nat → Int) (x : List Int) (i : Nat) (h : i < x.length) : (twL p m U V x).getD i 0 = two p m U V (fun i => x.getD i 0) i := tab_at _ _ _ h
theorem twL_zero (p : Nat) (U V : Nat → Int) (x : List Int) : twL p 0 U V x = x := by
  refine (tab_eq rfl fun i hi => ?_).symm
  unfold two
  rw [if_neg (by omega), if_neg (by omega)]
theorem twL_up (p m : Nat) (U V : Nat → Int) (x : List Int) (h : p + m < x.length) : (twL p m U V x).getD (p + m) 0 = x.getD (p + m) 0 := by
  rw [twL_at _ _ _ _ _ _ h]
  unfold two
  rw [if_neg (by omega), if_neg (by omega)]
theorem twL_dn (p m : Nat) (U V : Nat → Int) (x : List Int) (hm : m < p) (h : p + m < x.length) : (twL p m U V x).getD (p - 1 - m) 0 = x.getD (p - 1 - m) 0 := by
  rw [twL_at _ _ _ _ _ _ (by omega)]
  unfold two
  rw [if_neg (by omega), if_neg (by omega)]
theorem twL_next (p m : Nat) (U V : Nat → Int) (x : List Int) (hm : m < p) (h : p + m < x.length) : twL p (m + 1) U V x = ((twL p m U V x).set (p + m) (V m)).set (p - 1 - m) (U m) := by
  refine list_ext_getD (by simp [twL_len]) fun i hi => ?_
  rw [twL_len] at hi
  rw [getD_set_at _ _ _ _ (by simp [twL_len]; omega), getD_set_at _ _ _ _ (by rw [twL_len]; exact h), twL_at _ _ _ _ _ _ hi, twL_at _ _ _ _ _ _ hi]
  unfold two
  by_cases e : i = p - 1 - m
  · rw [if_pos e, if_neg (by omega), if_pos (by omega)]
    congr 1; omega
  · rw [if_neg e]
    by_cases e2 : i = p + m
    · rw [if_pos e2, if_pos (by omega)]
      congr 1; omega
    · rw [if_neg e2]
      by_cases e3 : p ≤ i ∧ i < p + m
      · rw [if_pos e3, if_pos (by omega)]
      · rw [if_neg e3, if_neg (by omega)]
        by_cases e4 : i < p ∧ p ≤ i + m
        · rw [if_pos e4, if_pos (by omega)]
        · rw [if_neg e4, if_neg (by omega)]
theorem twL_next' (p m : Nat) (U V : Nat → Int) (x : List Int) (hm : m < p) (h : p + m < x.length) : twL p (m + 1) U V x = ((twL p m U V x).set (p - 1 - m) (U m)).set (p + m) (V m) := by
  rw [twL_next p m U V x hm h]
  exact List.set_comm _ _ (by omega)

/-- The samples behind the border, and ahead of it, turned; turned back. -/
def tv (x : List Int) (p k : Nat) : Int := x.getD (p + k) 0 - prt (x.getD (p - 1 - k) 0) k
def tu (x : List Int) (p k : Nat) : Int := x.getD (p - 1 - k) 0 + prt (tv x p k) k
def bu (x : List Int) (p k : Nat) : Int := x.getD (p - 1 - k) 0 - prt (x.getD (p + k) 0) k
def bw (x : List Int) (p k : Nat) : Int := x.getD (p + k) 0 + prt (bu x p k) k
def tnL (p : Nat) (x : List Int) : List Int := twL p 4 (tu x p) (tv x p) x
def bkL (p : Nat) (x : List Int) : List Int := twL p 4 (bu x p) (bw x p) x
theorem tnL_len (p : Nat) (x : List Int) : (tnL p x).length = x.length := tab_len _ _
theorem bkL_len (p : Nat) (x : List Int) : (bkL p x).length = x.length := tab_len _ _
theorem twL_far (p : Nat) (U V : Nat → Int) (x : List Int) (i : Nat) (hi : i < x.length) (h : i + 4 < p ∨ p + 4 ≤ i) : (twL p 4 U V x).getD i 0 = x.getD i 0 := by
  rw [twL_at _ _ _ _ _ _ hi]
  unfold two
  rw [if_neg (by omega), if_neg (by omega)]
theorem twL_V (p : Nat) (U V : Nat → Int) (x : List Int) (k : Nat) (hk : k < 4) (hi : p + k < x.length) : (twL p 4 U V x).getD (p + k) 0 = V k := by
  rw [twL_at _ _ _ _ _ _ hi]
  unfold two
  rw [if_pos (by omega), Nat.add_sub_cancel_left]
theorem twL_U (p : Nat) (U V : Nat → Int) (x : List Int) (k : Nat) (hk : k < 4) (hp : 4 ≤ p) (hi : p ≤ x.length) : (twL p 4 U V x).getD (p - 1 - k) 0 = U k := by
  rw [twL_at _ _ _ _ _ _ (by omega)]
  unfold two
  rw [if_neg (by omega), if_pos (by omega)]
  congr 1; omega
/-- Every place is one of these. -/
theorem place (p i : Nat) (hp : 4 ≤ p) : (∃ k, k < 4 ∧ i = p + k) ∨ (∃ k, k < 4 ∧ i = p - 1 - k) ∨ (i + 4 < p ∨ p + 4 ≤ i) := by
  by_cases h : i + 4 < p ∨ p + 4 ≤ i
  · exact .inr (.inr h)
  · by_cases h2 : p ≤ i
    · exact .inl ⟨i - p, by omega, by omega⟩
    · exact .inr (.inl ⟨p - 1 - i, by omega, by omega⟩)
theorem bk_tn (p : Nat) (x : List Int) (hp : 4 ≤ p) (hl : p + 4 ≤ x.length) : bkL p (tnL p x) = x := by
  refine list_ext_getD (by rw [bkL_len, tnL_len]) fun i hi => ?_
  rw [bkL_len, tnL_len] at hi
  have hV : ∀ k, k < 4 → (tnL p x).getD (p + k) 0 = tv x p k := fun k hk => twL_V _ _ _ _ k hk (by omega)
  have hU : ∀ k, k < 4 → (tnL p x).getD (p - 1 - k) 0 = tu x p k := fun k hk => twL_U _ _ _ _ k hk hp (by omega)
  have hbu : ∀ k, k < 4 → bu (tnL p x) p k = x.getD (p - 1 - k) 0 := fun k hk => by
    unfold bu
    rw [hV k hk, hU k hk]
    unfold tu
    omega
  rcases place p i hp with ⟨k, hk, rfl⟩ | ⟨k, hk, rfl⟩ | h
  · rw [show (bkL p (tnL p x)).getD (p + k) 0 = bw (tnL p x) p k from twL_V _ _ _ _ k hk (by rw [tnL_len]; exact hi)]
    unfold bw
    rw [hbu k hk, hV k hk]
    unfold tv
    omega
  · rw [show (bkL p (tnL p x)).getD (p - 1 - k) 0 = bu (tnL p x) p k from twL_U _ _ _ _ k hk hp (by rw [tnL_len]; omega)]
    exact hbu k hk
  · rw [show (bkL p (tnL p x)).getD i 0 = (tnL p x).getD i 0 from twL_far _ _ _ _ i (by rw [tnL_len]; exact hi) h]
    exact twL_far _ _ _ _ i hi h

/-- No sample from lo on, ahead of hi, is beyond B. -/
def In (x : List Int) (lo hi : Nat) (B : Int) : Prop := ∀ i, lo ≤ i → i < hi → i < x.length → -B ≤ x.getD i 0 ∧ x.getD i 0 ≤ B
theorem tv_bd {x : List Int} {p : Nat} {B : Int} (h : In x (p - 4) (p + 4) B) (hp : 4 ≤ p) (hl : p + 4 ≤ x.length) (k : Nat) (hk : k < 4) : -(2 * B) ≤ tv x p k ∧ tv x p k ≤ 2 * B := by
  unfold tv
  have h1 := h (p + k) (by omega) (by omega) (by omega)
  have h2 := h (p - 1 - k) (by omega) (by omega) (by omega)
  have h3 := prt_bd _ B k hk h2.1 h2.2
  omega
theorem tu_bd {x : List Int} {p : Nat} {B : Int} (h : In x (p - 4) (p + 4) B) (hp : 4 ≤ p) (hl : p + 4 ≤ x.length) (k : Nat) (hk : k < 4) : -(3 * B) ≤ tu x p k ∧ tu x p k ≤ 3 * B := by
  unfold tu
  have h1 := tv_bd h hp hl k hk
  have h2 := h (p - 1 - k) (by omega) (by omega) (by omega)
  have h3 := prt_bd _ (2 * B) k hk h1.1 h1.2
  omega
theorem bu_bd {x : List Int} {p : Nat} {B : Int} (h : In x (p - 4) (p + 4) B) (hp : 4 ≤ p) (hl : p + 4 ≤ x.length) (k : Nat) (hk : k < 4) : -(2 * B) ≤ bu x p k ∧ bu x p k ≤ 2 * B := by
  unfold bu
  have h1 := h (p + k) (by omega) (by omega) (by omega)
  have h2 := h (p - 1 - k) (by omega) (by omega) (by omega)
  have h3 := prt_bd _ B k hk h1.1 h1.2
  omega
theorem bw_bd {x : List Int} {p : Nat} {B : Int} (h : In x (p - 4) (p + 4) B) (hp : 4 ≤ p) (hl : p + 4 ≤ x.length) (k : Nat) (hk : k < 4) : -(3 * B) ≤ bw x p k ∧ bw x p k ≤ 3 * B := by
  unfold bw
  have h1 := bu_bd h hp hl k hk
  have h2 := h (p + k) (by omega) (by omega) (by omega)
  have h3 := prt_bd _ (2 * B) k hk h1.1 h1.2
  omega
theorem tw_bd {x : List Int} {p : Nat} {B : Int} {U V : Nat → Int} (hp : 4 ≤ p) (hl : p + 4 ≤ x.length) (hU : ∀ k, k < 4 → -(3 * B) ≤ U k ∧ U k ≤ 3 * B) (hV : ∀ k, k < 4 → -(3 * B) ≤ V k ∧ V k ≤ 3 * B) (lo hi : Nat) (h : In x lo hi (3 * B)) : In (twL p 4 U V x) lo hi (3 * B) := fun i h0 h1 h2 => by
  rw [twL_len] at h2
  rcases place p i hp with ⟨k, hk, rfl⟩ | ⟨k, hk, rfl⟩ | h3
  · rw [twL_V _ _ _ _ k hk h2]; exact hV k hk
  · rw [twL_U _ _ _ _ k hk hp (by omega)]; exact hU k hk
  · rw [twL_far _ _ _ _ i h2 h3]; exact h i h0 h1 h2
theorem In.mono {x : List Int} {lo hi lo' hi' : Nat} {B B' : Int} (h : In x lo hi B) (h1 : lo ≤ lo') (h2 : hi' ≤ hi) (hB : B ≤ B') : In x lo' hi' B' := fun i a b c => by
  have := h i (by omega) (by omega) c
  omega
theorem In.of_bd {x : List Int} {B : Int} (h : Bd (-B) B x) (lo hi : Nat) : In x lo hi B := fun i _ _ c => h i c
theorem In.bd {x : List Int} {B : Int} (h : In x 0 x.length B) : Bd (-B) B x := fun i hi => h i (by omega) hi hi

/-- The first m borders are turned, from the first one on; turned back, from the last one on. -/
def tnN (s : Nat) : Nat → List Int → List Int
  | 0, x => x
  | m + 1, x => tnL ((m + 1) * s) (tnN s m x)
def bkN (s : Nat) : Nat → List Int → List Int
  | 0, x => x
  | m + 1, x => bkN s m (bkL ((m + 1) * s) x)
theorem tnN_len (s m : Nat) (x : List Int) : (tnN s m x).length = x.length := by
  induction m with
  | zero => rfl
  | succ m ih => simp only [tnN]; rw [tnL_len, ih]
theorem bkN_len (s m : Nat) : ∀ x : List Int, (bkN s m x).length = x.length := by
  induction m with
  | zero => exact fun _ => rfl
  | succ m ih => exact fun x => by simp only [bkN]; rw [ih, bkL_len]
theorem mul_s (m s : Nat) : (m + 1) * s = m * s + s := Nat.succ_mul m s
theorem bkN_tnN (s : Nat) (hs : 4 ≤ s) (m : Nat) (x : List Int) (h : m = 0 ∨ m * s + 4 ≤ x.length) : bkN s m (tnN s m x) = x := by
  induction m with
  | zero => rfl
  | succ m ih =>
    simp only [bkN, tnN]
    have e := mul_s m s
    rw [bk_tn _ _ (by omega) (by rw [tnN_len]; omega)]
    exact ih (by omega)
theorem tnN_bd (s : Nat) (hs : 8 ≤ s) (B : Int) (hB : 0 ≤ B) (x : List Int) (hx : Bd (-B) B x) (m : Nat) : (m = 0 ∨ m * s + 4 ≤ x.length) → Bd (-(3 * B)) (3 * B) (tnN s m x) ∧ In (tnN s m x) (m * s + 4) x.length B := by
  induction m with
  | zero => exact fun _ => ⟨hx.mono (by omega) (by omega), In.of_bd hx _ _⟩
  | succ m ih =>
    intro h
    have e := mul_s m s
    obtain ⟨h1, h2⟩ := ih (by omega)
    have hl := tnN_len s m x
    have hin : In (tnN s m x) ((m + 1) * s - 4) ((m + 1) * s + 4) B := h2.mono (by omega) (by omega) (by omega)
    constructor
    · refine In.bd ?_
      simp only [tnN]
      rw [tnL_len]
      exact tw_bd (by omega) (by omega) (tu_bd hin (by omega) (by omega)) (fun k hk => by have := tv_bd hin (by omega) (by omega) k hk; omega) _ _ (In.of_bd h1 _ _)
    · intro i a b c
      simp only [tnN] at c ⊢
      rw [tnL_len, hl] at c
      rw [show (tnL ((m + 1) * s) (tnN s m x)).getD i 0 = (tnN s m x).getD i 0 from twL_far _ _ _ _ i (by omega) (by omega)]
      exact h2 i (by omega) b (by omega)
theorem bk_bd (s j : Nat) (hs : 8 ≤ s) (B : Int) (hB : 0 ≤ B) (y : List Int) (hl : (j + 1) * s + 4 ≤ y.length) (h1 : Bd (-(3 * B)) (3 * B) y) (h2 : In y 0 ((j + 1) * s + s - 4) B) : Bd (-(3 * B)) (3 * B) (bkL ((j + 1) * s) y) ∧ In (bkL ((j + 1) * s) y) 0 (j * s + s - 4) B := by
  have e := mul_s j s
  have hin : In y ((j + 1) * s - 4) ((j + 1) * s + 4) B := h2.mono (by omega) (by omega) (by omega)
  constructor
  · refine In.bd ?_
    rw [bkL_len]
    exact tw_bd (by omega) (by omega) (fun k hk => by have := bu_bd hin (by omega) (by omega) k hk; omega) (bw_bd hin (by omega) (by omega)) _ _ (In.of_bd h1 _ _)
  · intro i a b c
    rw [bkL_len] at c
    rw [show (bkL ((j + 1) * s) y).getD i 0 = y.getD i 0 from twL_far _ _ _ _ i c (by omega)]
    exact h2 i a (by omega) c

/-- Two signals that are alike about a block have alike frames there. -/
theorem tn_near (s : Nat) (hs : 8 ≤ s) (b : Nat) (x y : List Int) (hl : x.length = y.length) (h : ∀ i, b * s ≤ i + 4 → i < b * s + s + 4 → x.getD i 0 = y.getD i 0) (m : Nat) : (m = 0 ∨ m * s + 4 ≤ x.length) →
    ∀ i, i < x.length → b * s ≤ i + 4 → i < b * s + s + 4 → (tnN s m x).getD i 0 = (tnN s m y).getD i 0 := by
  induction m with
  | zero => exact fun _ i _ h1 h2 => h i h1 h2
  | succ m ih =>
    intro hm i hi h1 h2
    have e := mul_s m s
    have ih' := ih (by omega)
    have hx := tnN_len s m x
    have hy := tnN_len s m y
    have hz : (m + 1) * s + s ≤ b * s ∨ (m + 1) * s = b * s ∨ (m + 1) * s = b * s + s ∨ b * s + s + s ≤ (m + 1) * s := by
      rcases Nat.lt_or_ge (m + 1) b with q | q
      · left
        have := Nat.mul_le_mul_right s q
        rw [Nat.succ_mul] at this
        exact this
      · right
        rcases Nat.lt_or_ge b (m + 1) with q2 | q2
        · right
          rcases Nat.lt_or_ge (b + 1) (m + 1) with q3 | q3
          · right
            have := Nat.mul_le_mul_right s q3
            rw [Nat.succ_mul, Nat.succ_mul] at this
            exact this
          · left
            have : m + 1 = b + 1 := by omega
            rw [this, Nat.succ_mul]
        · left
          have : m + 1 = b := by omega
          rw [this]
    have hwin : (m + 1) * s = b * s ∨ (m + 1) * s = b * s + s → (∀ k, k < 4 → (tnN s m x).getD ((m + 1) * s + k) 0 = (tnN s m y).getD ((m + 1) * s + k) 0) ∧ (∀ k, k < 4 → (tnN s m x).getD ((m + 1) * s - 1 - k) 0 = (tnN s m y).getD ((m + 1) * s - 1 - k) 0) := fun hc =>
      ⟨fun k hk => ih' _ (by omega) (by omega) (by omega), fun k hk => ih' _ (by omega) (by omega) (by omega)⟩
    simp only [tnN]
    rcases place ((m + 1) * s) i (by omega) with ⟨k, hk, rfl⟩ | ⟨k, hk, rfl⟩ | h3
    · obtain ⟨q1, q2⟩ := hwin (by omega)
      rw [show (tnL ((m + 1) * s) (tnN s m x)).getD _ 0 = tv (tnN s m x) _ k from twL_V _ _ _ _ k hk (by omega), show (tnL ((m + 1) * s) (tnN s m y)).getD _ 0 = tv (tnN s m y) _ k from twL_V _ _ _ _ k hk (by omega)]
      unfold tv
      rw [q1 k hk, q2 k hk]
    · obtain ⟨q1, q2⟩ := hwin (by omega)
      rw [show (tnL ((m + 1) * s) (tnN s m x)).getD _ 0 = tu (tnN s m x) _ k from twL_U _ _ _ _ k hk (by omega) (by omega), show (tnL ((m + 1) * s) (tnN s m y)).getD _ 0 = tu (tnN s m y) _ k from twL_U _ _ _ _ k hk (by omega) (by omega)]
      unfold tu tv
      rw [q1 k hk, q2 k hk]
    · rw [show (tnL ((m + 1) * s) (tnN s m x)).getD i 0 = (tnN s m x).getD i 0 from twL_far _ _ _ _ i (by omega) h3, show (tnL ((m + 1) * s) (tnN s m y)).getD i 0 = (tnN s m y).getD i 0 from twL_far _ _ _ _ i (by omega) h3]
      exact ih' i hi h1 h2

/-- One of the three sizes. -/
def Sz (s K : Nat) : Prop := (s = 8 ∧ K = 3) ∨ (s = 16 ∧ K = 4) ∨ (s = 32 ∧ K = 5)
theorem Sz.pow {s K : Nat} (h : Sz s K) : 2 ^ K = s := by rcases h with ⟨rfl, rfl⟩ | ⟨rfl, rfl⟩ | ⟨rfl, rfl⟩ <;> rfl
theorem Sz.le {s K : Nat} (h : Sz s K) : 8 ≤ s ∧ s ≤ 32 ∧ K ≤ 5 ∧ 1 ≤ K := by rcases h with ⟨rfl, rfl⟩ | ⟨rfl, rfl⟩ | ⟨rfl, rfl⟩ <;> decide
/-- How many blocks. -/
def cnt (s n : Nat) : Nat := (n + s - 1) / s
theorem cnt_parts {s K : Nat} (h : Sz s K) (n : Nat) : n ≤ cnt s n * s ∧ cnt s n * s < n + s ∧ (n = 0 → cnt s n = 0) ∧ (∀ m, n ≤ m → m % s = 0 → m ≤ cnt s n * s → m = cnt s n * s) ∧ cnt s n ≤ n := by
  unfold cnt
  rcases h with ⟨rfl, rfl⟩ | ⟨rfl, rfl⟩ | ⟨rfl, rfl⟩ <;> refine ⟨by omega, by omega, by omega, ?_, by omega⟩ <;> intro m h1 h2 h3 <;> omega
/-- A signal, filled up. -/
def full (s : Nat) (x : List Int) : List Int := x ++ List.replicate (cnt s x.length * s - x.length) 0
theorem full_len {s K : Nat} (h : Sz s K) (x : List Int) : (full s x).length = cnt s x.length * s := by
  unfold full
  have := (cnt_parts h x.length).1
  simp
  omega
theorem full_bd {s : Nat} {B : Int} {x : List Int} (hB : 0 ≤ B) (h : Bd (-B) B x) : Bd (-B) B (full s x) := fun i hi => by
  unfold full at hi ⊢
  by_cases e : i < x.length
  · rw [getD_app_l _ _ _ e]; exact h i e
  · rw [getD_app_r _ _ _ (by omega)]
    simp [List.getD_eq_getElem?_getD, List.getElem?_replicate]
    split <;> simp <;> omega
/-- All borders are turned. -/
def all (s : Nat) (x : List Int) : List Int := tnN s (cnt s x.length - 1) (full s x)
theorem all_len {s K : Nat} (h : Sz s K) (x : List Int) : (all s x).length = cnt s x.length * s := by
  unfold all
  rw [tnN_len, full_len h]
theorem borders {s K c : Nat} (h : Sz s K) : c - 1 = 0 ∨ (c - 1) * s + 4 ≤ c * s := by
  have := h.le
  cases c with
  | zero => exact .inl rfl
  | succ c =>
    right
    have := mul_s c s
    simp only [Nat.add_sub_cancel]
    omega
theorem all_bd {s K : Nat} (h : Sz s K) {B : Int} (hB : 0 ≤ B) {x : List Int} (hx : Bd (-B) B x) : Bd (-(3 * B)) (3 * B) (all s x) :=
  (tnN_bd s h.le.1 B hB (full s x) (full_bd hB hx) _ (by rw [full_len h]; exact borders h)).1
/-- A block. -/
def blk (s : Nat) (y : List Int) (i : Nat) : List Int := (y.drop (i * s)).take s
theorem blk_len (s : Nat) (y : List Int) (i : Nat) (h : (i + 1) * s ≤ y.length) : (blk s y i).length = s := by
  have := mul_s i s
  unfold blk
  simp
  omega
theorem blk_at (s : Nat) (y : List Int) (i j : Nat) (h : j < s) : (blk s y i).getD j 0 = y.getD (i * s + j) 0 := by
  unfold blk
  rw [getD_take _ _ _ h, getD_drop]
theorem blk_bd {s : Nat} {y : List Int} {lo hi : Int} (h : Bd lo hi y) (i : Nat) : Bd lo hi (blk s y i) := fun j hj => by
  unfold blk at hj
  simp at hj
  rw [blk_at _ _ _ _ (by omega)]
  exact h _ (by omega)
/-- A signal's frames. -/
def frm (s K : Nat) (x : List Int) (i : Nat) : List Int := fw K (blk s (all s x) i)
def frames (s K : Nat) (x : List Int) : List (List Int) := (List.range (cnt s x.length)).map (frm s K x)
theorem frames_len (s K : Nat) (x : List Int) : (frames s K x).length = cnt s x.length := by simp [frames]
theorem frames_at (s K : Nat) (x : List Int) (i : Nat) (h : i < cnt s x.length) : (frames s K x).getD i [] = frm s K x i := by simp [frames, h]
theorem room {s i c : Nat} (h : i < c) : (i + 1) * s ≤ c * s := Nat.mul_le_mul_right s h
theorem frm_len {s K : Nat} (h : Sz s K) (x : List Int) (i : Nat) (hi : i < cnt s x.length) : (frm s K x i).length = s := by
  unfold frm
  rw [fw_len, h.pow]
  rw [h.pow]
  exact blk_len _ _ _ (by rw [all_len h]; exact room hi)
theorem frm_bd {s K : Nat} (h : Sz s K) {x : List Int} (hx : Bd (-262144) 262144 x) (i : Nat) (hi : i < cnt s x.length) : Bd (-67108864) 67108864 (frm s K x i) :=
  fw_bd _ _ (by rw [h.pow]; exact blk_len _ _ _ (by rw [all_len h]; exact room hi)) ((blk_bd (all_bd h (by omega) hx) i).mono (by omega) (by omega))
/-- Frames of alike signals. -/
theorem frm_near {s K : Nat} (h : Sz s K) (x y : List Int) (hl : x.length = y.length) (i : Nat) (hi : i < cnt s x.length) (hx : ∀ j, i * s ≤ j + 4 → j < i * s + s + 4 → x.getD j 0 = y.getD j 0) : frm s K x i = frm s K y i := by
  unfold frm
  congr 1
  have hb : ∀ z : List Int, z.length = x.length → (blk s (all s z) i).length = s := fun z hz => blk_len _ _ _ (by rw [all_len h, hz]; exact room hi)
  refine list_ext_getD (by rw [hb x rfl, hb y hl.symm]) fun j hj => ?_
  rw [hb x rfl] at hj
  rw [blk_at _ _ _ _ hj, blk_at _ _ _ _ hj]
  unfold all
  rw [← hl]
  have hr := room (s := s) hi
  rw [mul_s] at hr
  refine tn_near s h.le.1 i (full s x) (full s y) (by rw [full_len h, full_len h, hl]) (fun k h1 h2 => ?_) _ (by rw [full_len h]; exact borders h) _ (by rw [full_len h]; omega) (by omega) (by omega)
  unfold full
  rw [← hl]
  by_cases e : k < x.length
  · rw [getD_app_l _ _ _ e, getD_app_l _ _ _ (by omega)]; exact hx k h1 h2
  · rw [getD_app_r _ _ _ (by omega), getD_app_r _ _ _ (by omega), hl]

/-- The samples of the first j frames, one behind the other. -/
def smp (K : Nat) (L : List (List Int)) : Nat → List Int
  | 0 => []
  | j + 1 => smp K L j ++ iv K (L.getD j [])
theorem smp_len {s K : Nat} (h : Sz s K) (L : List (List Int)) (hL : ∀ i, i < L.length → (L.getD i []).length = s) (j : Nat) (hj : j ≤ L.length) : (smp K L j).length = j * s := by
  induction j with
  | zero => simp [smp]
  | succ j ih =>
    simp only [smp]
    rw [List.length_append, ih (by omega), iv_len K _ (by rw [hL j (by omega), h.pow]), h.pow, mul_s]
theorem iv_small5 (k : Nat) (hk : k ≤ 5) (c : List Int) (hl : c.length = 2 ^ k) (h : Bd (-67108864) 67108864 c) : Bd (-1073741824) 1073741824 (iv k c) := by
  have := iv_bd k 33554432 c hl (h.mono (by omega) (by omega))
  refine this.mono ?_ ?_
  · omega
  · omega
theorem smp_bd {s K : Nat} (h : Sz s K) (L : List (List Int)) (hL : ∀ i, i < L.length → (L.getD i []).length = s) (hB : ∀ i, i < L.length → Bd (-67108864) 67108864 (L.getD i [])) (j : Nat) (hj : j ≤ L.length) : Bd (-1073741824) 1073741824 (smp K L j) := by
  induction j with
  | zero => intro i hi; simp [smp] at hi
  | succ j ih =>
    intro i hi
    simp only [smp] at hi ⊢
    by_cases e : i < (smp K L j).length
    · rw [getD_app_l _ _ _ e]; exact ih (by omega) i e
    · rw [getD_app_r _ _ _ (by omega)]
      rw [List.length_append] at hi
      exact iv_small5 K h.le.2.2.1 _ (by rw [hL j (by omega), h.pow]) (hB j (by omega)) _ (by omega)
/-- The signal of frames. -/
def signal (s K : Nat) (L : List (List Int)) : List Int := bkN s (L.length - 1) (smp K L L.length)
theorem smp_frames {s K : Nat} (h : Sz s K) (x : List Int) (j : Nat) (hj : j ≤ cnt s x.length) : smp K (frames s K x) j = (all s x).take (j * s) := by
  induction j with
  | zero => simp [smp]
  | succ j ih =>
    simp only [smp]
    rw [ih (by omega), frames_at _ _ _ _ (by omega)]
    unfold frm
    rw [iv_fw K _ (by rw [h.pow]; exact blk_len _ _ _ (by rw [all_len h]; exact room (by omega)))]
    unfold blk
    rw [mul_s, List.take_add]
theorem signal_frames {s K : Nat} (h : Sz s K) (x : List Int) : signal s K (frames s K x) = full s x := by
  unfold signal
  rw [frames_len, smp_frames h x _ (Nat.le_refl _), List.take_of_length_le (by rw [all_len h]; exact Nat.le_refl _)]
  unfold all
  exact bkN_tnN s (by have := h.le; omega) _ _ (by rw [full_len h]; exact borders h)
end Go.Proofs.YtdfihdkkidekjaaDoor
