/- Signs, and one coefficient alone: plain facts of the search. -/
import Derived.Test.YtiiiejhdeooabaaFj
namespace Go.Proofs.Ytiiiejhdeooabaa
open Go.RowKit
set_option linter.unusedVariables false
set_option linter.unusedSimpArgs false

theorem getD_out (x : List Int) (i : Nat) (h : ¬ i < x.length) : x.getD i 0 = 0 := by
  rw [List.getD_eq_getElem?_getD, List.getElem?_eq_none (by omega)]; rfl
/-- The numbers with their signs turned. -/
def ngs (x : List Int) : List Int := tab x.length fun i => -(x.getD i 0)
theorem ngs_len (x : List Int) : (ngs x).length = x.length := tab_len _ _
theorem ngs_at (x : List Int) (i : Nat) : (ngs x).getD i 0 = -(x.getD i 0) := by
  unfold ngs
  by_cases h : i < x.length
  · rw [tab_at _ _ i h]
  · rw [tab_out _ _ i h, getD_out x i h]; rfl
theorem ngs_fair {x : List Int} (h : fairX x = true) : fairX (ngs x) = true := by
  obtain ⟨h1, h2, h3⟩ := fairX_parts h
  refine fairX_true (by rw [ngs_len]; exact h1) (by rw [ngs_len]; exact h2) fun i _ => ?_
  rw [ngs_at]
  have := h3 i
  omega
theorem fits_fair {x : List Int} (h : fairX x = true) : Fits x := fun j => by
  have := (fairX_parts h).2.2 j
  omega
theorem mx_ngs (x : List Int) (j : Nat) : mx (ngs x) j = mx x j := by
  induction j with
  | zero => rfl
  | succ j ih => simp only [mx, ih, ngs_at, Int.natAbs_neg]
theorem szs_ngs (x : List Int) : szs (ngs x) = szs x := by
  unfold szs
  rw [ngs_len, mx_ngs]
  exact tab_congr fun i _ => by unfold szf; rw [ngs_at, Int.natAbs_neg]
theorem fnd_ngs (x : List Int) (k : Nat) : fnd (ngs x) k = tab x.length (sgn (ngs x) (itr (szs x) x.length k)) := by
  unfold fnd
  rw [szs_ngs, ngs_len]
theorem ps_sgn (x Y : List Int) (hy : ∀ j, 0 ≤ Y.getD j 0) (n : Nat) : ((ps (tab n (sgn x Y)) : Nat) : Int) = sms Y n := by
  induction n with
  | zero => rfl
  | succ n ih =>
    rw [tab_push, ps_append]
    simp only [sms, ps]
    have := hy n
    unfold sgn
    unfold sgn at ih
    split <;> omega
/-- As many pulses are found as were asked for. -/
theorem ps_fnd {x : List Int} (h : fairX x = true) (k : Nat) : ps (fnd x k) = k := by
  have hS := St.of h k
  have := ps_sgn x _ hS.hy x.length
  rw [hS.hs] at this
  unfold fnd
  omega
theorem fits_fnd {x : List Int} (h : fairX x = true) (k : Nat) (hk : k ≤ 12) : Fits (fnd x k) := fun j => by
  have := ps_getD (fnd x k) j
  rw [ps_fnd h k] at this
  omega
/-- The signs of what is found, for both. -/
theorem fnd_signs {x : List Int} (h : fairX x = true) (k : Nat) (hk : k ≤ 12) (j : Nat) (hj : j < x.length) :
    ∃ v : Int, 0 ≤ v ∧ v ≤ 12 ∧ (fnd x k).getD j 0 = (if x.getD j 0 < 0 then -v else v) ∧ (fnd (ngs x) k).getD j 0 = (if 0 < x.getD j 0 then -v else v) := by
  have hS := St.of h k
  refine ⟨(itr (szs x) x.length k).getD j 0, hS.hy j, ?_, ?_, ?_⟩
  · have := sms_at hS.hy j x.length hj
    rw [hS.hs] at this
    omega
  · unfold fnd
    rw [tab_at _ _ j hj]
    rfl
  · rw [fnd_ngs, tab_at _ _ j hj]
    unfold sgn
    rw [ngs_at]
    by_cases c : 0 < x.getD j 0
    · rw [if_pos c, if_pos (by omega)]
    · rw [if_neg c, if_neg (by omega)]

/-- One number v at place p, of n places. -/
def one (n p : Nat) (v : Int) : List Int := tab n fun i => if i = p then v else 0
theorem one_len (n p : Nat) (v : Int) : (one n p v).length = n := tab_len _ _
theorem one_at (n p : Nat) (v : Int) (hp : p < n) : (one n p v).getD p 0 = v := by
  unfold one
  rw [tab_at _ _ p hp, if_pos rfl]
theorem one_off (n p : Nat) (v : Int) (i : Nat) (h : i ≠ p) : (one n p v).getD i 0 = 0 := by
  unfold one
  by_cases hi : i < n
  · rw [tab_at _ _ i hi, if_neg h]
  · rw [tab_out _ _ i hi]
theorem one_set (n p : Nat) (v : Int) (hp : p < n) : (tab n fun _ => 0).set p v = one n p v := tab_set n _ p v hp
theorem one_fair (n p : Nat) (v : Int) (hp : p < n) (hn : n ≤ 16) (h1 : -1048576 ≤ v) (h2 : v ≤ 1048576) : fairX (one n p v) = true := by
  refine fairX_true (by rw [one_len]; omega) (by rw [one_len]; exact hn) fun i _ => ?_
  by_cases e : i = p
  · subst e; rw [one_at n i v hp]; omega
  · rw [one_off n p v i e]; omega
theorem dts_one (a : List Int) (n p m j : Nat) (hp : p < n) : dts a (one n p m) j = if p < j then a.getD p 0 * m else 0 := by
  induction j with
  | zero => rfl
  | succ j ih =>
    simp only [dts, ih]
    by_cases e : j = p
    · subst e; rw [one_at n j _ hp, if_neg (by omega), if_pos (by omega)]; omega
    · rw [one_off n p _ j e]
      by_cases c : p < j
      · rw [if_pos c, if_pos (by omega)]; omega
      · rw [if_neg c, if_neg (by omega)]; omega
theorem nrs_one (n p m j : Nat) (hp : p < n) : nrs (one n p m) j = if p < j then (m : Int) * m else 0 := by
  induction j with
  | zero => rfl
  | succ j ih =>
    simp only [nrs, ih]
    by_cases e : j = p
    · subst e; rw [one_at n j _ hp, if_neg (by omega), if_pos (by omega)]; omega
    · rw [one_off n p _ j e]
      by_cases c : p < j
      · rw [if_pos c, if_pos (by omega)]; omega
      · rw [if_neg c, if_neg (by omega)]; omega
theorem sq_one (n p j : Nat) (v : Int) (hp : p < n) : sq (one n p v) j = if p < j then v.natAbs * v.natAbs else 0 := by
  induction j with
  | zero => rfl
  | succ j ih =>
    simp only [sq, ih]
    by_cases e : j = p
    · subst e; rw [one_at n j _ hp, if_neg (by omega), if_pos (by omega)]; omega
    · rw [one_off n p _ j e]
      by_cases c : p < j
      · rw [if_pos c, if_pos (by omega)]; simp
      · rw [if_neg c, if_neg (by omega)]; simp
theorem bt_one (a m : Int) (ha : 1 ≤ a) (hm : 0 ≤ m) : (a * m + 0) * (a * m + 0) * (m * m + 2 * m + 1) < (a * m + a) * (a * m + a) * (m * m + 2 * 0 + 1) := by
  have h1 : 1 ≤ a * (m + 1) := by
    have := Int.mul_le_mul ha (show (1 : Int) ≤ m + 1 by omega) (by omega) (by omega)
    omega
  have h2 : 1 * 1 ≤ a * (m + 1) * (a * (m + 1)) := Int.mul_le_mul h1 h1 (by omega) (by omega)
  have e1 : (a * m + 0) * (a * m + 0) * (m * m + 2 * m + 1) = a * (m + 1) * (a * (m + 1)) * (m * m) := by grind
  have e2 : (a * m + a) * (a * m + a) * (m * m + 2 * 0 + 1) = a * (m + 1) * (a * (m + 1)) * (m * m) + a * (m + 1) * (a * (m + 1)) := by grind
  rw [e1, e2]
  omega
/-- All pulses go to the one place. -/
theorem itr_one {a : List Int} {n p : Nat} (hp : p < n) (h1 : 1 ≤ a.getD p 0) (h0 : ∀ j, j ≠ p → a.getD j 0 = 0) (m : Nat) : itr a n m = one n p m := by
  induction m with
  | zero =>
    show (tab n fun _ => 0) = _
    exact tab_congr fun i _ => by split <;> rfl
  | succ m ih =>
    have hd := dts_one a n p m n hp
    have hn := nrs_one n p m n hp
    rw [if_pos hp] at hd hn
    have hmm : (0 : Int) ≤ (m : Int) * m := Int.mul_nonneg (by omega) (by omega)
    have hb : bs a (one n p m) n (n - 1) = p := by
      refine bs_only (fun i hi => ?_) (by omega) p hp fun j hj hne => ?_
      · unfold nI
        rw [hn]
        by_cases e : i = p
        · subst e; rw [one_at n i _ hp]; omega
        · rw [one_off n p _ i e]; omega
      · unfold bt dI nI
        rw [hd, hn, one_at n p _ hp, one_off n p _ j hne, h0 j hne]
        exact bt_one _ _ h1 (by omega)
    have e : itr a n (m + 1) = inc (itr a n m) (bs a (itr a n m) n (n - 1)) := rfl
    rw [e, ih, hb]
    unfold inc
    rw [one_at n p _ hp]
    unfold one
    rw [tab_set _ _ _ _ hp]
    exact tab_congr fun i _ => by
      by_cases c : i = p
      · rw [if_pos c, if_pos c]; omega
      · rw [if_neg c, if_neg c, if_neg c]
theorem szs_one (n p : Nat) (v : Int) (hp : p < n) (h0 : v ≠ 0) (h1 : -1048576 ≤ v) (h2 : v ≤ 1048576) : 1 ≤ (szs (one n p v)).getD p 0 ∧ ∀ j, j ≠ p → (szs (one n p v)).getD j 0 = 0 := by
  have hm : mx (one n p v) n = v.natAbs := by
    have l := mx_le (one n p v) v.natAbs (fun j => by
      by_cases e : j = p
      · subst e; rw [one_at n j v hp]; omega
      · rw [one_off n p v j e]; simp) n
    have g := mx_at (one n p v) p n hp
    rw [one_at n p v hp] at g
    omega
  unfold szs
  rw [one_len, hm]
  refine ⟨?_, fun j hj => ?_⟩
  · rw [tab_at _ _ p hp]
    unfold szf dn
    rw [one_at n p v hp]
    generalize hN : v.natAbs = N
    have : 1 ≤ N := by omega
    split
    · simp; omega
    · split
      · simp; omega
      · split
        · simp; omega
        · simp; omega
  · by_cases hjn : j < n
    · rw [tab_at _ _ j hjn]
      unfold szf
      rw [one_off n p v j hj]
      simp
    · rw [tab_out _ _ j hjn]
/-- As many as v says, with its sign. -/
def sk (v : Int) (k : Nat) : Int := if v < 0 then -(k : Int) else k
theorem fnd_one (n p : Nat) (v : Int) (k : Nat) (hp : p < n) (h0 : v ≠ 0) (h1 : -1048576 ≤ v) (h2 : v ≤ 1048576) : fnd (one n p v) k = one n p (sk v k) := by
  obtain ⟨a1, a2⟩ := szs_one n p v hp h0 h1 h2
  have e := itr_one hp a1 a2 k
  unfold fnd
  rw [one_len, e]
  show _ = tab n fun i => if i = p then sk v k else 0
  refine tab_congr fun i _ => ?_
  unfold sgn
  by_cases c : i = p
  · subst c; rw [one_at n i v hp, one_at n i _ hp, if_pos rfl]; rfl
  · rw [one_off n p v i c, one_off n p _ i c, if_neg c]; rfl
theorem root_one (k : Nat) : Root (65536 * (k * k)) (256 * k) := by
  have e : 256 * k * (256 * k) = 65536 * (k * k) := by grind
  have e2 : (256 * k + 1) * (256 * k + 1) = 256 * k * (256 * k) + 512 * k + 1 := by grind
  exact ⟨by omega, by omega⟩
theorem near_one (c s : Int) (hs : 1 ≤ s) : near (c * s) s = c := by
  unfold near
  rw [Int.mul_tmod_left, Int.mul_tdiv_cancel _ (by omega)]
  simp
/-- The shape of pulses at one place. -/
theorem shape_one (n p : Nat) (v : Int) (k : Nat) (hp : p < n) (hk : 1 ≤ k) : tab n (shf (one n p (sk v k)) (if v < 0 then -v else v) (256 * k)) = one n p v := by
  show _ = tab n fun i => if i = p then v else 0
  refine tab_congr fun i _ => ?_
  unfold shf
  by_cases c : i = p
  · subst c
    rw [one_at n i _ hp, if_pos rfl]
    have e : sk v k * (if v < 0 then -v else v) * 256 = v * ((256 * k : Nat) : Int) := by
      unfold sk
      split <;> grind
    rw [e, near_one _ _ (by omega)]
  · rw [one_off n p _ i c, if_neg c]
    simp [near_zero]
end Go.Proofs.Ytiiiejhdeooabaa
