/- Numbers that are nowhere greater in size: plain. -/
import Derived.Test.YtpmpdikabdaagaaIg
namespace Go.Proofs.Ytpmpdikabdaagaa
open Go.RowKit
set_option linter.unusedVariables false
set_option linter.unusedSimpArgs false

/-- The other list's number, where it is no greater in size; else this one's size. -/
def rsf (x l : List Int) (j : Nat) : Int := if j < l.length ∧ -((x.getD j 0).natAbs : Int) ≤ l.getD j 0 ∧ l.getD j 0 ≤ ((x.getD j 0).natAbs : Int) then l.getD j 0 else ((x.getD j 0).natAbs : Int)
theorem rsf_yes {x l : List Int} {j : Nat} (h1 : j < l.length) (h2 : -((x.getD j 0).natAbs : Int) ≤ l.getD j 0) (h3 : l.getD j 0 ≤ ((x.getD j 0).natAbs : Int)) : rsf x l j = l.getD j 0 := by unfold rsf; rw [if_pos ⟨h1, h2, h3⟩]
theorem rsf_no {x l : List Int} {j : Nat} (h : ¬ (j < l.length ∧ -((x.getD j 0).natAbs : Int) ≤ l.getD j 0 ∧ l.getD j 0 ≤ ((x.getD j 0).natAbs : Int))) : rsf x l j = ((x.getD j 0).natAbs : Int) := by unfold rsf; rw [if_neg h]
theorem rsf_abs (x l : List Int) (j : Nat) : (rsf x l j).natAbs ≤ (x.getD j 0).natAbs := by
  unfold rsf
  split
  · omega
  · omega
theorem rs_gain {x : List Int} (l : List Int) (hx : fairX x = true) : fairX (tab x.length (rsf x l)) = true ∧ gn (tab x.length (rsf x l)) ≤ gn x := by
  obtain ⟨h1, h2, h3⟩ := fairX_parts hx
  refine ⟨fairX_true (by rw [tab_len]; omega) (by rw [tab_len]; omega) fun i hi => ?_, ?_⟩
  · rw [tab_len] at hi
    rw [tab_at _ _ _ hi]
    have := rsf_abs x l i
    have := h3 i
    omega
  · unfold gn
    rw [tab_len]
    refine bit_mono (sq_ext _ fun i hi => ?_) (sq_lt64 hx)
    rw [tab_at _ _ _ hi]
    exact rsf_abs x l i
/-- Where the first bands end. -/
def ed (b : Nat) : Nat := if b = 5 then 16 else fr b
theorem ed_next {c : List Int} (h16 : c.length = 16) {b : Nat} (h : b < 5) : ed b + (bnd c b).length = ed (b + 1) ∧ c.take (ed b) ++ bnd c b = c.take (ed (b + 1)) := by
  have hl := bnd_len h16 h
  have hj := bnd_join c b
  obtain ⟨_, _, _, _, h5⟩ := band_in h
  have e1 : ed b = fr b := by unfold ed; rw [if_neg (by omega)]
  have e2 : ed (b + 1) = fr b + wd b := by
    rw [h5]
    unfold ed
    by_cases h4 : b = 4
    · subst h4; rfl
    · rw [if_neg (by omega), if_neg h4]
  rw [e1, e2, hl]
  exact ⟨rfl, hj⟩
theorem ed_le {b : Nat} (h : b ≤ 5) : ed b ≤ 16 := by
  unfold ed
  split
  · omega
  · have := band_in (b := b) (by omega)
    omega
end Go.Proofs.Ytpmpdikabdaagaa
