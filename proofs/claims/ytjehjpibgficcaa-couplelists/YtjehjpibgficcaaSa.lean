/- Pairs coupled and parted, and lists of them: on plain numbers. Nothing of the program is used. -/
import Derived.Test.YtjehjpibgficcaaFs
namespace Go.Proofs.Ytjehjpibgficcaa
open Go.RowKit
set_option linter.unusedVariables false
set_option linter.unusedSimpArgs false

/-- A number without its sign. -/
def sz (n : Int) : Int := if n < 0 then -n else n
/-- Both are within a bound. -/
def frB (x y M : Int) : Bool := decide ((-M ≤ x ∧ x ≤ M) ∧ -M ≤ y ∧ y ≤ M)
def cM (l r : Int) : Int := if sz r < sz l then l else r
def cA (l r : Int) : Int := if sz r < sz l then (if 0 < l then l - r else r - l) else if 0 < r then l - r else r - l
def pL (m a : Int) : Int := if 0 < m then (if 0 < a then m else m + a) else if 0 < a then m else m - a
def pR (m a : Int) : Int := if 0 < m then (if 0 < a then m - a else m) else if 0 < a then m + a else m
theorem frB_iff {x y M : Int} : frB x y M = true ↔ (-M ≤ x ∧ x ≤ M) ∧ -M ≤ y ∧ y ≤ M := by unfold frB; rw [decide_eq_true_eq]
theorem frB_mono {x y M N : Int} (h : frB x y M = true) (hm : M ≤ N) : frB x y N = true := by rw [frB_iff] at *; omega
/-- What is coupled, parted again. -/
theorem part_couple (l r : Int) : pL (cM l r) (cA l r) = l ∧ pR (cM l r) (cA l r) = r := by
  unfold pL pR cM cA sz
  constructor <;> (repeat' split) <;> omega
/-- Sizes. -/
theorem couple_sizes (l r : Int) : (cM l r = l ∨ cM l r = r) ∧ sz l ≤ sz (cM l r) ∧ sz r ≤ sz (cM l r) ∧ cA l r ≤ sz l + sz r ∧ -(sz l) - sz r ≤ cA l r ∧ (l = r → cA l r = 0) := by
  unfold cM cA sz
  refine ⟨?_, ?_, ?_, ?_, ?_, fun h => ?_⟩ <;> (repeat' split) <;> omega
theorem couple_fair {l r : Int} (h : frB l r 1099511627776 = true) : frB (cM l r) (cA l r) 4398046511104 = true := by
  rw [frB_iff] at *
  unfold cM cA sz
  refine ⟨⟨?_, ?_⟩, ?_, ?_⟩ <;> (repeat' split) <;> omega
/-- What turns pairs, with its bound: what is told first, second, and the error. -/
structure Way where
  M : Int
  F : Int → Int → Int
  G : Int → Int → Int
def Way.ok (t : Way) (x y : Int) : Bool := frB x y t.M
def Way.x (t : Way) (x y : Int) : Int := if t.ok x y = true then t.F x y else 0
def Way.y (t : Way) (x y : Int) : Int := if t.ok x y = true then t.G x y else 0
def Way.e (t : Way) (x y : Int) : Int := if t.ok x y = true then 0 else 1
def cWay : Way := ⟨1099511627776, cM, cA⟩
def pWay : Way := ⟨4398046511104, pL, pR⟩
/-- The first k pairs are all fair. -/
def Way.upto (t : Way) (x y : List Int) (k : Nat) : Bool := (List.range k).all fun i => t.ok (x.getD i 0) (y.getD i 0)
theorem Way.upto_succ (t : Way) (x y : List Int) (k : Nat) : t.upto x y (k + 1) = (t.upto x y k && t.ok (x.getD k 0) (y.getD k 0)) := by
  unfold Way.upto; rw [List.range_succ, List.all_append]; simp
theorem Way.upto_at {t : Way} {x y : List Int} {k i : Nat} (h : t.upto x y k = true) (hi : i < k) : t.ok (x.getD i 0) (y.getD i 0) = true := by
  unfold Way.upto at h
  rw [List.all_eq_true] at h
  exact h i (List.mem_range.2 hi)
theorem Way.upto_not {t : Way} {x y : List Int} {k i : Nat} (hi : i < k) (h : t.ok (x.getD i 0) (y.getD i 0) = false) : t.upto x y k = false := by
  cases e : t.upto x y k
  · rfl
  · rw [t.upto_at e hi] at h; cases h
/-- Both lists are as long, and all pairs are fair. -/
def Way.all (t : Way) (x y : List Int) : Bool := decide (x.length = y.length) && t.upto x y x.length
def Way.xs (t : Way) (x y : List Int) : List Int := tab x.length fun i => t.F (x.getD i 0) (y.getD i 0)
def Way.ys (t : Way) (x y : List Int) : List Int := tab x.length fun i => t.G (x.getD i 0) (y.getD i 0)
theorem Way.all_parts {t : Way} {x y : List Int} (h : t.all x y = true) : x.length = y.length ∧ t.upto x y x.length = true := by
  unfold Way.all at h
  rw [Bool.and_eq_true, decide_eq_true_eq] at h
  exact h
/-- What stands in the first list that is made, behind k rounds. -/
def Way.xk (t : Way) (x y : List Int) (k : Nat) : List Int := tab x.length fun i => if i < k then t.F (x.getD i 0) (y.getD i 0) else 0
def Way.yk (t : Way) (x y : List Int) (k : Nat) : List Int := tab x.length fun i => if i < k then t.G (x.getD i 0) (y.getD i 0) else 0
theorem Way.xk_zero (t : Way) (x y : List Int) : (tab x.length fun _ => 0) = t.xk x y 0 := tab_congr fun j hj => by rw [if_neg (by omega)]
theorem Way.yk_zero (t : Way) (x y : List Int) : (tab x.length fun _ => 0) = t.yk x y 0 := tab_congr fun j hj => by rw [if_neg (by omega)]
theorem Way.xk_all (t : Way) (x y : List Int) : t.xk x y x.length = t.xs x y := tab_congr fun j hj => by rw [if_pos (by omega)]
theorem Way.yk_all (t : Way) (x y : List Int) : t.yk x y x.length = t.ys x y := tab_congr fun j hj => by rw [if_pos (by omega)]
theorem Way.xk_next (t : Way) (x y : List Int) (k : Nat) (h : k < x.length) : (t.xk x y k).set k (t.F (x.getD k 0) (y.getD k 0)) = t.xk x y (k + 1) := by
  unfold Way.xk
  rw [tab_set _ _ _ _ h]
  refine tab_congr fun j hj => ?_
  by_cases e : j = k
  · subst e; rw [if_pos rfl, if_pos (by omega)]
  · rw [if_neg e]
    by_cases c : j < k
    · rw [if_pos c, if_pos (by omega)]
    · rw [if_neg c, if_neg (by omega)]
theorem Way.yk_next (t : Way) (x y : List Int) (k : Nat) (h : k < x.length) : (t.yk x y k).set k (t.G (x.getD k 0) (y.getD k 0)) = t.yk x y (k + 1) := by
  unfold Way.yk
  rw [tab_set _ _ _ _ h]
  refine tab_congr fun j hj => ?_
  by_cases e : j = k
  · subst e; rw [if_pos rfl, if_pos (by omega)]
  · rw [if_neg e]
    by_cases c : j < k
    · rw [if_pos c, if_pos (by omega)]
    · rw [if_neg c, if_neg (by omega)]
theorem Way.xk_len (t : Way) (x y : List Int) (k : Nat) : (t.xk x y k).length = x.length := tab_len _ _
theorem Way.yk_len (t : Way) (x y : List Int) (k : Nat) : (t.yk x y k).length = x.length := tab_len _ _
/-- The first k pairs, turned. -/
def Way.fk (t : Way) (x y : List Int) (k : Nat) : List Int := tab k fun i => t.F (x.getD i 0) (y.getD i 0)
def Way.gk (t : Way) (x y : List Int) (k : Nat) : List Int := tab k fun i => t.G (x.getD i 0) (y.getD i 0)
theorem Way.fk_push (t : Way) (x y : List Int) (k : Nat) : t.fk x y (k + 1) = t.fk x y k ++ [t.F (x.getD k 0) (y.getD k 0)] := tab_push _ _
theorem Way.gk_push (t : Way) (x y : List Int) (k : Nat) : t.gk x y (k + 1) = t.gk x y k ++ [t.G (x.getD k 0) (y.getD k 0)] := tab_push _ _
/-- Lists that are coupled, and parted. -/
theorem lists_back {x y : List Int} (h : cWay.all x y = true) : pWay.all (cWay.xs x y) (cWay.ys x y) = true ∧ pWay.xs (cWay.xs x y) (cWay.ys x y) = x ∧ pWay.ys (cWay.xs x y) (cWay.ys x y) = y := by
  obtain ⟨hl, hu⟩ := cWay.all_parts h
  have l1 : (cWay.xs x y).length = x.length := tab_len _ _
  have l2 : (cWay.ys x y).length = x.length := tab_len _ _
  have e1 : ∀ i, i < x.length → (cWay.xs x y).getD i 0 = cM (x.getD i 0) (y.getD i 0) := fun i hi => tab_at _ _ _ hi
  have e2 : ∀ i, i < x.length → (cWay.ys x y).getD i 0 = cA (x.getD i 0) (y.getD i 0) := fun i hi => tab_at _ _ _ hi
  refine ⟨?_, ?_, ?_⟩
  · unfold Way.all
    rw [l1, l2, decide_eq_true rfl, Bool.true_and]
    unfold Way.upto
    rw [List.all_eq_true]
    intro i hi
    have hi := List.mem_range.1 hi
    show frB _ _ _ = true
    rw [e1 i hi, e2 i hi]
    exact couple_fair (cWay.upto_at hu hi)
  · refine (tab_eq l1.symm fun i hi => ?_).symm
    rw [l1] at hi
    show _ = pL _ _
    rw [e1 i hi, e2 i hi, (part_couple _ _).1]
  · refine (tab_eq (l1.trans hl).symm fun i hi => ?_).symm
    rw [l1] at hi
    show _ = pR _ _
    rw [e1 i hi, e2 i hi, (part_couple _ _).2]
end Go.Proofs.Ytjehjpibgficcaa
