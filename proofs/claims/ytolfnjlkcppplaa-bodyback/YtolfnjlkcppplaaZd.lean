/- Bodies and their bits, and what is read of bytes: plain. No function of the program is named. -/
import Derived.Test.YtolfnjlkcppplaaZc
import Derived.Deep.DeepCutAuto
import Derived.Deep.CutRange
import Derived.Deep.RegionHeld3
import Derived.BigQuiet
import Derived.Deep.AppendLies
namespace Go.Proofs.Ytolfnjlkcppplaa
open Go.RowKit
set_option linter.unusedVariables false
set_option linter.unusedSimpArgs false

/-- A number of so many bits (number, how many), with one more number of n bits behind it. -/
def pu (E : Nat × Nat) (v n : Nat) : Nat × Nat := (E.1 + v % 2 ^ n * 2 ^ E.2, E.2 + n)
def Ok2 (E : Nat × Nat) : Prop := E.1 < 2 ^ E.2
theorem Ok2.start : Ok2 (0, 0) := by unfold Ok2; decide
theorem Ok2.pu {E : Nat × Nat} (h : Ok2 E) (v n : Nat) : Ok2 (pu E v n) := joined_lt _ _ _ _ h (Nat.mod_lt _ (Nat.two_pow_pos n))
/-- V begins with the bits of E. -/
def Pre (E : Nat × Nat) (V : Nat) : Prop := V % 2 ^ E.2 = E.1
theorem join_parts {a b x c M : Nat} (ha : a < M) (hx : x < M) (h : a + b * M = x + c * M) : a = x ∧ b = c := by
  have h1 : (a + b * M) % M = a := by rw [Nat.add_mul_mod_self_right, Nat.mod_eq_of_lt ha]
  have h2 : (x + c * M) % M = x := by rw [Nat.add_mul_mod_self_right, Nat.mod_eq_of_lt hx]
  have e : a = x := by rw [← h1, h, h2]
  subst e
  have hM : 0 < M := by omega
  exact ⟨rfl, Nat.eq_of_mul_eq_mul_right hM (Nat.add_left_cancel h)⟩
theorem Pre.back {E : Nat × Nat} {v n V : Nat} (hE : Ok2 E) (h : Pre (pu E v n) V) : Pre E V ∧ fld V E.2 n = v % 2 ^ n := by
  have h1 : V % 2 ^ (E.2 + n) = E.1 + v % 2 ^ n * 2 ^ E.2 := h
  rw [mod_fld] at h1
  exact join_parts (Nat.mod_lt _ (Nat.two_pow_pos _)) hE h1
theorem Pre.all {E : Nat × Nat} (hE : Ok2 E) : Pre E E.1 := Nat.mod_eq_of_lt hE

/-- How many bits a symbol has. -/
def sl (l : List Int) (s : Int) : Nat := (l.getD s.toNat 0).toNat
def puS (l : List Int) (E : Nat × Nat) (s : Int) : Nat × Nat := pu E (rvb (cd l s.toNat) (sl l s) (sl l s)) (sl l s)
theorem puS_eq (l : List Int) (E : Nat × Nat) (s : Int) : puS l E s = (E.1 + rvb (cd l s.toNat) (sl l s) (sl l s) * 2 ^ E.2, E.2 + sl l s) := by
  unfold puS pu; rw [Nat.mod_eq_of_lt (rvb_lt _ _ _)]
theorem puS_len (l : List Int) (E : Nat × Nat) (s : Int) : (puS l E s).2 = E.2 + sl l s := rfl
theorem Ok2.puS {E : Nat × Nat} (h : Ok2 E) (l : List Int) (s : Int) : Ok2 (puS l E s) := h.pu _ _
/-- A symbol of a book that is used. -/
def Sy (l : List Int) (s : Int) : Prop := 0 ≤ s ∧ s < l.length ∧ 0 < l.getD s.toNat 0
instance (l : List Int) (s : Int) : Decidable (Sy l s) := by unfold Sy; exact inferInstance

/-- What is read: where reading stands, what, the error. -/
def tkB (V T p n : Nat) : Nat × Nat × Int := if p + n ≤ T then (p + n, fld V p n, 0) else (p, 0, 4)
def tkS (l : List Int) (V T p : Nat) : Nat × Int × Int := match findS l V T p with | some s => (p + (l.getD s 0).toNat, (s : Int), 0) | none => (p, 0, rdE l V T p)
theorem fld_mod (V N p n : Nat) (h : p + n ≤ N) : fld (V % 2 ^ N) p n = fld V p n := by
  have := fld_low (V % 2 ^ N) (V / 2 ^ N) N p n h
  rw [Nat.mul_comm, Nat.mod_add_div] at this
  exact this.symm
theorem tkS_of {l : List Int} {V T : Nat} {E : Nat × Nat} {s : Int} (hr : rightL l = true) (hE : Ok2 E) (hs : Sy l s) (hV : Pre (puS l E s) V) (hT : (puS l E s).2 ≤ T) : tkS l V T E.2 = ((puS l E s).2, s, 0) := by
  obtain ⟨h0, h1, h2⟩ := hs
  obtain ⟨n, rfl⟩ := Int.eq_ofNat_of_zero_le h0
  rw [Int.toNat_natCast] at h2
  have hsl : sl l (n : Int) = (l.getD n 0).toNat := by unfold sl; rw [Int.toNat_natCast]
  have hmt : Mt l V T E.2 n := by
    refine ⟨by omega, h2, ?_, ?_⟩
    · rw [← hsl]; exact hT
    · have h3 : V % 2 ^ (E.2 + sl l (n : Int)) = E.1 + rvb (cd l n) (sl l (n : Int)) (sl l (n : Int)) * 2 ^ E.2 := by
        have := hV
        unfold Pre at this
        rw [puS_eq, Int.toNat_natCast] at this
        exact this
      rw [← hsl]
      have h4 := hv_written E.1 (cd l n) (sl l (n : Int)) E.2 hE (by rw [hsl]; exact cd_pow_right hr n (by omega) h2)
      rw [← h3] at h4
      rw [← h4]
      refine hv_same _ _ _ _ fun i hi => ?_
      have := fld_mod V (E.2 + sl l (n : Int)) (E.2 + i) 1 (by omega)
      unfold fld at this
      rw [Nat.pow_one] at this
      exact this.symm
  unfold tkS
  rw [find_some hmt]
  show (E.2 + (l.getD n 0).toNat, (n : Int), (0 : Int)) = _
  rw [puS_len, hsl]
theorem tkS_ok {l : List Int} {V T p : Nat} (h : (tkS l V T p).2.2 = 0) : Sy l (tkS l V T p).2.1 ∧ (tkS l V T p).1 = p + sl l (tkS l V T p).2.1 ∧ (tkS l V T p).1 ≤ T := by
  unfold tkS at *
  cases hf : findS l V T p with
  | some s =>
    obtain ⟨a1, a2, a3, a4⟩ := of_find hf
    exact ⟨⟨by show (0 : Int) ≤ s; omega, by show (s : Int) < l.length; omega, by show 0 < l.getD (s : Int).toNat 0; rw [Int.toNat_natCast]; exact a2⟩, by show p + (l.getD s 0).toNat = p + sl l (s : Int); unfold sl; rw [Int.toNat_natCast], a3⟩
  | none =>
    rw [hf] at h
    exfalso
    have h : rdE l V T p = 0 := h
    unfold rdE at h
    rw [hf] at h
    simp only at h
    split at h <;> omega
theorem tkS_rd (l : List Int) (V T p : Nat) : rdS l V T p = (tkS l V T p).2.1 ∧ rdE l V T p = (tkS l V T p).2.2 := by
  unfold tkS rdS
  cases hf : findS l V T p with
  | some s => exact ⟨rfl, by unfold rdE; rw [hf]⟩
  | none => exact ⟨rfl, rfl⟩

/-- Reading again and again; it ends at the first error. -/
def st (f : Nat → Nat × Int × Int) (p0 : Nat) : Nat → Nat × List Int × Int
  | 0 => (p0, [], 0)
  | k + 1 => if (st f p0 k).2.2 ≠ 0 then st f p0 k else if (f (st f p0 k).1).2.2 ≠ 0 then ((st f p0 k).1, (st f p0 k).2.1, (f (st f p0 k).1).2.2) else ((f (st f p0 k).1).1, (st f p0 k).2.1 ++ [(f (st f p0 k).1).2.1], 0)
theorem st_go {f : Nat → Nat × Int × Int} {p0 k p : Nat} {l : List Int} (h : st f p0 k = (p, l, 0)) (he : (f p).2.2 = 0) : st f p0 (k + 1) = ((f p).1, l ++ [(f p).2.1], 0) := by
  show (if (st f p0 k).2.2 ≠ 0 then _ else _) = _
  rw [h, if_neg (by simp), if_neg (by simpa using he)]
theorem st_no {f : Nat → Nat × Int × Int} {p0 k p : Nat} {l : List Int} (h : st f p0 k = (p, l, 0)) (he : (f p).2.2 ≠ 0) : st f p0 (k + 1) = (p, l, (f p).2.2) := by
  show (if (st f p0 k).2.2 ≠ 0 then _ else _) = _
  rw [h, if_neg (by simp), if_pos (by simpa using he)]
theorem st_stay {f : Nat → Nat × Int × Int} {p0 k : Nat} (he : (st f p0 k).2.2 ≠ 0) (d : Nat) : st f p0 (k + d) = st f p0 k := by
  induction d with
  | zero => rfl
  | succ d ih =>
    show (if (st f p0 (k + d)).2.2 ≠ 0 then _ else _) = _
    rw [ih, if_pos he]
    exact ih
theorem st_end {f : Nat → Nat × Int × Int} {p0 k n p : Nat} {l : List Int} (h : st f p0 k = (p, l, 0)) (he : (f p).2.2 ≠ 0) (hk : k < n) : st f p0 n = (p, l, (f p).2.2) := by
  obtain ⟨d, rfl⟩ : ∃ d, n = k + 1 + d := ⟨n - k - 1, by omega⟩
  rw [st_stay (by rw [st_no h he]; exact he), st_no h he]
/-- The same, of lists. -/
def stL (g : Nat → Nat → Nat × List Int × Int) (p0 : Nat) : Nat → Nat × List (List Int) × Int
  | 0 => (p0, [], 0)
  | k + 1 => if (stL g p0 k).2.2 ≠ 0 then stL g p0 k else if (g k (stL g p0 k).1).2.2 ≠ 0 then ((stL g p0 k).1, (stL g p0 k).2.1, (g k (stL g p0 k).1).2.2) else ((g k (stL g p0 k).1).1, (stL g p0 k).2.1 ++ [(g k (stL g p0 k).1).2.1], 0)
theorem stL_go {g : Nat → Nat → Nat × List Int × Int} {p0 k p : Nat} {l : List (List Int)} (h : stL g p0 k = (p, l, 0)) (he : (g k p).2.2 = 0) : stL g p0 (k + 1) = ((g k p).1, l ++ [(g k p).2.1], 0) := by
  show (if (stL g p0 k).2.2 ≠ 0 then _ else _) = _
  rw [h, if_neg (by simp), if_neg (by simpa using he)]
theorem stL_no {g : Nat → Nat → Nat × List Int × Int} {p0 k p : Nat} {l : List (List Int)} (h : stL g p0 k = (p, l, 0)) (he : (g k p).2.2 ≠ 0) : stL g p0 (k + 1) = (p, l, (g k p).2.2) := by
  show (if (stL g p0 k).2.2 ≠ 0 then _ else _) = _
  rw [h, if_neg (by simp), if_pos (by simpa using he)]
theorem stL_stay {g : Nat → Nat → Nat × List Int × Int} {p0 k : Nat} (he : (stL g p0 k).2.2 ≠ 0) (d : Nat) : stL g p0 (k + d) = stL g p0 k := by
  induction d with
  | zero => rfl
  | succ d ih =>
    show (if (stL g p0 (k + d)).2.2 ≠ 0 then _ else _) = _
    rw [ih, if_pos he]
    exact ih
theorem stL_end {g : Nat → Nat → Nat × List Int × Int} {p0 k n p : Nat} {l : List (List Int)} (h : stL g p0 k = (p, l, 0)) (he : (g k p).2.2 ≠ 0) (hk : k < n) : stL g p0 n = (p, l, (g k p).2.2) := by
  obtain ⟨d, rfl⟩ : ∃ d, n = k + 1 + d := ⟨n - k - 1, by omega⟩
  rw [stL_stay (by rw [stL_no h he]; exact he), stL_no h he]

/-- A residue, read. -/
def tkV (R : List Int) (V T p : Nat) : Nat × Int × Int :=
  if (tkS R V T p).2.2 ≠ 0 then ((tkS R V T p).1, 0, (tkS R V T p).2.2)
  else if (tkS R V T p).2.1 ≠ 15 then ((tkS R V T p).1, (tkS R V T p).2.1 - 7, 0)
  else if (tkS R V T p).1 + 1 ≤ T then
    (if (tkS R V T p).1 + 23 ≤ T then
      (if fld V (tkS R V T p).1 1 = 1 then (if fld V ((tkS R V T p).1 + 1) 22 = 0 then ((tkS R V T p).1 + 23, 0, 2) else ((tkS R V T p).1 + 23, -((fld V ((tkS R V T p).1 + 1) 22 : Nat) : Int), 0))
       else ((tkS R V T p).1 + 23, ((fld V ((tkS R V T p).1 + 1) 22 : Nat) : Int), 0))
    else ((tkS R V T p).1 + 1, 0, 4))
  else ((tkS R V T p).1, 0, 4)
/-- A channel's posts, read. -/
def tkC (F : List Int) (V T p : Nat) : Nat × List Int × Int :=
  if p + 1 ≤ T then (if fld V p 1 = 1 then st (tkS F V T) (p + 1) 6 else (p + 1, [], 0)) else (p, [], 4)
/-- A channel's residues, read. -/
def tkR (R : List Int) (V T : Nat) (P : List (List Int)) (i p : Nat) : Nat × List Int × Int :=
  if (P.getD i []).length = 0 then (p, [], 0) else st (tkV R V T) p 16
def tkP (F : List Int) (V T c : Nat) : Nat × List (List Int) × Int := stL (fun _ p => tkC F V T p) 0 c
def tkZ (F R : List Int) (V T c : Nat) : Nat × List (List Int) × Int := stL (tkR R V T (tkP F V T c).2.1) (tkP F V T c).1 c
/-- The error of a whole body. -/
def tkE (F R : List Int) (V T c : Nat) : Int :=
  if (tkP F V T c).2.2 ≠ 0 then (tkP F V T c).2.2
  else if (tkZ F R V T c).2.2 ≠ 0 then (tkZ F R V T c).2.2
  else if 8 ≤ T - (tkZ F R V T c).1 then 2
  else if V / 2 ^ (tkZ F R V T c).1 ≠ 0 then 2 else 0
end Go.Proofs.Ytolfnjlkcppplaa
/- Bodies, written and read again: plain. -/
namespace Go.Proofs.Ytolfnjlkcppplaa
open Go.RowKit
set_option linter.unusedVariables false
set_option linter.unusedSimpArgs false

/-- Which residues have a symbol of their own. -/
def shR (R : List Int) (v : Int) : Bool := decide (-7 ≤ v ∧ v ≤ 7 ∧ 0 < R.getD (v + 7).toNat 0)
def puV (R : List Int) (E : Nat × Nat) (v : Int) : Nat × Nat := if shR R v = true then puS R E (v + 7) else pu (pu (puS R E 15) (if v < 0 then 1 else 0) 1) v.natAbs 22
def puX (F : List Int) (E : Nat × Nat) (x : List Int) : Nat × Nat := if x.length = 0 then pu E 0 1 else x.foldl (puS F) (pu E 1 1)
def puW (R : List Int) (E : Nat × Nat) (z : List Int) : Nat × Nat := z.foldl (puV R) E
def puP (F : List Int) (P : List (List Int)) : Nat × Nat := P.foldl (puX F) (0, 0)
def puZ (F R : List Int) (P Z : List (List Int)) : Nat × Nat := Z.foldl (puW R) (puP F P)

/-- Steps that put bits behind those that are there. -/
structure Grows {α : Type} (f : Nat × Nat → α → Nat × Nat) : Prop where
  ok : ∀ E a, Ok2 E → Ok2 (f E a)
  le : ∀ E a, E.2 ≤ (f E a).2
  pre : ∀ E a V, Ok2 E → Pre (f E a) V → Pre E V
theorem Grows.fold {α : Type} {f : Nat × Nat → α → Nat × Nat} (h : Grows f) : Grows (fun E (l : List α) => l.foldl f E) := by
  refine ⟨?_, ?_, ?_⟩
  · intro E l
    induction l generalizing E with
    | nil => exact fun h => h
    | cons a l ih => exact fun hE => ih (f E a) (h.ok E a hE)
  · intro E l
    induction l generalizing E with
    | nil => exact Nat.le_refl _
    | cons a l ih => exact Nat.le_trans (h.le E a) (ih (f E a))
  · intro E l V
    induction l generalizing E with
    | nil => exact fun _ h => h
    | cons a l ih => exact fun hE hV => h.pre E a V hE (ih (f E a) (h.ok E a hE) hV)
theorem grows_pu (v n : Nat) : Grows (fun E (_ : Unit) => pu E v n) := ⟨fun E _ h => h.pu v n, fun E _ => Nat.le_add_right _ _, fun E _ V hE h => (Pre.back hE h).1⟩
theorem grows_puS (l : List Int) : Grows (puS l) := ⟨fun E s h => h.puS l s, fun E s => Nat.le_add_right _ _, fun E s V hE h => (Pre.back hE h).1⟩
theorem grows_puV (R : List Int) : Grows (puV R) := by
  refine ⟨?_, ?_, ?_⟩
  · intro E v h
    unfold puV; split
    · exact h.puS R _
    · exact ((h.puS R 15).pu _ 1).pu _ 22
  · intro E v
    unfold puV; split
    · exact Nat.le_add_right _ _
    · show E.2 ≤ E.2 + sl R 15 + 1 + 22; omega
  · intro E v V hE
    unfold puV; split
    · exact fun h => (Pre.back hE h).1
    · exact fun h => (Pre.back hE (Pre.back (hE.puS R 15) (Pre.back ((hE.puS R 15).pu _ 1) h).1).1).1
theorem grows_puX (F : List Int) : Grows (puX F) := by
  have hf := (grows_puS F).fold
  refine ⟨?_, ?_, ?_⟩
  · intro E x h
    unfold puX; split
    · exact h.pu 0 1
    · exact hf.ok _ x (h.pu 1 1)
  · intro E x
    unfold puX; split
    · exact Nat.le_add_right _ _
    · exact Nat.le_trans (Nat.le_add_right E.2 1) (hf.le (pu E 1 1) x)
  · intro E x V hE
    unfold puX; split
    · exact fun h => (Pre.back hE h).1
    · exact fun h => (Pre.back hE (hf.pre _ x V (hE.pu 1 1) h)).1
theorem grows_puW (R : List Int) : Grows (puW R) := (grows_puV R).fold
theorem ok_puP (F : List Int) (P : List (List Int)) : Ok2 (puP F P) := (grows_puX F).fold.ok _ P Ok2.start
theorem ok_puZ (F R : List Int) (P Z : List (List Int)) : Ok2 (puZ F R P Z) := (grows_puW R).fold.ok _ Z (ok_puP F P)

theorem take_step {α : Type} (l : List α) (k : Nat) (d : α) (h : k < l.length) : l.take (k + 1) = l.take k ++ [l.getD k d] := by
  rw [List.take_add_one]; simp [h]
theorem fold_step {α : Type} (f : Nat × Nat → α → Nat × Nat) (E : Nat × Nat) (l : List α) (k : Nat) (d : α) (h : k < l.length) : (l.take (k + 1)).foldl f E = f ((l.take k).foldl f E) (l.getD k d) := by
  rw [take_step l k d h, List.foldl_append]; rfl
theorem fold_rest {α : Type} (f : Nat × Nat → α → Nat × Nat) (E : Nat × Nat) (l : List α) (k : Nat) : l.foldl f E = (l.drop k).foldl f ((l.take k).foldl f E) := by
  rw [← List.foldl_append, List.take_append_drop]
theorem Grows.part {α : Type} {f : Nat × Nat → α → Nat × Nat} (hf : Grows f) {E : Nat × Nat} (l : List α) (k : Nat) (hE : Ok2 E) : Ok2 ((l.take k).foldl f E) ∧ ((l.take k).foldl f E).2 ≤ (l.foldl f E).2 ∧ ∀ V, Pre (l.foldl f E) V → Pre ((l.take k).foldl f E) V := by
  have h1 := hf.fold.ok E (l.take k) hE
  refine ⟨h1, ?_, ?_⟩
  · rw [fold_rest f E l k]; exact hf.fold.le _ _
  · intro V hV
    rw [fold_rest f E l k] at hV
    exact hf.fold.pre _ _ V h1 hV
theorem st_back {f : Nat × Nat → Int → Nat × Nat} {g : Nat → Nat × Int × Int} (hf : Grows f) (x : List Int) (E : Nat × Nat) (V : Nat) (hE : Ok2 E) (hV : Pre (x.foldl f E) V)
    (hstep : ∀ E' a, a ∈ x → Ok2 E' → Pre (f E' a) V → (f E' a).2 ≤ (x.foldl f E).2 → g E'.2 = ((f E' a).2, a, 0)) (k : Nat) (hk : k ≤ x.length) : st g E.2 k = (((x.take k).foldl f E).2, x.take k, 0) := by
  induction k with
  | zero => rfl
  | succ k ih =>
    have h1 := fold_step f E x k 0 (by omega)
    obtain ⟨p1, p2, p3⟩ := hf.part x k hE
    obtain ⟨q1, q2, q3⟩ := hf.part x (k + 1) hE
    rw [h1] at q2 q3
    have hx : x.getD k 0 ∈ x := by
      rw [List.getD_eq_getElem?_getD, List.getElem?_eq_getElem (by omega : k < x.length)]
      exact List.getElem_mem _
    have hg := hstep _ _ hx p1 (q3 V hV) q2
    have := st_go (ih (by omega)) (by rw [hg])
    rw [this, hg, h1, take_step x k 0 (by omega)]
theorem stL_back {f : Nat × Nat → List Int → Nat × Nat} {g : Nat → Nat → Nat × List Int × Int} (hf : Grows f) (x : List (List Int)) (E : Nat × Nat) (V : Nat) (hE : Ok2 E) (hV : Pre (x.foldl f E) V)
    (hstep : ∀ E' i, i < x.length → Ok2 E' → Pre (f E' (x.getD i [])) V → (f E' (x.getD i [])).2 ≤ (x.foldl f E).2 → g i E'.2 = ((f E' (x.getD i [])).2, x.getD i [], 0)) (k : Nat) (hk : k ≤ x.length) : stL g E.2 k = (((x.take k).foldl f E).2, x.take k, 0) := by
  induction k with
  | zero => rfl
  | succ k ih =>
    have h1 := fold_step f E x k [] (by omega)
    obtain ⟨p1, p2, p3⟩ := hf.part x k hE
    obtain ⟨q1, q2, q3⟩ := hf.part x (k + 1) hE
    rw [h1] at q2 q3
    have hg := hstep _ k (by omega) p1 (q3 V hV) q2
    have := stL_go (ih (by omega)) (by rw [hg])
    rw [this, hg, h1, take_step x k [] (by omega)]

/-- A channel that may be. -/
def ChOk (F x z : List Int) : Prop := (x.length = 0 ∧ z.length = 0) ∨ (flOk x = true ∧ (∀ j, j < 6 → 0 < F.getD (x.getD j 0).toNat 0) ∧ z.length = 16 ∧ Bd (-4194303) 4194303 z)
structure Bk (F R : List Int) : Prop where
  f : rightL F = true
  r : rightL R = true
  lf : F.length = 45
  lr : R.length = 16
  r15 : 0 < R.getD 15 0
theorem bk_of {c q : Int} {F R : List Int} (h : vhRight c q F R = true) : Bk F R := by
  obtain ⟨h1, h2, h3, h4, h5, h6, h7, h8, h9⟩ := vhRight_parts h
  exact ⟨h7, h8, h5, h6, h9⟩
theorem Bk.y15 {F R : List Int} (h : Bk F R) : Sy R 15 := ⟨by omega, by rw [h.lr]; omega, h.r15⟩
theorem Bk.sh {F R : List Int} (h : Bk F R) {v : Int} (hs : shR R v = true) : Sy R (v + 7) ∧ -7 ≤ v ∧ v ≤ 7 := by
  unfold shR at hs
  rw [decide_eq_true_eq] at hs
  exact ⟨⟨by omega, by rw [h.lr]; omega, hs.2.2⟩, hs.1, hs.2.1⟩
structure BoOk (n : Nat) (F R : List Int) (P Z : List (List Int)) : Prop where
  lp : P.length = n
  lz : Z.length = n
  ch : ∀ i, i < n → ChOk F (P.getD i []) (Z.getD i [])
theorem mem_at {l : List Int} {a : Int} (h : a ∈ l) : ∃ j, j < l.length ∧ l.getD j 0 = a := by
  obtain ⟨j, hj, e⟩ := List.mem_iff_getElem.1 h
  exact ⟨j, hj, by rw [List.getD_eq_getElem?_getD, List.getElem?_eq_getElem hj]; exact e⟩
theorem tkV_of {F R : List Int} (hk : Bk F R) {V T : Nat} {E : Nat × Nat} {v : Int} (hE : Ok2 E) (h0 : -4194303 ≤ v) (h1 : v ≤ 4194303) (hV : Pre (puV R E v) V) (hT : (puV R E v).2 ≤ T) : tkV R V T E.2 = ((puV R E v).2, v, 0) := by
  unfold puV at *
  by_cases hs : shR R v = true
  · rw [if_pos hs] at *
    obtain ⟨hy, b0, b1⟩ := hk.sh hs
    have h := tkS_of hk.r hE hy hV hT
    unfold tkV
    rw [h]
    show (if (0 : Int) ≠ 0 then _ else if v + 7 ≠ 15 then ((puS R E (v + 7)).2, v + 7 - 7, (0 : Int)) else _) = _
    rw [if_neg (by simp), if_pos (by omega), show v + 7 - 7 = v by omega]
  · rw [if_neg hs] at *
    have hE1 := hE.puS R 15
    generalize hsg : (if v < 0 then 1 else 0 : Nat) = sg at *
    obtain ⟨q1, q2⟩ := Pre.back (hE1.pu sg 1) hV
    obtain ⟨r1, r2⟩ := Pre.back hE1 q1
    have hT1 : (puS R E 15).2 + 23 ≤ T := hT
    have h := tkS_of (T := T) hk.r hE hk.y15 r1 (by omega)
    have e22 : (2 : Nat) ^ 22 = 4194304 := by decide
    rw [e22, Nat.mod_eq_of_lt (by omega)] at q2
    have hsg1 : sg = 0 ∨ sg = 1 := by rw [← hsg]; split <;> simp
    rw [Nat.pow_one, Nat.mod_eq_of_lt (by omega)] at r2
    have q3 : fld V ((puS R E 15).2 + 1) 22 = v.natAbs := q2
    unfold tkV
    rw [h]
    show (if (0 : Int) ≠ 0 then _ else if (15 : Int) ≠ 15 then _ else if (puS R E 15).2 + 1 ≤ T then (if (puS R E 15).2 + 23 ≤ T then (if fld V (puS R E 15).2 1 = 1 then (if fld V ((puS R E 15).2 + 1) 22 = 0 then _ else ((puS R E 15).2 + 23, -((fld V ((puS R E 15).2 + 1) 22 : Nat) : Int), (0 : Int))) else ((puS R E 15).2 + 23, ((fld V ((puS R E 15).2 + 1) 22 : Nat) : Int), (0 : Int))) else _) else _) = ((puS R E 15).2 + 23, v, (0 : Int))
    rw [if_neg (by simp), if_neg (by simp), if_pos (by omega), if_pos hT1, r2, q3]
    by_cases hv : v < 0
    · rw [if_pos hv] at hsg
      subst hsg
      rw [if_pos rfl, if_neg (by omega), show -(v.natAbs : Int) = v by omega]
    · rw [if_neg hv] at hsg
      subst hsg
      rw [if_neg (by omega), show ((v.natAbs : Nat) : Int) = v by omega]
theorem tkC_of {F R : List Int} (hk : Bk F R) {V T : Nat} {E : Nat × Nat} {x z : List Int} (hE : Ok2 E) (hc : ChOk F x z) (hV : Pre (puX F E x) V) (hT : (puX F E x).2 ≤ T) : tkC F V T E.2 = ((puX F E x).2, x, 0) := by
  unfold puX at *
  rcases hc with ⟨h0, _⟩ | ⟨hx, hF, _, _⟩
  · rw [if_pos h0] at *
    have hT1 : E.2 + 1 ≤ T := hT
    have q := (Pre.back hE hV).2
    rw [Nat.zero_mod] at q
    unfold tkC
    rw [if_pos hT1, q, if_neg (by omega), List.eq_nil_of_length_eq_zero h0]
    rfl
  · obtain ⟨h6, hb⟩ := flOk_parts hx
    rw [if_neg (by omega)] at *
    have hf := (grows_puS F).fold
    have hE1 := hE.pu 1 1
    have hT1 : E.2 + 1 ≤ T := Nat.le_trans (hf.le (pu E 1 1) x) hT
    have q := (Pre.back hE (hf.pre _ x V hE1 hV)).2
    rw [show (1 : Nat) % 2 ^ 1 = 1 from rfl] at q
    have h := st_back (g := tkS F V T) (grows_puS F) x (pu E 1 1) V hE1 hV (fun E' a ha hE' hp hl => by
      obtain ⟨j, hj, rfl⟩ := mem_at ha
      have := flOk_at hx j
      exact tkS_of hk.f hE' ⟨this.1, by rw [hk.lf]; omega, hF j (by omega)⟩ hp (Nat.le_trans hl hT)) 6 (by omega)
    rw [← h6, List.take_length] at h
    unfold tkC
    rw [if_pos hT1, q, if_pos rfl, ← h6]
    exact h
theorem tkR_of {F R : List Int} (hk : Bk F R) {V T : Nat} {E : Nat × Nat} {P : List (List Int)} {i : Nat} {z : List Int} (hE : Ok2 E) (hc : ChOk F (P.getD i []) z) (hV : Pre (puW R E z) V) (hT : (puW R E z).2 ≤ T) : tkR R V T P i E.2 = ((puW R E z).2, z, 0) := by
  unfold tkR
  rcases hc with ⟨h0, hz⟩ | ⟨hx, _, h16, hb⟩
  · rw [if_pos h0, List.eq_nil_of_length_eq_zero hz]; rfl
  · have h6 := (flOk_parts hx).1
    rw [if_neg (by omega)]
    have h := st_back (g := tkV R V T) (grows_puV R) z E V hE hV (fun E' a ha hE' hp hl => by
      obtain ⟨j, hj, rfl⟩ := mem_at ha
      have := hb j hj
      exact tkV_of hk hE' this.1 this.2 hp (Nat.le_trans hl hT)) 16 (by omega)
    rw [← h16, List.take_length] at h
    rw [← h16]
    exact h
theorem tkP_of {F R : List Int} (hk : Bk F R) {n V T : Nat} {P Z : List (List Int)} (h : BoOk n F R P Z) (hV : Pre (puZ F R P Z) V) (hT : (puZ F R P Z).2 ≤ T) : tkP F V T n = ((puP F P).2, P, 0) ∧ tkZ F R V T n = ((puZ F R P Z).2, Z, 0) := by
  have hw := (grows_puW R).fold
  have hV1 := hw.pre _ Z V (ok_puP F P) hV
  have hT1 : (puP F P).2 ≤ T := Nat.le_trans (hw.le (puP F P) Z) hT
  have h1 : tkP F V T n = ((puP F P).2, P, 0) := by
    have := stL_back (g := fun _ p => tkC F V T p) (grows_puX F) P (0, 0) V Ok2.start hV1 (fun E' i hi hE' hp hl => tkC_of hk hE' (h.ch i (by rw [← h.lp]; exact hi)) hp (Nat.le_trans hl hT1)) n (by rw [h.lp]; exact Nat.le_refl _)
    rw [← h.lp, List.take_length] at this
    rw [← h.lp]
    exact this
  refine ⟨h1, ?_⟩
  unfold tkZ
  rw [h1]
  have := stL_back (g := tkR R V T P) (grows_puW R) Z (puP F P) V (ok_puP F P) hV (fun E' i hi hE' hp hl => tkR_of hk hE' (h.ch i (by rw [← h.lz]; exact hi)) hp (Nat.le_trans hl hT)) n (by rw [h.lz]; exact Nat.le_refl _)
  rw [← h.lz, List.take_length] at this
  rw [← h.lz]
  exact this
end Go.Proofs.Ytolfnjlkcppplaa
/- What is read is a body that may be, and takes no more bits when it is written; how many bits a body has; a whole body read: plain. -/
namespace Go.Proofs.Ytolfnjlkcppplaa
open Go.RowKit
set_option linter.unusedVariables false
set_option linter.unusedSimpArgs false

theorem sl_le {l : List Int} (hr : rightL l = true) (s : Int) : sl l s ≤ 16 := by
  have := inB_at (right_parts hr).2.2.1 s.toNat
  unfold sl; omega
/-- What was read k times. -/
theorem st_inv {f : Nat × Nat → Int → Nat × Nat} {g : Nat → Nat × Int × Int} {Q : Int → Prop} {T : Nat} (hg : ∀ p, (g p).2.2 = 0 → Q (g p).2.1 ∧ (g p).1 ≤ T ∧ ∀ E : Nat × Nat, (f E (g p).2.1).2 + p ≤ E.2 + (g p).1) (p0 k p : Nat) (l : List Int) (hp : p0 ≤ T) (h : st g p0 k = (p, l, 0)) :
    l.length = k ∧ p ≤ T ∧ (∀ j, j < k → Q (l.getD j 0)) ∧ ∀ E : Nat × Nat, (l.foldl f E).2 + p0 ≤ E.2 + p := by
  induction k generalizing p l with
  | zero =>
    simp only [st, Prod.mk.injEq] at h
    obtain ⟨rfl, rfl, _⟩ := h
    exact ⟨rfl, hp, fun j hj => by omega, fun E => Nat.le_refl _⟩
  | succ k ih =>
    obtain ⟨q, l1, e1, hq⟩ : ∃ q l1 e1, st g p0 k = (q, l1, e1) := ⟨_, _, _, rfl⟩
    by_cases he1 : e1 = 0
    · subst he1
      obtain ⟨i1, i2, i3, i4⟩ := ih q l1 hq
      by_cases he2 : (g q).2.2 = 0
      · rw [st_go hq he2] at h
        simp only [Prod.mk.injEq, and_true] at h
        obtain ⟨rfl, rfl⟩ := h
        obtain ⟨g1, g2, g3⟩ := hg q he2
        refine ⟨by simp [i1], g2, fun j hj => ?_, fun E => ?_⟩
        · by_cases e : j < k
          · rw [getD_app_l _ _ _ (by omega)]; exact i3 j e
          · rw [getD_app_r _ _ _ (by omega), show j - l1.length = 0 by omega]; exact g1
        · rw [List.foldl_append]
          have := i4 E
          have := g3 (l1.foldl f E)
          show (f (l1.foldl f E) (g q).2.1).2 + p0 ≤ _
          omega
      · rw [st_no hq he2] at h
        simp only [Prod.mk.injEq] at h
        exact absurd h.2.2 he2
    · have : st g p0 (k + 1) = st g p0 k := st_stay (by rw [hq]; exact he1) 1
      rw [this, hq] at h
      simp only [Prod.mk.injEq] at h
      exact absurd h.2.2 he1
theorem stL_inv {f : Nat × Nat → List Int → Nat × Nat} {g : Nat → Nat → Nat × List Int × Int} {Q : Nat → List Int → Prop} {T n : Nat} (hg : ∀ i p, i < n → p ≤ T → (g i p).2.2 = 0 → Q i (g i p).2.1 ∧ (g i p).1 ≤ T ∧ ∀ E : Nat × Nat, (f E (g i p).2.1).2 + p ≤ E.2 + (g i p).1) (p0 k p : Nat) (hkn : k ≤ n) (l : List (List Int)) (hp : p0 ≤ T) (h : stL g p0 k = (p, l, 0)) :
    l.length = k ∧ p ≤ T ∧ (∀ j, j < k → Q j (l.getD j [])) ∧ ∀ E : Nat × Nat, (l.foldl f E).2 + p0 ≤ E.2 + p := by
  induction k generalizing p l with
  | zero =>
    simp only [stL, Prod.mk.injEq] at h
    obtain ⟨rfl, rfl, _⟩ := h
    exact ⟨rfl, hp, fun j hj => by omega, fun E => Nat.le_refl _⟩
  | succ k ih =>
    obtain ⟨q, l1, e1, hq⟩ : ∃ q l1 e1, stL g p0 k = (q, l1, e1) := ⟨_, _, _, rfl⟩
    by_cases he1 : e1 = 0
    · subst he1
      obtain ⟨i1, i2, i3, i4⟩ := ih q (by omega) l1 hq
      by_cases he2 : (g k q).2.2 = 0
      · rw [stL_go hq he2] at h
        simp only [Prod.mk.injEq, and_true] at h
        obtain ⟨rfl, rfl⟩ := h
        obtain ⟨g1, g2, g3⟩ := hg k q (by omega) i2 he2
        refine ⟨by simp [i1], g2, fun j hj => ?_, fun E => ?_⟩
        · by_cases e : j < k
          · have := i3 j e
            rw [List.getD_eq_getElem?_getD, List.getElem?_append_left (by omega), ← List.getD_eq_getElem?_getD]; exact this
          · obtain rfl : j = k := by omega
            rw [List.getD_eq_getElem?_getD, List.getElem?_append_right (by omega), i1, Nat.sub_self]; exact g1
        · rw [List.foldl_append]
          have := i4 E
          have := g3 (l1.foldl f E)
          show (f (l1.foldl f E) (g k q).2.1).2 + p0 ≤ _
          omega
      · rw [stL_no hq he2] at h
        simp only [Prod.mk.injEq] at h
        exact absurd h.2.2 he2
    · have : stL g p0 (k + 1) = stL g p0 k := stL_stay (by rw [hq]; exact he1) 1
      rw [this, hq] at h
      simp only [Prod.mk.injEq] at h
      exact absurd h.2.2 he1
theorem tkS_inv (l : List Int) (V T p : Nat) (h : (tkS l V T p).2.2 = 0) : Sy l (tkS l V T p).2.1 ∧ (tkS l V T p).1 ≤ T ∧ ∀ E : Nat × Nat, (puS l E (tkS l V T p).2.1).2 + p ≤ E.2 + (tkS l V T p).1 := by
  obtain ⟨h1, h2, h3⟩ := tkS_ok h
  refine ⟨h1, h3, fun E => ?_⟩
  rw [puS_len, h2]; omega
theorem tkV_inv {F R : List Int} (hk : Bk F R) (V T p : Nat) (h : (tkV R V T p).2.2 = 0) : (-4194303 ≤ (tkV R V T p).2.1 ∧ (tkV R V T p).2.1 ≤ 4194303) ∧ (tkV R V T p).1 ≤ T ∧ ∀ E : Nat × Nat, (puV R E (tkV R V T p).2.1).2 + p ≤ E.2 + (tkV R V T p).1 := by
  unfold tkV at h ⊢
  by_cases c1 : (tkS R V T p).2.2 ≠ 0
  · rw [if_pos c1] at h; exact absurd h c1
  · rw [if_neg c1] at h ⊢
    obtain ⟨s1, s2, s3⟩ := tkS_ok (Classical.not_not.1 c1)
    by_cases c2 : (tkS R V T p).2.1 ≠ 15
    · rw [if_pos c2] at h ⊢
      generalize (tkS R V T p).2.1 = s at *
      have hs : 0 ≤ s ∧ s ≤ 14 := by have := s1.1; have := s1.2.1; rw [hk.lr] at this; omega
      refine ⟨⟨by show -4194303 ≤ s - 7; omega, by show s - 7 ≤ 4194303; omega⟩, s3, fun E => ?_⟩
      show (puV R E (s - 7)).2 + p ≤ _
      have hsh : shR R (s - 7) = true := by
        unfold shR
        rw [decide_eq_true_eq, show s - 7 + 7 = s by omega]
        exact ⟨by omega, by omega, s1.2.2⟩
      unfold puV
      rw [if_pos hsh, show s - 7 + 7 = s by omega, puS_len]
      omega
    · rw [if_neg c2] at h ⊢
      have c2' : (tkS R V T p).2.1 = 15 := Classical.not_not.1 c2
      rw [c2'] at s2
      generalize (tkS R V T p).1 = q at *
      by_cases c3 : q + 1 ≤ T
      · rw [if_pos c3] at h ⊢
        by_cases c4 : q + 23 ≤ T
        · rw [if_pos c4] at h ⊢
          have key : ∀ (v : Int) (E : Nat × Nat), -4194303 ≤ v → v ≤ 4194303 → (puV R E v).2 + p ≤ E.2 + (q + 23) := fun v E h0 h1 => by
            unfold puV
            split
            · rw [puS_len]; have := sl_le hk.r (v + 7); omega
            · show E.2 + sl R 15 + 1 + 22 + p ≤ _; omega
          have hf : fld V (q + 1) 22 < 4194304 := fld_lt V (q + 1) 22
          by_cases c5 : fld V q 1 = 1
          · rw [if_pos c5] at h ⊢
            by_cases c6 : fld V (q + 1) 22 = 0
            · rw [if_pos c6] at h; simp at h
            · rw [if_neg c6] at h ⊢
              refine ⟨⟨?_, ?_⟩, c4, fun E => key _ E ?_ ?_⟩
              all_goals show (_ : Int) ≤ _
              all_goals simp only
              all_goals omega
          · rw [if_neg c5] at h ⊢
            refine ⟨⟨?_, ?_⟩, c4, fun E => key _ E ?_ ?_⟩
            all_goals show (_ : Int) ≤ _
            all_goals simp only
            all_goals omega
        · rw [if_neg c4] at h; simp at h
      · rw [if_neg c3] at h; simp at h
theorem tkC_inv {F R : List Int} (hk : Bk F R) (V T p : Nat) (h : (tkC F V T p).2.2 = 0) :
    ((tkC F V T p).2.1.length = 0 ∨ (flOk (tkC F V T p).2.1 = true ∧ ∀ j, j < 6 → 0 < F.getD ((tkC F V T p).2.1.getD j 0).toNat 0)) ∧ (tkC F V T p).1 ≤ T ∧ ∀ E : Nat × Nat, (puX F E (tkC F V T p).2.1).2 + p ≤ E.2 + (tkC F V T p).1 := by
  unfold tkC at h ⊢
  by_cases c1 : p + 1 ≤ T
  · rw [if_pos c1] at h ⊢
    by_cases c2 : fld V p 1 = 1
    · rw [if_pos c2] at h ⊢
      obtain ⟨q, l, e, hq⟩ : ∃ q l e, st (tkS F V T) (p + 1) 6 = (q, l, e) := ⟨_, _, _, rfl⟩
      rw [hq] at h ⊢
      obtain rfl : e = 0 := h
      obtain ⟨i1, i2, i3, i4⟩ := st_inv (f := puS F) (Q := Sy F) (tkS_inv F V T) (p + 1) 6 q l c1 hq
      refine ⟨.inr ⟨flOk_of i1 fun j hj => ?_, fun j hj => (i3 j hj).2.2⟩, i2, fun E => ?_⟩
      · have := i3 j (by rw [← i1]; exact hj)
        have h1 := this.1
        have h2 := this.2.1
        rw [hk.lf] at h2
        show 0 ≤ l.getD j 0 ∧ l.getD j 0 ≤ 44
        omega
      · show (puX F E l).2 + p ≤ _
        unfold puX
        rw [if_neg (by omega)]
        have := i4 (pu E 1 1)
        have e1 : (pu E 1 1).2 = E.2 + 1 := rfl
        show _ ≤ E.2 + q
        omega
    · rw [if_neg c2] at h ⊢
      refine ⟨.inl rfl, c1, fun E => ?_⟩
      show E.2 + 1 + p ≤ E.2 + (p + 1); omega
  · rw [if_neg c1] at h; simp at h
theorem tk_any {F R : List Int} (hk : Bk F R) {V T n p q : Nat} {P Z : List (List Int)} (h1 : tkP F V T n = (p, P, 0)) (h2 : tkZ F R V T n = (q, Z, 0)) : BoOk n F R P Z ∧ q ≤ T ∧ (puZ F R P Z).2 ≤ q := by
  obtain ⟨i1, i2, i3, i4⟩ := stL_inv (f := puX F) (Q := fun _ x => x.length = 0 ∨ (flOk x = true ∧ ∀ j, j < 6 → 0 < F.getD (x.getD j 0).toNat 0)) (n := n) (T := T) (fun i p _ _ h => tkC_inv hk V T p h) 0 n p (Nat.le_refl _) P (Nat.zero_le _) h1
  unfold tkZ at h2
  rw [h1] at h2
  obtain ⟨j1, j2, j3, j4⟩ := stL_inv (f := puW R) (Q := fun i z => ChOk F (P.getD i []) z) (n := n) (T := T) (fun i p' hi hp' h => by
    have hP := i3 i hi
    unfold tkR at h ⊢
    by_cases c : (P.getD i []).length = 0
    · rw [if_pos c] at h ⊢
      exact ⟨.inl ⟨c, rfl⟩, hp', fun E => Nat.le_refl _⟩
    · rw [if_neg c] at h ⊢
      obtain ⟨q', l, e, hq⟩ : ∃ q l e, st (tkV R V T) p' 16 = (q, l, e) := ⟨_, _, _, rfl⟩
      rw [hq] at h ⊢
      obtain rfl : e = 0 := h
      obtain ⟨k1, k2, k3, k4⟩ := st_inv (f := puV R) (Q := fun v => -4194303 ≤ v ∧ v ≤ 4194303) (tkV_inv hk V T) p' 16 q' l hp' hq
      have hP := hP.resolve_left c
      exact ⟨.inr ⟨hP.1, hP.2, k1, fun j hj => k3 j (by rw [← k1]; exact hj)⟩, k2, k4⟩) p n q (Nat.le_refl _) Z i2 h2
  refine ⟨⟨i1, j1, j3⟩, j2, ?_⟩
  have a1 := i4 (0, 0)
  have a2 := j4 (puP F P)
  show (Z.foldl (puW R) (puP F P)).2 ≤ q
  have a3 : (puP F P).2 ≤ p := by
    show (P.foldl (puX F) (0, 0)).2 ≤ p
    have : ((0, 0) : Nat × Nat).2 = 0 := rfl
    omega
  omega
/-- How many bits a body has. -/
theorem fold_len {α : Type} (f : Nat × Nat → α → Nat × Nat) (c : Nat) (l : List α) (h : ∀ E a, a ∈ l → (f E a).2 ≤ E.2 + c) (E : Nat × Nat) : (l.foldl f E).2 ≤ E.2 + c * l.length := by
  induction l generalizing E with
  | nil => simp
  | cons a l ih =>
    have h1 := h E a (by simp)
    have h2 := ih (fun E b hb => h E b (by simp [hb])) (f E a)
    show (l.foldl f (f E a)).2 ≤ _
    rw [List.length_cons, Nat.mul_succ]
    omega
theorem bo_len {n : Nat} {F R : List Int} {P Z : List (List Int)} (hk : Bk F R) (h : BoOk n F R P Z) : (puZ F R P Z).2 ≤ 97 * n + 624 * n ∧ (1 ≤ n → 1 ≤ (puZ F R P Z).2) := by
  have hx : ∀ E x, x ∈ P → (puX F E x).2 ≤ E.2 + 97 := fun E x hx => by
    obtain ⟨i, hi, e⟩ := List.mem_iff_getElem.1 hx
    have hc := h.ch i (by rw [← h.lp]; exact hi)
    rw [List.getD_eq_getElem?_getD, List.getElem?_eq_getElem hi] at hc
    simp only [Option.getD_some] at hc
    rw [e] at hc
    unfold puX
    split
    · show E.2 + 1 ≤ _; omega
    · have h6 : x.length = 6 := by
        rcases hc with h0 | h0
        · omega
        · exact (flOk_parts h0.1).1
      have := fold_len (puS F) 16 x (fun E a _ => by rw [puS_len]; have := sl_le hk.f a; omega) (pu E 1 1)
      have e1 : (pu E 1 1).2 = E.2 + 1 := rfl
      omega
  have hz : ∀ E z, z ∈ Z → (puW R E z).2 ≤ E.2 + 624 := fun E z hz => by
    obtain ⟨i, hi, e⟩ := List.mem_iff_getElem.1 hz
    have hc := h.ch i (by rw [← h.lz]; exact hi)
    rw [show Z.getD i [] = z by rw [List.getD_eq_getElem?_getD, List.getElem?_eq_getElem hi]; exact e] at hc
    have hl : z.length ≤ 16 := by rcases hc with h0 | h0; exact Nat.le_trans (Nat.le_of_eq h0.2) (by omega); exact Nat.le_of_eq h0.2.2.1
    have := fold_len (puV R) 39 z (fun E a _ => by
      unfold puV
      split
      · rw [puS_len]; have := sl_le hk.r (a + 7); omega
      · show E.2 + sl R 15 + 1 + 22 ≤ _; have := sl_le hk.r 15; omega) E
    show (z.foldl (puV R) E).2 ≤ _
    omega
  have a1 := fold_len (puX F) 97 P hx (0, 0)
  have a2 := fold_len (puW R) 624 Z hz (puP F P)
  have e0 : ((0, 0) : Nat × Nat).2 = 0 := rfl
  rw [h.lp] at a1
  rw [h.lz] at a2
  refine ⟨?_, fun hn => ?_⟩
  · show (Z.foldl (puW R) (puP F P)).2 ≤ _
    have a3 : (puP F P).2 ≤ 0 + 97 * n := a1
    omega
  · have g1 := (grows_puW R).fold.le (puP F P) Z
    have g2 : 1 ≤ (puP F P).2 := by
      cases hP : P with
      | nil => have := h.lp; rw [hP] at this; simp at this; omega
      | cons x P' =>
        have g3 := (grows_puX F).fold.le (puX F (0, 0) x) P'
        have g4 : 1 ≤ (puX F (0, 0) x).2 := by
          unfold puX
          split
          · exact Nat.le_refl _
          · exact (grows_puS F).fold.le (pu (0, 0) 1 1) x
        exact Nat.le_trans g4 g3
    exact Nat.le_trans g2 g1
/-- Its bytes. -/
def boX (F R : List Int) (P Z : List (List Int)) : List Int := byL (puZ F R P Z).1 (((puZ F R P Z).2 + 7) / 8)
theorem boX_len (F R : List Int) (P Z : List (List Int)) : (boX F R P Z).length = ((puZ F R P Z).2 + 7) / 8 := byL_length _ _
theorem boX_bv (F R : List Int) (P Z : List (List Int)) : bv (boX F R P Z) = (puZ F R P Z).1 := by
  unfold boX
  rw [byL_bv, pow256]
  exact Nat.mod_eq_of_lt (pow_up _ _ (by omega) _ (ok_puZ F R P Z))
/-- What is read of a body's own bytes. -/
theorem bo_back {n : Nat} {F R : List Int} {P Z : List (List Int)} (hk : Bk F R) (h : BoOk n F R P Z) :
    tkP F (bv (boX F R P Z)) (8 * (boX F R P Z).length) n = ((puP F P).2, P, 0) ∧ tkZ F R (bv (boX F R P Z)) (8 * (boX F R P Z).length) n = ((puZ F R P Z).2, Z, 0) ∧ tkE F R (bv (boX F R P Z)) (8 * (boX F R P Z).length) n = 0 := by
  rw [boX_bv, boX_len]
  obtain ⟨h1, h2⟩ := tkP_of (T := 8 * (((puZ F R P Z).2 + 7) / 8)) hk h (Pre.all (ok_puZ F R P Z)) (by omega)
  refine ⟨h1, h2, ?_⟩
  unfold tkE
  rw [h1, h2, if_neg (by simp), if_neg (by simp), if_neg (by show ¬ 8 ≤ _ - (puZ F R P Z).2; omega), Nat.div_eq_of_lt (ok_puZ F R P Z), if_neg (by simp)]
end Go.Proofs.Ytolfnjlkcppplaa
/- Contracts of the document's: the bits of a number, a symbol, some bits, a residue. -/
namespace Go.Proofs.Ytolfnjlkcppplaa
open Go.RowKit
set_option linter.unusedVariables false
set_option linter.unusedSimpArgs false
set_option maxRecDepth 10000

set_option maxHeartbeats 1000000 in
theorem low_any (V m : Nat) (hV : V < 2 ^ 62) (hm : m ≤ 64) (w : World) : Calls Try.prog 30 #[.int .i64 V, .int .i64 m] w fun e w' => ∃ v, e = .returned v ∧ w'.ownsRow w.heap.size 3 1 v m ((bl V m).map (Value.int .i64)) ∧ Below w.heap.size w w' := by
  obtain ⟨i0, hi, hz0, hz1, hz2⟩ := info_parts info3
  go_enter Try.func30, Try.ntmps30
  go_wp2
  go_loopw [0, 5, 6] (fun n v i wr => ∃ (q : Nat) (y : Int), q ≤ m ∧ i = .int .i64 q ∧ n = .int .i64 y ∧ 0 ≤ y ∧ y < 4611686018427387904 ∧ Hid (y = ((V / 2 ^ q : Nat) : Int)) ∧ wr.ownsRow w.heap.size 3 1 v q ((bl V q).map (Value.int .i64)) ∧ Below w.heap.size w wr) (fun _ _ i _ => m - (intOf i).toNat)
  case atStart => exact ⟨0, V, by omega, rfl, rfl, by omega, by omega, by unfold Hid; simp, World.ownsRow_nil _ _ _ _, Below.refl _ _⟩
  case round =>
    obtain ⟨q, y, hq, rfl, rfl, hy0, hy1, HY, hown, hnx⟩ := hrel
    by_cases hlt : q < m
    · have HD : Hid (y % 2 = bitAt V q) := by
        unfold Hid bitAt; rw [HY.out]; omega
      have HN : Hid (y / 2 = ((V / 2 ^ (q + 1) : Nat) : Int)) := by
        unfold Hid; rw [HY.out, Nat.pow_succ, ← Nat.div_div_eq_div_mul]; omega
      go_wp2_with (at_builtin; refine wpList_append_own _ rfl _ _ 22 rfl w.heap.size 3 i0 (.int .i64 0) 1 8 Try.underlying22 hi hz0 hz1 hz2 rfl (by decide) _ _ _ rfl (hown.alloc _) ⟨wr.heap.size, 0, none⟩ 1 1 [.int .i64 (y % 2)] rfl rfl (cell_one_at rfl _ _) (one_cell _ _) ?c3 ?c4 ?c5 ?_)
      case c3 => unfold maxLen; omega
      case c4 => omega
      case c5 => have := hnx.size; simp; omega
      intro v' w2 hown' hgrow _
      have hb2 := bgrow hnx hown (Nat.le_refl _) hgrow
      have hown3 : w2.ownsRow w.heap.size 3 1 v' (q + 1) ((bl V (q + 1)).map (Value.int .i64)) := by
        rw [bl_succ, List.map_append]
        have e : List.map (Value.int .i64) [bitAt V q] = [Value.int .i64 (y % 2)] := by rw [← HD.out]; rfl
        rw [e]
        exact hown'
      clear hown' hown hgrow
      go_wp2
      exact ⟨⟨q + 1, y / 2, by omega, by go_num, rfl, by omega, by omega, HN, hown3, hb2⟩, by simp [intOf]; omega⟩
    · obtain rfl : q = m := by omega
      clear hlt
      go_wp2
      go_ret
      exact ⟨_, rfl, hown, hnx⟩
theorem tkS_K (l : List Int) (V T p : Nat) (hr : rightL l = true) : (p : Int) + rdK l V T p = ((tkS l V T p).1 : Nat) ∧ 0 ≤ rdK l V T p ∧ rdK l V T p ≤ 16 := by
  unfold tkS rdK
  cases hf : findS l V T p with
  | some s =>
    have := inB_at (right_parts hr).2.2.1 s
    refine ⟨?_, this⟩
    show (p : Int) + l.getD s 0 = ((p + (l.getD s 0).toNat : Nat) : Int)
    omega
  | none => exact ⟨by simp, by simp, by simp⟩
theorem B2.set {w : World} {b : Nat} {x0 x1 : Value} (h : B2 w b x0 x1) (y0 y1 : Value) : B2 ((w.setCell ⟨b, 0, none⟩ y0).setCell ⟨b, 1, none⟩ y1) b y0 y1 := (h.set0 y0).set1 y1
set_option maxHeartbeats 2000000 in
theorem symbol_any (v vl : Value) (xs l : List Int) (p : Nat) (e0 : Int) (w : World) (hv : Rw .u8 w v xs) (hvl : Rw .i64 w vl l) (hx : Byts xs) (hl : xs.length ≤ 100000) (hr : rightL l = true) (hp : p ≤ 1000000) :
    Calls Try.prog 36 #[v, .agg #[.int .i64 p, .int .i64 e0], vl] w fun e w' => e = .returned (.tuple #[.agg #[.int .i64 ((tkS l (bv xs) (8 * xs.length) p).1 : Nat), .int .i64 (tkS l (bv xs) (8 * xs.length) p).2.2], .int .i64 (tkS l (bv xs) (8 * xs.length) p).2.1]) ∧ Below w.heap.size w w' := by
  have hA := (B2.new w (.int .i64 p) (.int .i64 e0) 71).below (below1 _ (.cells #[.int .i64 0, .int .i64 0] 71))
  have hB := B2.new2 w (.cells #[.int .i64 p, .int .i64 e0] 71) (.int .i64 0) (.int .i64 0) 71
  have hW := below2 w (.cells #[.int .i64 p, .int .i64 e0] 71) (.cells #[.int .i64 0, .int .i64 0] 71)
  obtain ⟨a, cap, rfl, _⟩ := id hv
  have hrd := rread_ok (.slice a xs.length cap) vl xs l p _ hx hl (hv.below hW) (hvl.below hW) hr
  obtain ⟨r1, r2⟩ := tkS_rd l (bv xs) (8 * xs.length) p
  obtain ⟨r3, r4, r5⟩ := tkS_K l (bv xs) (8 * xs.length) p hr
  rw [r1, r2] at hrd
  have HP := hid r3
  clear hv hvl hx hr r1 r2 r3
  generalize rdK l (bv xs) (8 * xs.length) p = K at *
  generalize (tkS l (bv xs) (8 * xs.length) p).1 = P at *
  generalize (tkS l (bv xs) (8 * xs.length) p).2.1 = S at *
  generalize (tkS l (bv xs) (8 * xs.length) p).2.2 = E at *
  obtain ⟨z, c0, c1, f0, f1⟩ := id hA
  have hp2 : (p : Int) ≤ 1000000 := by omega
  go_enter Try.func36, Try.ntmps36
  go_wp2_with (go_at_call 56; refine hrd.mono ?_; rintro e y1 ⟨rfl, hy1⟩; have hA1 := hA.below hy1; have hB1 := hB.below hy1; obtain ⟨z', c0', c1', f0', f1'⟩ := id hA1; obtain ⟨z9, d0, d1, g0, g1⟩ := id hB1)
  obtain ⟨z8, k0, k1, q0, q1⟩ := hB1.set (.int .i64 (P : Nat)) (.int .i64 E)
  rw [HP.out]
  refine bodyPost_ret (v := .tuple #[.agg #[.int .i64 (P : Nat), .int .i64 E], .int .i64 S]) (by simp [results, Try.results36, go_sem, k0, k1, q0, q1]) rfl ⟨rfl, bset2' (bthen' hW hy1) (w.heap.size + 1) _ _ (by omega)⟩
theorem tkB_get (xs : List Int) (p n : Nat) (hn : n ≤ 32) : getV xs p n = ((tkB (bv xs) (8 * xs.length) p n).2.1 : Nat) ∧ getE xs p n = (tkB (bv xs) (8 * xs.length) p n).2.2 := by
  unfold getV getE tkB fld
  by_cases h : p + n ≤ 8 * xs.length
  · have hA : (0 : Int) ≤ n ∧ (n : Int) ≤ 32 ∧ (0 : Int) ≤ p ∧ (p : Int) + n ≤ 8 * xs.length := ⟨by omega, by omega, by omega, by omega⟩
    simp only [if_pos hA, if_pos (show (0 : Int) ≤ n ∧ (n : Int) ≤ 32 ∧ (0 : Int) ≤ p from ⟨hA.1, hA.2.1, hA.2.2.1⟩), if_pos hA.2.2.2, if_pos h]
    simp
  · have hA : ¬ ((0 : Int) ≤ n ∧ (n : Int) ≤ 32 ∧ (0 : Int) ≤ p ∧ (p : Int) + n ≤ 8 * xs.length) := fun k => h (by omega)
    have hB : ¬ ((p : Int) + n ≤ 8 * xs.length) := fun k => h (by omega)
    simp only [if_neg hA, if_pos (show (0 : Int) ≤ n ∧ (n : Int) ≤ 32 ∧ (0 : Int) ≤ p from ⟨by omega, by omega, by omega⟩), if_neg hB, if_neg h]
    simp
set_option maxHeartbeats 2000000 in
theorem some_any (v : Value) (xs : List Int) (p n : Nat) (e0 : Int) (w : World) (hv : Rw .u8 w v xs) (hx : Byts xs) (hl : xs.length ≤ 100000) (hn : n ≤ 32) (hp : p ≤ 1000000) :
    Calls Try.prog 35 #[v, .agg #[.int .i64 p, .int .i64 e0], .int .i64 n] w fun e w' => e = .returned (.tuple #[.agg #[.int .i64 ((tkB (bv xs) (8 * xs.length) p n).1 : Nat), .int .i64 (tkB (bv xs) (8 * xs.length) p n).2.2], .int .i64 ((tkB (bv xs) (8 * xs.length) p n).2.1 : Nat)]) ∧ Below w.heap.size w w' := by
  have hA := (B2.new w (.int .i64 p) (.int .i64 e0) 71).below (below1 _ (.cells #[.int .i64 0, .int .i64 0] 71))
  have hB := B2.new2 w (.cells #[.int .i64 p, .int .i64 e0] 71) (.int .i64 0) (.int .i64 0) 71
  have hW := below2 w (.cells #[.int .i64 p, .int .i64 e0] 71) (.cells #[.int .i64 0, .int .i64 0] 71)
  obtain ⟨a, cap, rfl, _⟩ := id hv
  have hrd := rget_any (.slice a xs.length cap) xs p n _ (hv.below hW) hx hl
  obtain ⟨r1, r2⟩ := tkB_get xs p n hn
  rw [r1, r2] at hrd
  have hp2 : (p : Int) ≤ 1000000 := by omega
  have hn2 : (n : Int) ≤ 32 := by omega
  obtain ⟨z, c0, c1, f0, f1⟩ := id hA
  clear hv hx r1 r2
  unfold tkB at hrd ⊢
  by_cases h : p + n ≤ 8 * xs.length
  · rw [if_pos h] at hrd ⊢
    have hlt : fld (bv xs) p n < 4294967296 := Nat.lt_of_lt_of_le (fld_lt _ p n) (Nat.pow_le_pow_right (n := 2) (by decide) hn)
    generalize fld (bv xs) p n = G at *
    show Calls _ _ _ _ fun e w' => e = .returned (.tuple #[.agg #[.int .i64 ((p + n : Nat) : Int), .int .i64 0], .int .i64 (G : Nat)]) ∧ _
    have hrd : Calls Try.prog 55 #[.slice a xs.length cap, .int .i64 p, .int .i64 n] _ fun e w' => e = .returned (.tuple #[.int .u64 (G : Nat), .int .i64 0]) ∧ _ := hrd
    obtain ⟨Z, hZ⟩ : ∃ Z : Int, (G : Int) = Z := ⟨_, rfl⟩
    rw [hZ] at hrd ⊢
    have z0 : 0 ≤ Z := by omega
    have z1 : Z < 4294967296 := by omega
    obtain ⟨P', hP'⟩ : ∃ P' : Nat, p + n = P' := ⟨_, rfl⟩
    have HS : Hid ((p : Int) + (n : Int) = (P' : Int)) := by unfold Hid; omega
    rw [hP']
    clear hZ hlt h hP'
    go_enter Try.func35, Try.ntmps35
    go_wp2_with (go_at_call 55; refine hrd.mono ?_; rintro e y1 ⟨rfl, hy1⟩; have hA1 := hA.below hy1; have hB1 := hB.below hy1; obtain ⟨z', c0', c1', f0', f1'⟩ := id hA1; obtain ⟨z9, d0, d1, g0, g1⟩ := id hB1)
    obtain ⟨z8, k0, k1, q0, q1⟩ := hB1.set (.int .i64 (P' : Int)) (.int .i64 0)
    rw [HS.out]
    refine bodyPost_ret (v := .tuple #[.agg #[.int .i64 (P' : Int), .int .i64 0], .int .i64 Z]) (by simp [results, Try.results35, go_sem, k0, k1, q0, q1]) rfl ⟨rfl, bset2' (bthen' hW hy1) (w.heap.size + 1) _ _ (by omega)⟩
  · rw [if_neg h] at hrd ⊢
    clear h
    go_enter Try.func35, Try.ntmps35
    go_wp2_with (go_at_call 55; refine hrd.mono ?_; rintro e y1 ⟨rfl, hy1⟩; have hA1 := hA.below hy1; have hB1 := hB.below hy1; obtain ⟨z', c0', c1', f0', f1'⟩ := id hA1; obtain ⟨z9, d0, d1, g0, g1⟩ := id hB1)
    obtain ⟨z8, k0, k1, q0, q1⟩ := hB1.set (.int .i64 (p : Nat)) (.int .i64 4)
    refine bodyPost_ret (v := .tuple #[.agg #[.int .i64 (p : Nat), .int .i64 4], .int .i64 0]) (by simp [results, Try.results35, go_sem, k0, k1, q0, q1]) rfl ⟨rfl, bset2' (bthen' hW hy1) (w.heap.size + 1) _ _ (by omega)⟩
end Go.Proofs.Ytolfnjlkcppplaa
/- Contract of the document's value: a residue. -/
namespace Go.Proofs.Ytolfnjlkcppplaa
open Go.RowKit
set_option linter.unusedVariables false
set_option linter.unusedSimpArgs false
set_option maxRecDepth 10000

def VaPost (R : List Int) (V T p : Nat) (w : World) (e : Ending) (w' : World) : Prop :=
  ∃ u : Int, e = .returned (.tuple #[.agg #[.int .i64 ((tkV R V T p).1 : Nat), .int .i64 (tkV R V T p).2.2], .int .i64 u]) ∧ ((tkV R V T p).2.2 = 0 → u = (tkV R V T p).2.1) ∧ Below w.heap.size w w'
theorem va_of {R : List Int} {V T p q : Nat} {u0 e0 : Int} {w w' : World} (h : tkV R V T p = (q, u0, e0)) (u : Int) (hu : e0 = 0 → u = u0) (hb : Below w.heap.size w w') : VaPost R V T p w (.returned (.tuple #[.agg #[.int .i64 (q : Nat), .int .i64 e0], .int .i64 u])) w' := by
  unfold VaPost
  rw [h]
  exact ⟨u, rfl, hu, hb⟩
theorem tkS_err {l : List Int} {V T p q : Nat} {s e : Int} (h : tkS l V T p = (q, s, e)) (he : e ≠ 0) : s = 0 ∧ q = p := by
  unfold tkS at h
  cases hf : findS l V T p with
  | some s' => rw [hf] at h; simp only [Prod.mk.injEq] at h; exact absurd h.2.2.symm he
  | none => rw [hf] at h; simp only [Prod.mk.injEq] at h; exact ⟨h.2.1.symm, h.1.symm⟩
theorem tkV_e {R : List Int} {V T p q : Nat} {s e : Int} (h : tkS R V T p = (q, s, e)) (he : e ≠ 0) : tkV R V T p = (q, 0, e) := by
  unfold tkV; rw [h]; exact if_pos he
theorem tkV_s {R : List Int} {V T p q : Nat} {s : Int} (h : tkS R V T p = (q, s, 0)) (hs : s ≠ 15) : tkV R V T p = (q, s - 7, 0) := by
  unfold tkV; rw [h]; exact (if_neg (by simp)).trans (if_pos hs)
theorem tkV_x {R : List Int} {V T p q : Nat} (h : tkS R V T p = (q, 15, 0)) : tkV R V T p = if q + 1 ≤ T then (if q + 23 ≤ T then (if fld V q 1 = 1 then (if fld V (q + 1) 22 = 0 then (q + 23, 0, 2) else (q + 23, -((fld V (q + 1) 22 : Nat) : Int), 0)) else (q + 23, ((fld V (q + 1) 22 : Nat) : Int), 0)) else (q + 1, 0, 4)) else (q, 0, 4) := by
  unfold tkV; rw [h]; exact (if_neg (by simp)).trans (if_neg (by simp))
set_option maxHeartbeats 4000000 in
theorem value_any (v vl : Value) (xs R : List Int) (p : Nat) (e0 : Int) (w : World) (hv : Rw .u8 w v xs) (hvl : Rw .i64 w vl R) (hx : Byts xs) (hl : xs.length ≤ 2000) (hr : rightL R = true) (hlr : R.length = 16) (hp : p ≤ 8 * xs.length) :
    Calls Try.prog 37 #[v, .agg #[.int .i64 p, .int .i64 e0], vl] w (VaPost R (bv xs) (8 * xs.length) p w) := by
  have hA := (B2.new w (.int .i64 p) (.int .i64 e0) 71).below (below1 _ (.cells #[.int .i64 0, .int .i64 0] 71))
  have hB := B2.new2 w (.cells #[.int .i64 p, .int .i64 e0] 71) (.int .i64 0) (.int .i64 0) 71
  have hW := below2 w (.cells #[.int .i64 p, .int .i64 e0] 71) (.cells #[.int .i64 0, .int .i64 0] 71)
  obtain ⟨a, cap, rfl, _⟩ := id hv
  have hsy := fun w' (hb : Below w.heap.size w w') => symbol_any (.slice a xs.length cap) vl xs R p e0 w' (hv.below hb) (hvl.below hb) hx (by omega) hr (by omega)
  have hso := fun (q n : Nat) w' (hb : Below w.heap.size w w') (hq : q ≤ 100000) (hn : n ≤ 32) => some_any (.slice a xs.length cap) xs q n 0 w' (hv.below hb) hx (by omega) hn (by omega)
  have hS := fun h => tkS_ok (l := R) (V := bv xs) (T := 8 * xs.length) (p := p) h
  have hTl : 8 * xs.length ≤ 16000 := by omega
  obtain ⟨q, s, e1, hq⟩ : ∃ q s e1, tkS R (bv xs) (8 * xs.length) p = (q, s, e1) := ⟨_, _, _, rfl⟩
  rw [hq] at hsy hS
  clear hv hvl hx hr hp
  generalize bv xs = V at *
  generalize xs.length = L at *
  generalize 8 * L = T at *
  obtain ⟨z, c0, c1, f0, f1⟩ := id hA
  obtain ⟨z9, d0, d1, g0, g1⟩ := id hB
  by_cases h1 : e1 = 0
  case neg =>
    have HF := hid (fun w' u hb => va_of (w := w) (w' := w') (tkV_e hq h1) u (fun h => absurd h h1) hb)
    have hne : (e1 != 0) = true := by simpa using h1
    obtain rfl := (tkS_err hq h1).1
    clear hS hso h1 hq
    go_enter Try.func37, Try.ntmps37
    go_upto_region 2 with (go_at_call 36; refine (hsy _ hW).mono ?_; rintro e y1 ⟨rfl, hy1⟩; have hB2 := (hB.below hy1).below (below1 y1 (.cells #[.int .i64 (q : Nat), .int .i64 e1] 71)); have hb2 := (bthen' hW hy1).alloc (Nat.le_trans hW.size hy1.size) (.cells #[.int .i64 (q : Nat), .int .i64 e1] 71); have hQ := B2.new y1 (.int .i64 (q : Nat)) (.int .i64 e1) 71; have hbq : w.heap.size + 1 < y1.heap.size := (hB.below hy1).z; clear d0 d1 g0 g1)
    generalize y1.alloc (.cells #[.int .i64 (q : Nat), .int .i64 e1] 71) = Y1 at *
    generalize y1.heap.size = s1 at *
    obtain ⟨z2, k0, k1, l0, l1⟩ := id hQ
    obtain ⟨z3, d0, d1, g0, g1⟩ := id hB2
    go_wp2
    obtain ⟨zz, r0, r1, t0, t1⟩ := hB2.set (.int .i64 ((q : Nat))) (.int .i64 e1)
    refine bodyPost_ret (v := .tuple #[.agg #[.int .i64 ((q : Nat)), .int .i64 e1], .int .i64 (-7)]) (by simp [results, Try.results37, go_sem, r0, r1, t0, t1]) rfl (HF.out _ (-7) (bset2' hb2 (w.heap.size + 1) _ _ (by omega)))
  subst h1
  obtain ⟨hy, -, hqT⟩ := hS rfl
  have hqT : q ≤ T := hqT
  have hs0 : 0 ≤ s ∧ s ≤ 15 := by have := hy.1; have := hy.2.1; rw [hlr] at this; exact ⟨hy.1, by show s ≤ 15; have h : s < 16 := this; omega⟩
  obtain ⟨hs1, hs2⟩ := hs0
  clear hS hy
  by_cases h15 : s = 15
  case neg =>
    have HF := hid (fun w' hb => va_of (w := w) (w' := w') (tkV_s hq h15) (s - 7) (fun _ => rfl) hb)
    have hne : (s != 15) = true := by simpa using h15
    clear hso h15 hq
    go_enter Try.func37, Try.ntmps37
    go_upto_region 2 with (go_at_call 36; refine (hsy _ hW).mono ?_; rintro e y1 ⟨rfl, hy1⟩; have hB2 := (hB.below hy1).below (below1 y1 (.cells #[.int .i64 (q : Nat), .int .i64 0] 71)); have hb2 := (bthen' hW hy1).alloc (Nat.le_trans hW.size hy1.size) (.cells #[.int .i64 (q : Nat), .int .i64 0] 71); have hQ := B2.new y1 (.int .i64 (q : Nat)) (.int .i64 0) 71; have hbq : w.heap.size + 1 < y1.heap.size := (hB.below hy1).z; clear d0 d1 g0 g1)
    generalize y1.alloc (.cells #[.int .i64 (q : Nat), .int .i64 0] 71) = Y1 at *
    generalize y1.heap.size = s1 at *
    obtain ⟨z2, k0, k1, l0, l1⟩ := id hQ
    obtain ⟨z3, d0, d1, g0, g1⟩ := id hB2
    go_wp2
    obtain ⟨zz, r0, r1, t0, t1⟩ := hB2.set (.int .i64 ((q : Nat))) (.int .i64 0)
    refine bodyPost_ret (v := .tuple #[.agg #[.int .i64 ((q : Nat)), .int .i64 0], .int .i64 (s - 7)]) (by simp [results, Try.results37, go_sem, r0, r1, t0, t1]) rfl (HF.out _ (bset2' hb2 (w.heap.size + 1) _ _ (by omega)))
  subst h15
  have hX := tkV_x hq
  clear hq hs1 hs2
  by_cases c1' : q + 1 ≤ T
  case neg =>
    rw [if_neg c1'] at hX
    have HF := hid (fun w' hb => va_of (w := w) (w' := w') hX 0 (fun _ => rfl) hb)
    have h1 := fun w' hb => hso q 1 w' hb (by omega) (by omega)
    unfold tkB at h1
    rw [if_neg c1'] at h1
    dsimp only at h1
    clear hso hX c1'
    go_enter Try.func37, Try.ntmps37
    go_upto_region 2 with (go_at_call 36; refine (hsy _ hW).mono ?_; rintro e y1 ⟨rfl, hy1⟩; have hB2 := (hB.below hy1).below (below1 y1 (.cells #[.int .i64 (q : Nat), .int .i64 0] 71)); have hb2 := (bthen' hW hy1).alloc (Nat.le_trans hW.size hy1.size) (.cells #[.int .i64 (q : Nat), .int .i64 0] 71); have hQ := B2.new y1 (.int .i64 (q : Nat)) (.int .i64 0) 71; have hbq : w.heap.size + 1 < y1.heap.size := (hB.below hy1).z; clear d0 d1 g0 g1)
    generalize y1.alloc (.cells #[.int .i64 (q : Nat), .int .i64 0] 71) = Y1 at *
    generalize y1.heap.size = s1 at *
    obtain ⟨z2, k0, k1, l0, l1⟩ := id hQ
    obtain ⟨z3, d0, d1, g0, g1⟩ := id hB2
    go_wp2_with (first | (go_at_call_of 35 (Value.int .i64 1); refine (h1 _ hb2).mono ?_; rintro e y2 ⟨rfl, hy2⟩; have hB3 := hB2.below hy2; have hQ3 := hQ.below hy2; have hb3 := bthen hb2 hy2 hb2.size; have hQ4 := hQ3.set (.int .i64 (q : Nat)) (.int .i64 4); have hB4 := (hB3.other s1 0 (.int .i64 (q : Nat)) (by omega)).other s1 1 (.int .i64 4) (by omega); have hb4 := bset2' hb3 s1 (.int .i64 (q : Nat)) (.int .i64 4) (by omega); clear d0 d1 g0 g1 k0 k1 l0 l1; obtain ⟨z4, m0, m1, n0, n1⟩ := id hQ3; obtain ⟨z2', k0, k1, l0, l1⟩ := id hQ4; obtain ⟨z3', d0, d1, g0, g1⟩ := id hB4))
    obtain ⟨zz, r0, r1, t0, t1⟩ := hB4.set (.int .i64 ((q : Nat))) (.int .i64 4)
    refine bodyPost_ret (v := .tuple #[.agg #[.int .i64 ((q : Nat)), .int .i64 4], .int .i64 (0)]) (by simp [results, Try.results37, go_sem, r0, r1, t0, t1]) rfl (HF.out _ (bset2' hb4 (w.heap.size + 1) _ _ (by omega)))
  rw [if_pos c1'] at hX
  have h1 := fun w' hb => hso q 1 w' hb (by omega) (by omega)
  unfold tkB at h1
  rw [if_pos c1'] at h1
  dsimp only at h1
  have hsg := fld_lt V q 1
  by_cases c2 : q + 23 ≤ T
  case neg =>
    rw [if_neg c2] at hX
    have HF := hid (fun w' hb => va_of (w := w) (w' := w') hX 0 (fun _ => rfl) hb)
    have h22 := fun w' hb => hso (q + 1) 22 w' hb (by omega) (by omega)
    unfold tkB at h22
    rw [if_neg (by omega)] at h22
    dsimp only at h22
    clear hso hX c2 c1' hsg
    generalize fld V q 1 = G at *
    generalize q + 1 = qq at *
    go_enter Try.func37, Try.ntmps37
    go_upto_region 2 with (go_at_call 36; refine (hsy _ hW).mono ?_; rintro e y1 ⟨rfl, hy1⟩; have hB2 := (hB.below hy1).below (below1 y1 (.cells #[.int .i64 (q : Nat), .int .i64 0] 71)); have hb2 := (bthen' hW hy1).alloc (Nat.le_trans hW.size hy1.size) (.cells #[.int .i64 (q : Nat), .int .i64 0] 71); have hQ := B2.new y1 (.int .i64 (q : Nat)) (.int .i64 0) 71; have hbq : w.heap.size + 1 < y1.heap.size := (hB.below hy1).z; clear d0 d1 g0 g1)
    generalize y1.alloc (.cells #[.int .i64 (q : Nat), .int .i64 0] 71) = Y1 at *
    generalize y1.heap.size = s1 at *
    obtain ⟨z2, k0, k1, l0, l1⟩ := id hQ
    obtain ⟨z3, d0, d1, g0, g1⟩ := id hB2
    go_wp2_with (first | (go_at_call_of 35 (Value.int .i64 1); refine (h1 _ hb2).mono ?_; rintro e y2 ⟨rfl, hy2⟩; have hB3 := hB2.below hy2; have hQ3 := hQ.below hy2; have hb3 := bthen hb2 hy2 hb2.size; have hQ4 := hQ3.set (.int .i64 (qq : Nat)) (.int .i64 0); have hB4 := (hB3.other s1 0 (.int .i64 (qq : Nat)) (by omega)).other s1 1 (.int .i64 0) (by omega); have hb4 := bset2' hb3 s1 (.int .i64 (qq : Nat)) (.int .i64 0) (by omega); clear d0 d1 g0 g1 k0 k1 l0 l1; obtain ⟨z4, m0, m1, n0, n1⟩ := id hQ3; obtain ⟨z2', k0, k1, l0, l1⟩ := id hQ4; obtain ⟨z3', d0, d1, g0, g1⟩ := id hB4) | (go_at_call_of 35 (Value.int .i64 22); refine (h22 _ hb4).mono ?_; rintro e y3 ⟨rfl, hy3⟩; have hB5 := hB4.below hy3; have hQ5 := hQ4.below hy3; have hb5 := bthen hb4 hy3 hb4.size; have hQ6 := hQ5.set (.int .i64 (qq : Nat)) (.int .i64 4); have hB6 := (hB5.other s1 0 (.int .i64 (qq : Nat)) (by omega)).other s1 1 (.int .i64 4) (by omega); have hb6 := bset2' hb5 s1 (.int .i64 (qq : Nat)) (.int .i64 4) (by omega); clear d0 d1 g0 g1 k0 k1 l0 l1 m0 m1 n0 n1; obtain ⟨z4', m0, m1, n0, n1⟩ := id hQ5; obtain ⟨z2'', k0, k1, l0, l1⟩ := id hQ6; obtain ⟨z3'', d0, d1, g0, g1⟩ := id hB6))
    obtain ⟨zz, r0, r1, t0, t1⟩ := hB6.set (.int .i64 ((qq : Nat))) (.int .i64 4)
    refine bodyPost_ret (v := .tuple #[.agg #[.int .i64 ((qq : Nat)), .int .i64 4], .int .i64 (0)]) (by simp [results, Try.results37, go_sem, r0, r1, t0, t1]) rfl (HF.out _ (bset2' hb6 (w.heap.size + 1) _ _ (by omega)))
  rw [if_pos c2] at hX
  have h22 := fun w' hb => hso (q + 1) 22 w' hb (by omega) (by omega)
  unfold tkB at h22
  rw [if_pos (show q + 1 + 22 ≤ T by omega), show q + 1 + 22 = q + 23 by omega] at h22
  dsimp only at h22
  have hm := fld_lt V (q + 1) 22
  have e22 : (2 : Nat) ^ 22 = 4194304 := by decide
  rw [e22] at hm
  clear hso c2 c1'
  generalize fld V (q + 1) 22 = M at *
  generalize fld V q 1 = G at *
  generalize hqq : q + 1 = qq at *
  generalize hqr : q + 23 = qr at *
  have hG : G = 0 ∨ G = 1 := by omega
  rcases hG with rfl | rfl
  · rw [if_neg (by omega)] at hX
    have HF := hid (fun w' hb => va_of (w := w) (w' := w') hX (M : Int) (fun _ => rfl) hb)
    clear hX hsg hm e22
    go_enter Try.func37, Try.ntmps37
    go_upto_region 2 with (go_at_call 36; refine (hsy _ hW).mono ?_; rintro e y1 ⟨rfl, hy1⟩; have hB2 := (hB.below hy1).below (below1 y1 (.cells #[.int .i64 (q : Nat), .int .i64 0] 71)); have hb2 := (bthen' hW hy1).alloc (Nat.le_trans hW.size hy1.size) (.cells #[.int .i64 (q : Nat), .int .i64 0] 71); have hQ := B2.new y1 (.int .i64 (q : Nat)) (.int .i64 0) 71; have hbq : w.heap.size + 1 < y1.heap.size := (hB.below hy1).z; clear d0 d1 g0 g1)
    generalize y1.alloc (.cells #[.int .i64 (q : Nat), .int .i64 0] 71) = Y1 at *
    generalize y1.heap.size = s1 at *
    obtain ⟨z2, k0, k1, l0, l1⟩ := id hQ
    obtain ⟨z3, d0, d1, g0, g1⟩ := id hB2
    go_wp2_with (first | (go_at_call_of 35 (Value.int .i64 1); refine (h1 _ hb2).mono ?_; rintro e y2 ⟨rfl, hy2⟩; have hB3 := hB2.below hy2; have hQ3 := hQ.below hy2; have hb3 := bthen hb2 hy2 hb2.size; have hQ4 := hQ3.set (.int .i64 (qq : Nat)) (.int .i64 0); have hB4 := (hB3.other s1 0 (.int .i64 (qq : Nat)) (by omega)).other s1 1 (.int .i64 0) (by omega); have hb4 := bset2' hb3 s1 (.int .i64 (qq : Nat)) (.int .i64 0) (by omega); clear d0 d1 g0 g1 k0 k1 l0 l1; obtain ⟨z4, m0, m1, n0, n1⟩ := id hQ3; obtain ⟨z2', k0, k1, l0, l1⟩ := id hQ4; obtain ⟨z3', d0, d1, g0, g1⟩ := id hB4) | (go_at_call_of 35 (Value.int .i64 22); refine (h22 _ hb4).mono ?_; rintro e y3 ⟨rfl, hy3⟩; have hB5 := hB4.below hy3; have hQ5 := hQ4.below hy3; have hb5 := bthen hb4 hy3 hb4.size; have hQ6 := hQ5.set (.int .i64 (qr : Nat)) (.int .i64 0); have hB6 := (hB5.other s1 0 (.int .i64 (qr : Nat)) (by omega)).other s1 1 (.int .i64 0) (by omega); have hb6 := bset2' hb5 s1 (.int .i64 (qr : Nat)) (.int .i64 0) (by omega); clear d0 d1 g0 g1 k0 k1 l0 l1 m0 m1 n0 n1; obtain ⟨z4', m0, m1, n0, n1⟩ := id hQ5; obtain ⟨z2'', k0, k1, l0, l1⟩ := id hQ6; obtain ⟨z3'', d0, d1, g0, g1⟩ := id hB6))
    obtain ⟨zz, r0, r1, t0, t1⟩ := hB6.set (.int .i64 ((qr : Nat))) (.int .i64 0)
    refine bodyPost_ret (v := .tuple #[.agg #[.int .i64 ((qr : Nat)), .int .i64 0], .int .i64 ((M : Int))]) (by simp [results, Try.results37, go_sem, r0, r1, t0, t1]) rfl (HF.out _ (bset2' hb6 (w.heap.size + 1) _ _ (by omega)))
  · rw [if_pos rfl] at hX
    by_cases hM : M = 0
    · subst hM
      rw [if_pos rfl] at hX
      have HF := hid (fun w' hb => va_of (w := w) (w' := w') hX 0 (fun h => absurd h (by decide)) hb)
      clear hX hsg hm e22
      go_enter Try.func37, Try.ntmps37
      go_upto_region 2 with (go_at_call 36; refine (hsy _ hW).mono ?_; rintro e y1 ⟨rfl, hy1⟩; have hB2 := (hB.below hy1).below (below1 y1 (.cells #[.int .i64 (q : Nat), .int .i64 0] 71)); have hb2 := (bthen' hW hy1).alloc (Nat.le_trans hW.size hy1.size) (.cells #[.int .i64 (q : Nat), .int .i64 0] 71); have hQ := B2.new y1 (.int .i64 (q : Nat)) (.int .i64 0) 71; have hbq : w.heap.size + 1 < y1.heap.size := (hB.below hy1).z; clear d0 d1 g0 g1)
      generalize y1.alloc (.cells #[.int .i64 (q : Nat), .int .i64 0] 71) = Y1 at *
      generalize y1.heap.size = s1 at *
      obtain ⟨z2, k0, k1, l0, l1⟩ := id hQ
      obtain ⟨z3, d0, d1, g0, g1⟩ := id hB2
      go_wp2_with (first | (go_at_call_of 35 (Value.int .i64 1); refine (h1 _ hb2).mono ?_; rintro e y2 ⟨rfl, hy2⟩; have hB3 := hB2.below hy2; have hQ3 := hQ.below hy2; have hb3 := bthen hb2 hy2 hb2.size; have hQ4 := hQ3.set (.int .i64 (qq : Nat)) (.int .i64 0); have hB4 := (hB3.other s1 0 (.int .i64 (qq : Nat)) (by omega)).other s1 1 (.int .i64 0) (by omega); have hb4 := bset2' hb3 s1 (.int .i64 (qq : Nat)) (.int .i64 0) (by omega); clear d0 d1 g0 g1 k0 k1 l0 l1; obtain ⟨z4, m0, m1, n0, n1⟩ := id hQ3; obtain ⟨z2', k0, k1, l0, l1⟩ := id hQ4; obtain ⟨z3', d0, d1, g0, g1⟩ := id hB4) | (go_at_call_of 35 (Value.int .i64 22); refine (h22 _ hb4).mono ?_; rintro e y3 ⟨rfl, hy3⟩; have hB5 := hB4.below hy3; have hQ5 := hQ4.below hy3; have hb5 := bthen hb4 hy3 hb4.size; have hQ6 := hQ5.set (.int .i64 (qr : Nat)) (.int .i64 0); have hB6 := (hB5.other s1 0 (.int .i64 (qr : Nat)) (by omega)).other s1 1 (.int .i64 0) (by omega); have hb6 := bset2' hb5 s1 (.int .i64 (qr : Nat)) (.int .i64 0) (by omega); clear d0 d1 g0 g1 k0 k1 l0 l1 m0 m1 n0 n1; obtain ⟨z4', m0, m1, n0, n1⟩ := id hQ5; obtain ⟨z2'', k0, k1, l0, l1⟩ := id hQ6; obtain ⟨z3'', d0, d1, g0, g1⟩ := id hB6))
      obtain ⟨zz, r0, r1, t0, t1⟩ := hB6.set (.int .i64 ((qr : Nat))) (.int .i64 2)
      refine bodyPost_ret (v := .tuple #[.agg #[.int .i64 ((qr : Nat)), .int .i64 2], .int .i64 (0)]) (by simp [results, Try.results37, go_sem, r0, r1, t0, t1]) rfl (HF.out _ (bset2' hb6 (w.heap.size + 1) _ _ (by omega)))
    · rw [if_neg hM] at hX
      have HF := hid (fun w' hb => va_of (w := w) (w' := w') hX (-(M : Int)) (fun _ => rfl) hb)
      have hM0 : ((M : Int) == 0) = false := by simpa using fun e => hM (by omega)
      have hM2 : (M : Int) < 4194304 := by omega
      have hM3 : 0 ≤ (M : Int) := by omega
      clear hX hsg hm e22 hM
      generalize (M : Int) = Mi at *
      go_enter Try.func37, Try.ntmps37
      go_upto_region 2 with (go_at_call 36; refine (hsy _ hW).mono ?_; rintro e y1 ⟨rfl, hy1⟩; have hB2 := (hB.below hy1).below (below1 y1 (.cells #[.int .i64 (q : Nat), .int .i64 0] 71)); have hb2 := (bthen' hW hy1).alloc (Nat.le_trans hW.size hy1.size) (.cells #[.int .i64 (q : Nat), .int .i64 0] 71); have hQ := B2.new y1 (.int .i64 (q : Nat)) (.int .i64 0) 71; have hbq : w.heap.size + 1 < y1.heap.size := (hB.below hy1).z; clear d0 d1 g0 g1)
      generalize y1.alloc (.cells #[.int .i64 (q : Nat), .int .i64 0] 71) = Y1 at *
      generalize y1.heap.size = s1 at *
      obtain ⟨z2, k0, k1, l0, l1⟩ := id hQ
      obtain ⟨z3, d0, d1, g0, g1⟩ := id hB2
      go_wp2_with (first | (go_at_call_of 35 (Value.int .i64 1); refine (h1 _ hb2).mono ?_; rintro e y2 ⟨rfl, hy2⟩; have hB3 := hB2.below hy2; have hQ3 := hQ.below hy2; have hb3 := bthen hb2 hy2 hb2.size; have hQ4 := hQ3.set (.int .i64 (qq : Nat)) (.int .i64 0); have hB4 := (hB3.other s1 0 (.int .i64 (qq : Nat)) (by omega)).other s1 1 (.int .i64 0) (by omega); have hb4 := bset2' hb3 s1 (.int .i64 (qq : Nat)) (.int .i64 0) (by omega); clear d0 d1 g0 g1 k0 k1 l0 l1; obtain ⟨z4, m0, m1, n0, n1⟩ := id hQ3; obtain ⟨z2', k0, k1, l0, l1⟩ := id hQ4; obtain ⟨z3', d0, d1, g0, g1⟩ := id hB4) | (go_at_call_of 35 (Value.int .i64 22); refine (h22 _ hb4).mono ?_; rintro e y3 ⟨rfl, hy3⟩; have hB5 := hB4.below hy3; have hQ5 := hQ4.below hy3; have hb5 := bthen hb4 hy3 hb4.size; have hQ6 := hQ5.set (.int .i64 (qr : Nat)) (.int .i64 0); have hB6 := (hB5.other s1 0 (.int .i64 (qr : Nat)) (by omega)).other s1 1 (.int .i64 0) (by omega); have hb6 := bset2' hb5 s1 (.int .i64 (qr : Nat)) (.int .i64 0) (by omega); clear d0 d1 g0 g1 k0 k1 l0 l1 m0 m1 n0 n1; obtain ⟨z4', m0, m1, n0, n1⟩ := id hQ5; obtain ⟨z2'', k0, k1, l0, l1⟩ := id hQ6; obtain ⟨z3'', d0, d1, g0, g1⟩ := id hB6))
      obtain ⟨zz, r0, r1, t0, t1⟩ := hB6.set (.int .i64 ((qr : Nat))) (.int .i64 0)
      refine bodyPost_ret (v := .tuple #[.agg #[.int .i64 ((qr : Nat)), .int .i64 0], .int .i64 (-Mi)]) (by simp [results, Try.results37, go_sem, r0, r1, t0, t1]) rfl (HF.out _ (bset2' hb6 (w.heap.size + 1) _ _ (by omega)))
end Go.Proofs.Ytolfnjlkcppplaa
/- Contracts of the document's: whether a channel may be, whether a body is right. -/
namespace Go.Proofs.Ytolfnjlkcppplaa
open Go.RowKit
set_option linter.unusedVariables false
set_option linter.unusedSimpArgs false
set_option maxRecDepth 10000

instance (F x z : List Int) : Decidable (ChOk F x z) := by unfold ChOk Bd; exact inferInstance
def chB (F x z : List Int) : Bool := decide (ChOk F x z)
theorem ch_none (F : List Int) {x z : List Int} (h : x.length = 0) : chB F x z = decide (z.length = 0) := by
  unfold chB
  rw [decide_eq_decide]
  constructor
  · rintro (h1 | h1)
    · exact h1.2
    · have := (flOk_parts h1.1).1; omega
  · exact fun h1 => .inl ⟨h, h1⟩
theorem ch_not {F x z : List Int} (h0 : x.length ≠ 0) (h : ¬ (flOk x = true ∧ (∀ j, j < 6 → 0 < F.getD (x.getD j 0).toNat 0) ∧ z.length = 16 ∧ Bd (-4194303) 4194303 z)) : chB F x z = false := by
  unfold chB
  apply decide_eq_false
  rintro (h1 | h1)
  · exact h0 h1.1
  · exact h h1
theorem ch_yes {F x z : List Int} (h : flOk x = true) (hF : ∀ j, j < 6 → 0 < F.getD (x.getD j 0).toNat 0) (hz : z.length = 16) (hb : ∀ j, j < 16 → -4194303 ≤ z.getD j 0 ∧ z.getD j 0 ≤ 4194303) : chB F x z = true :=
  decide_eq_true (.inr ⟨h, hF, hz, fun j hj => hb j (by rw [← hz]; exact hj)⟩)
set_option maxHeartbeats 4000000 in
theorem channel_any (c q : Int) (af : Option Addr) (cf : Nat) (F : List Int) (ar : Option Addr) (cr : Nat) (R : List Int) (w : World) (h : Bks w af 45 cf F ar 16 cr R) (hrF : rightL F = true)
    (ax : Option Addr) (nx kx : Nat) (x : List Int) (az : Option Addr) (nz kz : Nat) (z : List Int) (hnx : x.length = nx) (hnz : z.length = nz) (hlx : nx ≤ 1000) (hlz : nz ≤ 1000) (hvx : Rw .i64 w (.slice ax nx kx) x) (hvz : Rw .i64 w (.slice az nz kz) z) :
    Calls Try.prog 26 #[.agg #[.int .i64 c, .int .i64 q, .slice af 45 cf, .slice ar 16 cr], .slice ax nx kx, .slice az nz kz] w fun e w' => e = .returned (.bool (chB F x z)) ∧ Below w.heap.size w w' := by
  have hW := below1 w (.cells #[.int .i64 c, .int .i64 q, .slice af 45 cf, .slice ar 16 cr] 32)
  have hB0 := B4.new w (.int .i64 c) (.int .i64 q) (.slice af 45 cf) (.slice ar 16 cr) 32
  by_cases h0 : nx = 0
  · have HO := hid (ch_none F (x := x) (z := z) (by omega))
    rw [hnz] at HO
    subst h0
    have e : ((nz : Int) == 0) = decide (nz = 0) := by
      by_cases e : nz = 0
      · subst e; rfl
      · rw [decide_eq_false e]; simpa using fun k => e (by omega)
    generalize hD : ((nz : Int) == 0) = D at *
    clear h hvx hvz hB0 hnx hnz hlx hlz
    have HO2 : Hid (chB F x z = D) := by unfold Hid; rw [HO.out, e]
    clear HO e
    go_enter Try.func26, Try.ntmps26
    go_wp2
    go_ret
    exact ⟨ret_bool HO2.out.symm, hW⟩
  have e0 : ((nx : Int) == 0) = false := by simpa using fun k => h0 (by omega)
  have hr := fun w' hb => rfright_any ax nx kx x hnx.symm (by omega) w' (hvx.below hb)
  cases hfl : flOk x
  · have HO := hid (ch_not (F := F) (z := z) (by omega : x.length ≠ 0) (fun k => by rw [hfl] at k; exact absurd k.1 (by decide)))
    rw [hfl] at hr
    clear h hvx hvz hB0 hnx hnz hlz hfl
    go_enter Try.func26, Try.ntmps26
    go_wp2_with (go_at_call 46; refine (hr _ hW).mono ?_; rintro e w9 ⟨rfl, h9⟩; have h9 := h9.symm; subst h9)
    go_ret
    exact ⟨ret_bool HO.out.symm, hW⟩
  rw [hfl] at hr
  obtain ⟨h6, hbx⟩ := flOk_parts hfl
  obtain rfl : 6 = nx := by omega
  by_cases h16 : nz = 16
  case neg =>
    have HO := hid (ch_not (F := F) (z := z) (by omega : x.length ≠ 0) (fun k => h16 (by rw [← hnz]; exact k.2.2.1)))
    have e16 : ((nz : Int) != 16) = true := by simpa using fun k => h16 (by omega)
    clear h hvx hvz hB0 hnx hnz hlz hfl h0 hbx h6 h16
    go_enter Try.func26, Try.ntmps26
    go_wp2_with (go_at_call 46; refine (hr _ hW).mono ?_; rintro e w9 ⟨rfl, h9⟩; have h9 := h9.symm; subst h9)
    go_ret
    exact ⟨ret_bool HO.out.symm, hW⟩
  subst h16
  have hFat : ∀ i, i < 45 → ∃ b off, af = some ⟨b, off, none⟩ ∧ b < w.heap.size ∧ w.cell? ⟨b, off + i, none⟩ = some (.int .i64 (F.getD i 0)) := fun i hi => by
    have hv := h.vf
    rw [← h.lf] at hv
    exact hv.at i (by rw [h.lf]; exact hi)
  have hXat : ∀ i, i < 6 → ∃ b off, ax = some ⟨b, off, none⟩ ∧ b < w.heap.size ∧ w.cell? ⟨b, off + i, none⟩ = some (.int .i64 (x.getD i 0)) := fun i hi => by
    have hv := hvx
    rw [← h6] at hv
    exact hv.at i (by rw [h6]; exact hi)
  have hZat : ∀ i, i < 16 → ∃ b off, az = some ⟨b, off, none⟩ ∧ b < w.heap.size ∧ w.cell? ⟨b, off + i, none⟩ = some (.int .i64 (z.getD i 0)) := fun i hi => by
    have hv := hvz
    rw [← hnz] at hv
    exact hv.at i (by rw [hnz]; exact hi)
  have HXB : Hid (∀ j, j < 6 → 0 ≤ x.getD j 0 ∧ x.getD j 0 ≤ 44) := fun j hj => hbx j (by omega)
  have HFP : Hid (∀ i, 0 ≤ F.getD i 0) := fun i => (five_of_right hrF i).1
  have HNO1 : Hid (∀ j, j < 6 → ¬ 0 < F.getD (x.getD j 0).toNat 0 → chB F x z = false) := fun j hj hn => ch_not (by omega) (fun k => hn (k.2.1 j hj))
  have HNO2 : Hid (∀ j, j < 16 → ¬ (-4194303 ≤ z.getD j 0 ∧ z.getD j 0 ≤ 4194303) → chB F x z = false) := fun j hj hn => ch_not (by omega) (fun k => hn (k.2.2.2 j (by rw [hnz]; exact hj)))
  have HYES : Hid ((∀ j, j < 6 → 0 < F.getD (x.getD j 0).toNat 0) → (∀ j, j < 16 → -4194303 ≤ z.getD j 0 ∧ z.getD j 0 ≤ 4194303) → chB F x z = true) := fun h1 h2 => ch_yes hfl h1 hnz h2
  have HW := hid hW
  clear h hvx hvz hnx hnz hlx hlz hfl h0 hbx h6 hrF hW e0
  generalize chB F x z = B at *
  go_enter Try.func26, Try.ntmps26
  go_wp2_with (go_at_call 46; refine (hr _ HW.out).mono ?_; rintro e w9 ⟨rfl, h9⟩; have h9 := h9.symm; subst h9)
  generalize w.alloc (.cells #[.int .i64 c, .int .i64 q, .slice af 45 cf, .slice ar 16 cr] 32) = W0 at *
  go_loopw [7] (fun p wr => ∃ k : Nat, k ≤ 6 ∧ p = .int .i64 k ∧ Hid (∀ j, j < k → 0 < F.getD (x.getD j 0).toNat 0) ∧ Hid (Below W0.heap.size W0 wr)) (fun p _ => 6 - (intOf p).toNat)
  case atStart => exact ⟨0, by omega, rfl, fun j hj => by omega, Below.refl _ _⟩
  case round =>
    obtain ⟨k, hk, rfl, HA, HBR⟩ := hrel
    obtain ⟨W1, rfl⟩ : ∃ x, x = wr := ⟨wr, rfl⟩
    by_cases hlt : k < 6
    · obtain ⟨b1, o1, rfl, hb1, hc1⟩ := hXat k hlt
      obtain ⟨x0, x1⟩ := HXB.out k hlt
      obtain ⟨X, hX⟩ : ∃ X : Nat, x.getD k 0 = X := ⟨(x.getD k 0).toNat, by omega⟩
      have hno := hid (HNO1.out k hlt)
      have hfp := HFP.out (x.getD k 0).toNat
      rw [hX] at hc1 x0 x1
      rw [hX, Int.toNat_natCast] at hno hfp
      obtain ⟨b2, o2, rfl, hb2, hc2⟩ := hFat X (by omega)
      have hbw := bthen' HW.out HBR.out
      have g1 := ((bcell hbw).1 _ _ hb1).trans hc1
      have g2 := ((bcell hbw).1 _ _ hb2).trans hc2
      obtain ⟨bz, c0, c1, c2, c3, f0, f1, f2, f3⟩ := hB0.below HBR.out
      have hx6 : k < 6 := hlt
      have HA2 : Hid (0 < F.getD X 0 → ∀ j, j < k + 1 → 0 < F.getD (x.getD j 0).toNat 0) := fun hp j hj => by
        by_cases e : j < k
        · exact HA.out j e
        · obtain rfl : j = k := by omega
          rw [hX, Int.toNat_natCast]; exact hp
      generalize F.getD X 0 = V at *
      clear hX hc1 hc2 hXat hFat
      have i1 : (0 : Int) ≤ (k : Int) := by omega
      have i2 : (k : Int) < 6 := by omega
      have i3 : IntKind.i64.wrap (k : Int) = k := wraps_i64 _ (by omega) (by omega)
      have j1 : (0 : Int) ≤ (X : Int) := by omega
      have j2 : (X : Int) < 45 := by omega
      have j3 : IntKind.i64.wrap (X : Int) = X := wraps_i64 _ (by omega) (by omega)
      by_cases hV : V = 0
      · have HO := hid (hno.out (by omega))
        have eV : (V == 0) = true := by rw [hV]; rfl
        clear hno HA2
        subst hV
        go_wp2
        go_quiet (fail)
        go_wp2
        go_ret
        exact ⟨ret_bool HO.out.symm, drewN_below hbw _⟩
      · have HA3 := hid (HA2.out (by omega))
        have eV : (V == 0) = false := by simpa using hV
        clear hno HA2 hfp
        go_wp2
        go_quiet (fail)
        go_wp2
        exact ⟨⟨k + 1, by omega, by go_num, HA3, drewN_below HBR.out _⟩, by simp [intOf]; omega⟩
    · have hk6 : k = 6 := by omega
      have HA6 : Hid (∀ j, j < 6 → 0 < F.getD (x.getD j 0).toNat 0) := fun j hj => HA.out j (by omega)
      have HBR0 := HBR
      clear HA hk6 hk HNO1 HXB HFP HBR
      go_wp2
      go_loopw [8] (fun p wr => ∃ m : Nat, m ≤ 16 ∧ p = .int .i64 m ∧ Hid (∀ j, j < m → -4194303 ≤ z.getD j 0 ∧ z.getD j 0 ≤ 4194303) ∧ Hid (Below W0.heap.size W0 wr)) (fun p _ => 16 - (intOf p).toNat)
      case atStart => exact ⟨0, by omega, rfl, fun j hj => by omega, HBR0⟩
      case round =>
        clear HBR0 hlt
        obtain ⟨m, hm, rfl, HA, HBR⟩ := hrel
        obtain ⟨W2, rfl⟩ : ∃ x, x = wr := ⟨wr, rfl⟩
        by_cases hlt : m < 16
        · obtain ⟨b1, o1, rfl, hb1, hc1⟩ := hZat m hlt
          have hbw := bthen' HW.out HBR.out
          have g1 := ((bcell hbw).1 _ _ hb1).trans hc1
          have hno := hid (HNO2.out m hlt)
          have HA2 : Hid (-4194303 ≤ z.getD m 0 ∧ z.getD m 0 ≤ 4194303 → ∀ j, j < m + 1 → -4194303 ≤ z.getD j 0 ∧ z.getD j 0 ≤ 4194303) := fun hp j hj => by
            by_cases e : j < m
            · exact HA.out j e
            · obtain rfl : j = m := by omega
              exact hp
          generalize z.getD m 0 = V at *
          clear hc1 hZat hFat hXat
          have i1 : (0 : Int) ≤ (m : Int) := by omega
          have i2 : (m : Int) < 16 := by omega
          have i3 : IntKind.i64.wrap (m : Int) = m := wraps_i64 _ (by omega) (by omega)
          by_cases c1 : V ≤ 4194303
          · by_cases c2 : -4194303 ≤ V
            · have HA3 := hid (HA2.out ⟨c2, c1⟩)
              have d1 : decide (4194303 < V) = false := decide_eq_false (by omega)
              have d2 : decide (V < -4194303) = false := decide_eq_false (by omega)
              clear hno HA2
              go_wp2
              exact ⟨⟨m + 1, by omega, by go_num, HA3, HBR⟩, by simp [intOf]; omega⟩
            · have HO := hid (hno.out (fun k => c2 k.1))
              have d1 : decide (4194303 < V) = false := decide_eq_false (by omega)
              have d2 : decide (V < -4194303) = true := decide_eq_true (by omega)
              clear hno HA2
              go_wp2
              go_ret
              exact ⟨ret_bool HO.out.symm, hbw⟩
          · have HO := hid (hno.out (fun k => c1 k.2))
            have d1 : decide (4194303 < V) = true := decide_eq_true (by omega)
            clear hno HA2
            go_wp2
            go_ret
            exact ⟨ret_bool HO.out.symm, hbw⟩
        · have hm16 : m = 16 := by omega
          have HO := hid (HYES.out HA6.out (fun j hj => HA.out j (by omega)))
          have hbw := bthen' HW.out HBR.out
          clear hm16 hm HA hZat hFat hXat
          go_wp2
          go_ret
          exact ⟨ret_bool HO.out.symm, hbw⟩
/-- A body that may be, for a header. -/
def boB (c q : Int) (F R : List Int) (P Z : List (List Int)) : Bool := vhRight c q F R && decide ((P.length : Int) = c) && decide ((Z.length : Int) = c) && (List.range P.length).all fun i => chB F (P.getD i []) (Z.getD i [])
theorem bo_iff {c q : Int} {F R : List Int} {P Z : List (List Int)} : boB c q F R P Z = true ↔ vhRight c q F R = true ∧ (P.length : Int) = c ∧ BoOk P.length F R P Z := by
  unfold boB
  rw [Bool.and_eq_true, Bool.and_eq_true, Bool.and_eq_true, decide_eq_true_eq, decide_eq_true_eq, List.all_eq_true]
  constructor
  · rintro ⟨⟨⟨h1, h2⟩, h3⟩, h4⟩
    exact ⟨h1, h2, rfl, by omega, fun i hi => of_decide_eq_true (h4 i (by simpa using hi))⟩
  · rintro ⟨h1, h2, h3⟩
    exact ⟨⟨⟨h1, h2⟩, by have := h3.lz; omega⟩, fun i hi => decide_eq_true (h3.ch i (by simpa using hi))⟩
end Go.Proofs.Ytolfnjlkcppplaa
/- Contract of the document's Right, of a body. -/
namespace Go.Proofs.Ytolfnjlkcppplaa
open Go.RowKit
set_option linter.unusedVariables false
set_option linter.unusedSimpArgs false
set_option maxRecDepth 10000

/-- A body in memory: its posts, its residues. -/
structure BoAt (w : World) (ap : Option Addr) (np kp : Nat) (P : List (List Int)) (az : Option Addr) (nz kz : Nat) (Z : List (List Int)) : Prop where
  lp : P.length = np
  vp : Fr false w (.slice ap np kp) P
  lz : Z.length = nz
  vz : Fr false w (.slice az nz kz) Z
  mp : ∀ i, (P.getD i []).length ≤ 1000
  mz : ∀ i, (Z.getD i []).length ≤ 1000
theorem BoAt.below {w w' : World} {ap : Option Addr} {np kp : Nat} {P : List (List Int)} {az : Option Addr} {nz kz : Nat} {Z : List (List Int)} (h : BoAt w ap np kp P az nz kz Z) (hb : Below w.heap.size w w') : BoAt w' ap np kp P az nz kz Z :=
  ⟨h.lp, h.vp.below hb, h.lz, h.vz.below hb, h.mp, h.mz⟩
theorem bo_no1 {c q : Int} {F R : List Int} {P Z : List (List Int)} (h : ¬ (vhRight c q F R = true ∧ (P.length : Int) = c ∧ (Z.length : Int) = c)) : boB c q F R P Z = false := by
  cases hb : boB c q F R P Z with
  | false => rfl
  | true =>
    obtain ⟨h1, h2, h3⟩ := bo_iff.1 hb
    exact absurd ⟨h1, h2, by have := h3.lz; omega⟩ h
set_option maxHeartbeats 8000000 in
theorem rbright_any (c q : Int) (af : Option Addr) (nf cf : Nat) (F : List Int) (ar : Option Addr) (nr cr : Nat) (R : List Int) (ap : Option Addr) (np kp : Nat) (P : List (List Int)) (az : Option Addr) (nz kz : Nat) (Z : List (List Int)) (w : World) (h : Bks w af nf cf F ar nr cr R) (hb : BoAt w ap np kp P az nz kz Z) :
    Calls Try.prog 12 #[.agg #[.int .i64 c, .int .i64 q, .slice af nf cf, .slice ar nr cr], .agg #[.slice ap np kp, .slice az nz kz]] w fun e w' => e = .returned (.bool (boB c q F R P Z)) ∧ Below w.heap.size w w' := by
  have hW := below2 w (.cells #[.int .i64 c, .int .i64 q, .slice af nf cf, .slice ar nr cr] 32) (.cells #[.slice ap np kp, .slice az nz kz] 34)
  have hA := (B4.new w (.int .i64 c) (.int .i64 q) (.slice af nf cf) (.slice ar nr cr) 32).below (below1 _ (.cells #[.slice ap np kp, .slice az nz kz] 34))
  have hB := B2.new2 w (.cells #[.int .i64 c, .int .i64 q, .slice af nf cf, .slice ar nr cr] 32) (.slice ap np kp) (.slice az nz kz) 34
  have hr := rvright_any c q af nf cf F ar nr cr R _ (h.below hW)
  obtain ⟨ez, e0, e1, e2, e3, f0, f1, f2, f3⟩ := id hA
  obtain ⟨bz, b0, b1, g0, g1⟩ := id hB
  have HLP := hid hb.lp
  have HLZ := hid hb.lz
  cases hR : vhRight c q F R
  · have HO := hid (bo_no1 (P := P) (Z := Z) (c := c) (q := q) (F := F) (R := R) (fun k => by rw [hR] at k; exact absurd k.1 (by decide)))
    rw [hR] at hr
    clear h hb hR
    go_enter Try.func12, Try.ntmps12
    go_wp2_with (go_at_call 25; refine hr.mono ?_; rintro e y1 ⟨rfl, hy1⟩)
    go_ret
    exact ⟨ret_bool HO.out.symm, bthen' hW hy1⟩
  have hRR := hR
  rw [hR] at hr
  obtain ⟨h1, h2, h3, h4, h5, h6, h7, h8, h9⟩ := vhRight_parts hR
  obtain ⟨n, rfl⟩ := Int.eq_ofNat_of_zero_le (show 0 ≤ c by omega)
  by_cases hp : np = n
  case neg =>
    have HO := hid (bo_no1 (P := P) (Z := Z) (c := (n : Int)) (q := q) (F := F) (R := R) (fun k => hp (by have := k.2.1; rw [HLP.out] at this; omega)))
    have e : ((np : Int) != (n : Int)) = true := by simpa using fun k => hp (by omega)
    clear h hb hR hRR h1 h2 h3 h4 h5 h6 h7 h8 h9 hp
    go_enter Try.func12, Try.ntmps12
    go_wp2_with (go_at_call 25; refine hr.mono ?_; rintro e y1 ⟨rfl, hy1⟩; clear e0 e1 e2 e3 f0 f1 f2 f3 b0 b1 g0 g1; obtain ⟨ez', e0, e1, e2, e3, f0, f1, f2, f3⟩ := id (hA.below hy1); obtain ⟨bz', b0, b1, g0, g1⟩ := id (hB.below hy1))
    go_ret
    exact ⟨ret_bool HO.out.symm, bthen' hW hy1⟩
  subst hp
  by_cases hz : nz = np
  case neg =>
    have HO := hid (bo_no1 (P := P) (Z := Z) (c := (np : Int)) (q := q) (F := F) (R := R) (fun k => hz (by have := k.2.2; rw [HLZ.out] at this; omega)))
    have e : ((nz : Int) != (np : Int)) = true := by simpa using fun k => hz (by omega)
    have e' : ((np : Int) != (np : Int)) = false := by simp
    clear h hb hR hRR h1 h2 h3 h4 h5 h6 h7 h8 h9 hz
    go_enter Try.func12, Try.ntmps12
    go_wp2_with (go_at_call 25; refine hr.mono ?_; rintro e y1 ⟨rfl, hy1⟩; clear e0 e1 e2 e3 f0 f1 f2 f3 b0 b1 g0 g1; obtain ⟨ez', e0, e1, e2, e3, f0, f1, f2, f3⟩ := id (hA.below hy1); obtain ⟨bz', b0, b1, g0, g1⟩ := id (hB.below hy1))
    go_ret
    exact ⟨ret_bool HO.out.symm, bthen' hW hy1⟩
  subst hz
  obtain rfl : 45 = nf := by rw [← h.lf, h5]
  obtain rfl : 16 = nr := by rw [← h.lr, h6]
  have HNO : Hid (∀ i, i < nz → chB F (P.getD i []) (Z.getD i []) = false → boB (nz : Int) q F R P Z = false) := fun i hi hc => by
    unfold boB
    rw [Bool.and_eq_false_iff]
    right
    rw [Bool.eq_false_iff]
    intro k
    have := List.all_eq_true.1 k i (by simp [HLP.out]; exact hi)
    rw [hc] at this; cases this
  have HYES : Hid ((∀ i, i < nz → chB F (P.getD i []) (Z.getD i []) = true) → boB (nz : Int) q F R P Z = true) := fun k => by
    unfold boB
    rw [hRR, decide_eq_true (by rw [HLP.out]), decide_eq_true (by rw [HLZ.out])]
    show ((List.range P.length).all _) = true
    rw [List.all_eq_true]
    intro i hi
    exact k i (by rw [← HLP.out]; simpa using hi)
  have hch := fun W (hk : Below w.heap.size w W) ax nx kx x az' nz' kz' z l1 l2 l3 l4 v1 v2 => channel_any (nz : Int) q af cf F ar cr R W (h.below hk) h7 ax nx kx x az' nz' kz' z l1 l2 l3 l4 v1 v2
  have HBO := hid hb
  have e' : ((nz : Int) != (nz : Int)) = false := by simp
  have hn2 : nz ≤ 2 := by omega
  clear h hb hR hRR h1 h2 h3 h4 h5 h6 h7 h8 h9
  generalize boB (nz : Int) q F R P Z = B at *
  go_enter Try.func12, Try.ntmps12
  go_upto_region 3 with (go_at_call 25; refine hr.mono ?_; rintro e y1 ⟨rfl, hy1⟩; clear e0 e1 e2 e3 f0 f1 f2 f3 b0 b1 g0 g1; obtain ⟨ez', e0, e1, e2, e3, f0, f1, f2, f3⟩ := id (hA.below hy1); obtain ⟨bz', b0, b1, g0, g1⟩ := id (hB.below hy1))
  have hA1 := hA.below hy1
  have hB1 := hB.below hy1
  have HW1 := hid (bthen' hW hy1)
  clear hA hB hW hy1 hr
  go_wp2
  go_loopw [5] (fun p wr => ∃ k : Nat, k ≤ nz ∧ p = .int .i64 k ∧ Hid (∀ i, i < k → chB F (P.getD i []) (Z.getD i []) = true) ∧ Hid (Below y1.heap.size y1 wr)) (fun p _ => nz - (intOf p).toNat)
  case atStart => exact ⟨0, by omega, rfl, fun j hj => by omega, Below.refl _ _⟩
  case round =>
    obtain ⟨k, hk, rfl, HA, HBR⟩ := hrel
    obtain ⟨W1, rfl⟩ : ∃ x, x = wr := ⟨wr, rfl⟩
    have hA2 := hA1.below HBR.out
    have hB2 := hB1.below HBR.out
    clear e0 e1 e2 e3 f0 f1 f2 f3 b0 b1 g0 g1
    obtain ⟨ez'', e0, e1, e2, e3, f0, f1, f2, f3⟩ := id hA2
    obtain ⟨bz'', b0, b1, g0, g1⟩ := id hB2
    by_cases hlt : k < nz
    · have hbw := bthen HW1.out HBR.out HW1.out.size
      obtain ⟨p1, o1, rfl, hp1, rx, kx, cx, _, vx⟩ := (HBO.out.vp.below hbw).at k hlt
      obtain ⟨p2, o2, rfl, hp2, rz, kz', cz, _, vz⟩ := (HBO.out.vz.below hbw).at k hlt
      have hc := fun W (hq : Below W1.heap.size W1 W) => hch W (bthen hbw hq hbw.size) rx _ kx _ rz _ kz' _ rfl rfl (HBO.out.mp k) (HBO.out.mz k) (vx.below hq) (vz.below hq)
      have HA2 : Hid (chB F (P.getD k []) (Z.getD k []) = true → ∀ i, i < k + 1 → chB F (P.getD i []) (Z.getD i []) = true) := fun hp j hj => by
        by_cases e : j < k
        · exact HA.out j e
        · obtain rfl : j = k := by omega
          exact hp
      have HNK := hid (HNO.out k hlt)
      generalize chB F (P.getD k []) (Z.getD k []) = D at *
      generalize (P.getD k []).length = nx at *
      generalize (Z.getD k []).length = nz' at *
      have i1 : (0 : Int) ≤ (k : Int) := by omega
      have i2 : (k : Int) < (nz : Int) := by omega
      have i3 : IntKind.i64.wrap (k : Int) = k := wraps_i64 _ (by omega) (by omega)
      have hK : ∀ W, Below W1.heap.size W1 W → W.cell? ⟨w.heap.size, 0, none⟩ = some (.int .i64 (nz : Int)) ∧ W.cell? ⟨w.heap.size, 1, none⟩ = some (.int .i64 q) ∧ W.cell? ⟨w.heap.size, 2, none⟩ = some (.slice af 45 cf) ∧ W.cell? ⟨w.heap.size, 3, none⟩ = some (.slice ar 16 cr) ∧ W.cell? ⟨w.heap.size + 1, 0, none⟩ = some (.slice (some ⟨p1, o1, none⟩) nz kp) ∧ W.cell? ⟨w.heap.size + 1, 1, none⟩ = some (.slice (some ⟨p2, o2, none⟩) nz kz) ∧ W.cell? ⟨p1, o1 + k, none⟩ = some (.slice rx nx kx) ∧ W.cell? ⟨p2, o2 + k, none⟩ = some (.slice rz nz' kz') := fun W hq =>
        ⟨(hA2.below hq).c0, (hA2.below hq).c1, (hA2.below hq).c2, (hA2.below hq).c3, (hB2.below hq).c0, (hB2.below hq).c1, ((bcell hq).1 _ _ hp1).trans cx, ((bcell hq).1 _ _ hp2).trans cz⟩
      have hacc : Below W1.heap.size W1 W1.drew := (Below.refl _ _).drew
      cases D
      · have HO := hid (HNK.out rfl)
        clear HA2 HNK
        go_wp2
        go_region_held3 (fun w' => w'.cell? ⟨w.heap.size, 0, none⟩ = some (.int .i64 (nz : Int)) ∧ w'.cell? ⟨w.heap.size, 1, none⟩ = some (.int .i64 q) ∧ w'.cell? ⟨w.heap.size, 2, none⟩ = some (.slice af 45 cf) ∧ w'.cell? ⟨w.heap.size, 3, none⟩ = some (.slice ar 16 cr) ∧ w'.cell? ⟨w.heap.size + 1, 0, none⟩ = some (.slice (some ⟨p1, o1, none⟩) nz kp) ∧ w'.cell? ⟨w.heap.size + 1, 1, none⟩ = some (.slice (some ⟨p2, o2, none⟩) nz kz) ∧ w'.cell? ⟨p1, o1 + k, none⟩ = some (.slice rx nx kx) ∧ w'.cell? ⟨p2, o2 + k, none⟩ = some (.slice rz nz' kz')) (exact hK _ hacc) ((go_at_call 26; refine (hc _ hacc).mono ?_; rintro e y2 ⟨rfl, hy2⟩; replace hacc := bthen hacc hy2 hacc.size))
        go_wp2
        go_ret
        exact ⟨ret_bool HO.out.symm, bthen hbw hacc hbw.size⟩
      · have HA3 := hid (HA2.out rfl)
        clear HA2 HNK
        go_wp2
        go_region_held3 (fun w' => w'.cell? ⟨w.heap.size, 0, none⟩ = some (.int .i64 (nz : Int)) ∧ w'.cell? ⟨w.heap.size, 1, none⟩ = some (.int .i64 q) ∧ w'.cell? ⟨w.heap.size, 2, none⟩ = some (.slice af 45 cf) ∧ w'.cell? ⟨w.heap.size, 3, none⟩ = some (.slice ar 16 cr) ∧ w'.cell? ⟨w.heap.size + 1, 0, none⟩ = some (.slice (some ⟨p1, o1, none⟩) nz kp) ∧ w'.cell? ⟨w.heap.size + 1, 1, none⟩ = some (.slice (some ⟨p2, o2, none⟩) nz kz) ∧ w'.cell? ⟨p1, o1 + k, none⟩ = some (.slice rx nx kx) ∧ w'.cell? ⟨p2, o2 + k, none⟩ = some (.slice rz nz' kz')) (exact hK _ hacc) ((go_at_call 26; refine (hc _ hacc).mono ?_; rintro e y2 ⟨rfl, hy2⟩; replace hacc := bthen hacc hy2 hacc.size))
        go_wp2
        exact ⟨⟨k + 1, by omega, by go_num, HA3, bthen HBR.out hacc HBR.out.size⟩, by simp [intOf]; omega⟩
    · have hkn : k = nz := by omega
      have HO := hid (HYES.out (fun i hi => HA.out i (by omega)))
      have hbw := bthen HW1.out HBR.out HW1.out.size
      clear hkn
      go_wp2
      go_ret
      exact ⟨ret_bool HO.out.symm, hbw⟩
end Go.Proofs.Ytolfnjlkcppplaa
/- Contract of the document's Write, of a body that may be: the posts, the residues. -/
namespace Go.Proofs.Ytolfnjlkcppplaa
open Go.RowKit
set_option linter.unusedVariables false
set_option linter.unusedSimpArgs false
set_option maxRecDepth 10000

theorem sp_bl (C n : Nat) : sp C n = bl (rvb C n n % 2 ^ n) n := by
  rw [Nat.mod_eq_of_lt (rvb_lt _ _ _)]
  refine list_ext_getD (by rw [sp_len, bl_length]) fun i hi => ?_
  rw [sp_len] at hi
  rw [sp_at C n i hi, bl_getD _ _ _ hi]
  unfold bitAt
  rw [rvb_bit C n n i hi]
theorem bit_bl (b : Nat) (hb : b < 2) : [(b : Int)] = bl (b % 2 ^ 1) 1 := by
  have : b = 0 ∨ b = 1 := by omega
  rcases this with rfl | rfl <;> rfl
/-- The document's list of bits on its way. -/
structure En (W0 wr : World) (v : Value) (E : Nat × Nat) : Prop where
  own : wr.ownsRow W0.heap.size 3 1 v E.2 ((bl E.1 E.2).map (Value.int .i64))
  bl : Below W0.heap.size W0 wr
  ok : Ok2 E
theorem En.step {W0 wr y w2 : World} {v v' : Value} {E : Nat × Nat} {val n : Nat} {ys : List Int} (h : En W0 wr v E) (hy : Below wr.heap.size wr y) (hg : y.grownBy w2 v.ownBlock) (hown : w2.ownsRow W0.heap.size 3 1 v' (E.2 + n) ((Go.Proofs.Ytolfnjlkcppplaa.bl E.1 E.2).map (Value.int .i64) ++ ys.map (Value.int .i64))) (hys : ys = Go.Proofs.Ytolfnjlkcppplaa.bl (val % 2 ^ n) n) : En W0 w2 v' (pu E val n) := by
  refine ⟨?_, (bthen h.bl hy h.bl.size).grown hg (Nat.le_trans h.bl.size hy.size) (fun k hk => (h.own.lt k hk).1), h.ok.pu val n⟩
  rw [← List.map_append, hys, ← bl_app _ _ _ _ h.ok] at hown
  exact hown
theorem En.bit {W0 wr w2 : World} {v v' : Value} {E : Nat × Nat} {b : Nat} {t : TypeId} (h : En W0 wr v E) (hb : b < 2) (hg : (wr.alloc (.cells #[.int .i64 (b : Int)] t)).grownBy w2 v.ownBlock) (hown : w2.ownsRow W0.heap.size 3 1 v' (E.2 + 1) ((Go.Proofs.Ytolfnjlkcppplaa.bl E.1 E.2).map (Value.int .i64) ++ [.int .i64 (b : Int)])) : En W0 w2 v' (pu E b 1) :=
  h.step (below1 _ _) hg (ys := [(b : Int)]) hown (bit_bl b hb)
theorem bk_bo {c q : Int} {F R : List Int} {P Z : List (List Int)} (h : boB c q F R P Z = true) : Bk F R ∧ BoOk P.length F R P Z ∧ (puZ F R P Z).2 ≤ 1442 ∧ (puP F P).2 ≤ (puZ F R P Z).2 := by
  obtain ⟨h1, h2, h3⟩ := bo_iff.1 h
  have hk := bk_of h1
  have hc := vhRight_parts h1
  refine ⟨hk, h3, ?_, (grows_puW R).fold.le (puP F P) Z⟩
  have := (bo_len hk h3).1
  omega
set_option maxHeartbeats 8000000 in
theorem rbwrite_any (c q : Int) (af : Option Addr) (nf cf : Nat) (F : List Int) (ar : Option Addr) (nr cr : Nat) (R : List Int) (ap : Option Addr) (np kp : Nat) (P : List (List Int)) (az : Option Addr) (nz kz : Nat) (Z : List (List Int)) (w : World) (h : Bks w af nf cf F ar nr cr R) (hb : BoAt w ap np kp P az nz kz Z) (hbo : boB c q F R P Z = true) :
    Calls Try.prog 16 #[.agg #[.int .i64 c, .int .i64 q, .slice af nf cf, .slice ar nr cr], .agg #[.slice ap np kp, .slice az nz kz]] w fun e w' => ∃ v, e = .returned v ∧ RwF w.heap.size .u8 w' v (boX F R P Z) ∧ Below w.heap.size w w' := by
  obtain ⟨hk, hok, hl1, hl2⟩ := bk_bo hbo
  obtain ⟨hr1, hr2, _⟩ := bo_iff.1 hbo
  obtain ⟨n, rfl⟩ := Int.eq_ofNat_of_zero_le (show 0 ≤ c by omega)
  have hc2 := (vhRight_parts hr1).2.1
  obtain rfl : 45 = nf := by rw [← h.lf, hk.lf]
  obtain rfl : 16 = nr := by rw [← h.lr, hk.lr]
  have hPn : P.length = n := by omega
  rw [hPn] at hok
  obtain rfl : n = np := by rw [← hb.lp, hPn]
  obtain rfl : n = nz := by rw [← hb.lz, hok.lz]
  have hA := (B4.new w (.int .i64 (n : Int)) (.int .i64 q) (.slice af 45 cf) (.slice ar 16 cr) 32).below (below1 _ (.cells #[.slice ap n kp, .slice az n kz] 34))
  have hB := B2.new2 w (.cells #[.int .i64 (n : Int), .int .i64 q, .slice af 45 cf, .slice ar 16 cr] 32) (.slice ap n kp) (.slice az n kz) 34
  have hW := below2 w (.cells #[.int .i64 (n : Int), .int .i64 q, .slice af 45 cf, .slice ar 16 cr] 32) (.cells #[.slice ap n kp, .slice az n kz] 34)
  have HK := hid h
  have HB := hid hb
  have HOK := hid hok
  have HL1 := hid hl1
  have HL2 := hid hl2
  have HBK := hid hk
  obtain ⟨i0, hi, hz0, hz1, hz2⟩ := info_parts info3
  clear h hb hok hl1 hl2 hk hbo hr1 hr2
  obtain ⟨ez, e0, e1, e2, e3, f0, f1, f2, f3⟩ := id hA
  obtain ⟨bz, b0, b1, g0, g1⟩ := id hB
  go_enter Try.func16, Try.ntmps16
  go_upto_region 1 with fail
  generalize (w.alloc (.cells #[.int .i64 (n : Int), .int .i64 q, .slice af 45 cf, .slice ar 16 cr] 32)).alloc (.cells #[.slice ap n kp, .slice az n kz] 34) = W0 at *
  have HE0 : Hid (En W0 W0 (.slice none 0 0) ((P.take 0).foldl (puX F) (0, 0))) := ⟨World.ownsRow_nil _ _ _ _, Below.refl _ _, Ok2.start⟩
  go_wp2
  go_loopw [5, 6] (fun v p wr => ∃ k : Nat, k ≤ n ∧ p = .int .i64 k ∧ Hid (En W0 wr v ((P.take k).foldl (puX F) (0, 0)))) (fun _ p _ => n - (intOf p).toNat)
  case atStart => exact ⟨0, by omega, rfl, HE0⟩
  case round =>
    clear HE0
    obtain ⟨k, hk, rfl, HE⟩ := hrel
    obtain ⟨W1, rfl⟩ : ∃ x, x = wr := ⟨wr, rfl⟩
    have hA2 := hA.below HE.out.bl
    have hB2 := hB.below HE.out.bl
    clear e0 e1 e2 e3 f0 f1 f2 f3 b0 b1 g0 g1
    obtain ⟨ez', e0, e1, e2, e3, f0, f1, f2, f3⟩ := id hA2
    obtain ⟨bz', b0, b1, g0, g1⟩ := id hB2
    by_cases hlt : k < n
    · have hst := fold_step (puX F) (0, 0) P k [] (by rw [hPn]; exact hlt)
      have hle := ((grows_puX F).part P (k + 1) Ok2.start).2.1
      have hle0 := ((grows_puX F).part P k Ok2.start).2.1
      have HST := hid hst
      have hbw := bthen hW HE.out.bl hW.size
      obtain ⟨p1, o1, rfl, hp1, rx, kx, cx0, _, vx0⟩ := (HB.out.vp.below hW).at k hlt
      have cx := ((bcell HE.out.bl).1 _ _ hp1).trans cx0
      have hch := HOK.out.ch k hlt
      have hlim : ((P.take k).foldl (puX F) (0, 0)).2 ≤ 1442 := Nat.le_trans hle0 (Nat.le_trans HL2.out HL1.out)
      have hlim1 : ((P.take (k + 1)).foldl (puX F) (0, 0)).2 ≤ 1442 := Nat.le_trans hle (Nat.le_trans HL2.out HL1.out)
      have HLIM1 := hid hlim1
      clear hst hle hle0 hlim1
      generalize hEk : (P.take k).foldl (puX F) (0, 0) = E at *
      have HEK := hid hEk
      clear hEk
      generalize hxx : P.getD k [] = x at *
      clear hxx
      obtain ⟨av, cv, rfl, hcv, hmv, h0v⟩ := owns_open HE.out.own
      have hown := HE.out.own
      have i1 : (0 : Int) ≤ (k : Int) := by omega
      have i2 : (k : Int) < (n : Int) := by omega
      have i3 : IntKind.i64.wrap (k : Int) = k := wraps_i64 _ (by omega) (by omega)
      by_cases hx0 : x.length = 0
      · have hpx : puX F E x = pu E 0 1 := by unfold puX; rw [if_pos hx0]
        rw [hx0] at cx
        clear hch vx0 cx0
        go_wp2_with (at_builtin; refine wpList_append_own _ rfl _ _ 22 rfl W0.heap.size 3 i0 (.int .i64 0) 1 8 Try.underlying22 hi hz0 hz1 hz2 rfl (by decide) _ _ _ rfl (hown.alloc _) ⟨W1.heap.size, 0, none⟩ 1 1 [.int .i64 0] rfl rfl (cell_one_at rfl _ _) (one_cell _ _) ?c3 ?c4 ?c5 ?_)
        case c3 => unfold maxLen; omega
        case c4 => omega
        case c5 => have := HE.out.bl.size; simp; omega
        intro v' w2 hown' hgrow _
        have HE2 := hid (HE.out.bit (b := 0) (by omega) hgrow hown')
        rw [← hpx, ← HST.out] at HE2
        clear hown' hgrow hpx
        go_wp2
        exact ⟨⟨k + 1, by omega, by go_num, HE2⟩, by simp [intOf]; omega⟩
      · obtain ⟨hfl, hF, _, _⟩ := hch.resolve_left (fun k => hx0 k.1)
        have hpx : puX F E x = x.foldl (puS F) (pu E 1 1) := by unfold puX; rw [if_neg hx0]
        obtain ⟨h6, hbx⟩ := flOk_parts hfl
        have hx6 : ((x.length : Int) == 0) = false := by rw [h6]; rfl
        go_wp2_with (at_builtin; refine wpList_append_own _ rfl _ _ 22 rfl W0.heap.size 3 i0 (.int .i64 0) 1 8 Try.underlying22 hi hz0 hz1 hz2 rfl (by decide) _ _ _ rfl (hown.alloc _) ⟨W1.heap.size, 0, none⟩ 1 1 [.int .i64 1] rfl rfl (cell_one_at rfl _ _) (one_cell _ _) ?c3 ?c4 ?c5 ?_)
        case c3 => unfold maxLen; omega
        case c4 => omega
        case c5 => have := HE.out.bl.size; simp; omega
        intro v' w2 hown' hgrow _
        have HE1 : Hid (En W0 w2 v' ((x.take 0).foldl (puS F) (pu E 1 1))) := HE.out.bit (b := 1) (by omega) hgrow hown'
        have HST2 : Hid ((P.take (k + 1)).foldl (puX F) (0, 0) = x.foldl (puS F) (pu E 1 1)) := by unfold Hid; rw [HST.out, hpx]
        have HOKE := hid (HE.out.ok.pu 1 1)
        have hk0 := hid (show k < n from hlt)
        clear hown' hgrow hpx HE hown hcv hmv h0v cx e0 e1 e2 e3 f0 f1 f2 f3 b0 b1 g0 g1 hA2 hB2 hlim
        go_wp2
        go_loopw [5, 7] (fun v p wr => ∃ j : Nat, j ≤ 6 ∧ p = .int .i64 j ∧ Hid (En W0 wr v ((x.take j).foldl (puS F) (pu E 1 1)))) (fun _ p _ => 6 - (intOf p).toNat)
        case atStart => exact ⟨0, by omega, rfl, HE1⟩
        case round =>
          clear HE1
          obtain ⟨j, hj, rfl, HE⟩ := hrel
          obtain ⟨W2, rfl⟩ : ∃ x, x = wr := ⟨wr, rfl⟩
          by_cases hlt2 : j < 6
          · have hst := fold_step (puS F) (pu E 1 1) x j 0 (by omega)
            have hle0 := ((grows_puS F).part x j HOKE.out).2.1
            rw [← HST2.out] at hle0
            have hlim : ((x.take j).foldl (puS F) (pu E 1 1)).2 ≤ 1442 := Nat.le_trans hle0 HLIM1.out
            have HSTJ := hid hst
            have hFj := hF j hlt2
            obtain ⟨x0', x1'⟩ := hbx j (by omega)
            obtain ⟨p2, o2, hrx, hp2, cj0⟩ := (by have hv := vx0; exact hv.at j (by omega) : ∃ b off, rx = some ⟨b, off, none⟩ ∧ b < W0.heap.size ∧ W0.cell? ⟨b, off + j, none⟩ = some (.int .i64 (x.getD j 0)))
            subst hrx
            obtain ⟨X, hX⟩ : ∃ X : Nat, x.getD j 0 = X := ⟨(x.getD j 0).toNat, by omega⟩
            rw [hX] at cj0 x0' x1' hst
            rw [hX] at HSTJ
            rw [hX, Int.toNat_natCast] at hFj
            have hcode := fun W (hk : Below W0.heap.size W0 W) => code_any (.slice af 45 cf) F X W ((HK.out.vf.below hW).below hk) HBK.out.f (by rw [HBK.out.lf]; omega) hFj
            have hln := inB_at (right_parts HBK.out.f).2.2.1 X
            have HLN : Hid (sl F (X : Int) = (F.getD X 0).toNat) := by unfold Hid sl; rw [Int.toNat_natCast]
            have HPS : Hid (puS F ((x.take j).foldl (puS F) (pu E 1 1)) (X : Int) = pu ((x.take j).foldl (puS F) (pu E 1 1)) (rvb (cd F X) (F.getD X 0).toNat (F.getD X 0).toNat) (F.getD X 0).toNat) := by unfold Hid puS; rw [HLN.out, Int.toNat_natCast]
            obtain ⟨av, cv, rfl, hcv, hmv, h0v⟩ := owns_open HE.out.own
            have hown := HE.out.own
            clear hst hle0 hX x0' HLN
            generalize hEj : (x.take j).foldl (puS F) (pu E 1 1) = Ej at *
            clear hEj
            generalize hLN : (F.getD X 0).toNat = ln at *
            have hln16 : ln ≤ 16 := by omega
            clear hln hLN hFj
            have i1' : (0 : Int) ≤ (j : Int) := by omega
            have i2' : (j : Int) < 6 := by omega
            have i3' : IntKind.i64.wrap (j : Int) = j := wraps_i64 _ (by omega) (by omega)
            have i4' : (j : Int) < (x.length : Int) := by omega
            have hK : ∀ W, Below W0.heap.size W0 W → W.cell? ⟨w.heap.size, 2, none⟩ = some (.slice af 45 cf) ∧ W.cell? ⟨w.heap.size + 1, 0, none⟩ = some (.slice (some ⟨p1, o1, none⟩) n kp) ∧ W.cell? ⟨p1, o1 + k, none⟩ = some (.slice (some ⟨p2, o2, none⟩) x.length kx) ∧ W.cell? ⟨p2, o2 + j, none⟩ = some (.int .i64 (X : Nat)) := fun W hq =>
              ⟨(hA.below hq).c2, (hB.below hq).c0, ((bcell hq).1 _ _ hp1).trans cx0, ((bcell hq).1 _ _ hp2).trans cj0⟩
            have hacc : Below W0.heap.size W0 W2.drew := HE.out.bl.drew
            go_wp2
            go_region_held3 (fun w' => w'.cell? ⟨w.heap.size, 2, none⟩ = some (.slice af 45 cf) ∧ w'.cell? ⟨w.heap.size + 1, 0, none⟩ = some (.slice (some ⟨p1, o1, none⟩) n kp) ∧ w'.cell? ⟨p1, o1 + k, none⟩ = some (.slice (some ⟨p2, o2, none⟩) x.length kx) ∧ w'.cell? ⟨p2, o2 + j, none⟩ = some (.int .i64 (X : Nat))) (exact hK _ hacc) (first
              | (go_at_call 29; refine (hcode _ hacc).mono ?_; rintro e y2 ⟨v2, rfl, hown2, hy2⟩; obtain ⟨a2, c2, rfl, hc2, hm2, h02⟩ := owns_open hown2; have hrw2 := Rw.of_owns hown2; replace hacc := bthen hacc hy2 hacc.size; have hownN := owns_below hown (drew_below hy2))
              | (refine step_append_rw (by rfl) _ _ _ (by rfl) W0.heap.size 3 i0 (.int .i64 0) 8 Try.underlying22 hi hz0 hz1 hz2 rfl .i64 (.slice av Ej.2 cv) Ej.2 ((bl Ej.1 Ej.2).map (Value.int .i64)) (by rfl) hownN a2 ln c2 (sp (cd F X) ln) (sp_len _ _) (by rfl) hrw2 h02 (by unfold maxLen; omega) (by omega) hacc.size ?_; intro v3 w3 hown3 hgrow3; have HE3 := hid (HE.out.step (drew_below hy2) hgrow3 hown3 (sp_bl _ _)); replace hacc := HE3.out.bl))
            rw [← HPS.out, ← HSTJ.out] at HE3
            go_wp2
            exact ⟨⟨j + 1, by omega, by go_num, HE3⟩, by simp [intOf]; omega⟩
          · have hj6 : j = 6 := by omega
            have hE2 := HE.out
            rw [hj6, ← h6, List.take_length, ← HST2.out] at hE2
            have HE2 := hid hE2
            clear hE2 HE hj6 hj
            go_wp2
            exact ⟨⟨k + 1, by omega, by go_num, HE2⟩, by simp [intOf]; have := hk0.out; omega⟩
    · have hkn : k = n := by omega
      have hE2 := HE.out
      rw [hkn, ← hPn, List.take_length] at hE2
      have HEP : Hid (En W0 W1 _ ((Z.take 0).foldl (puW R) (puP F P))) := hE2
      clear hE2 HE hkn hk
      go_wp2
      go_loopw [5, 8] (fun v p wr => ∃ m : Nat, m ≤ n ∧ p = .int .i64 m ∧ Hid (En W0 wr v ((Z.take m).foldl (puW R) (puP F P)))) (fun _ p _ => n - (intOf p).toNat)
      case atStart => exact ⟨0, by omega, rfl, HEP⟩
      case round =>
        clear HEP hlt e0 e1 e2 e3 f0 f1 f2 f3 b0 b1 g0 g1 hA2 hB2
        obtain ⟨m, hm, rfl, HE⟩ := hrel
        obtain ⟨W3, rfl⟩ : ∃ x, x = wr := ⟨wr, rfl⟩
        have hA2 := hA.below HE.out.bl
        have hB2 := hB.below HE.out.bl
        obtain ⟨ez1, e0, e1, e2, e3, f0, f1, f2, f3⟩ := id hA2
        obtain ⟨bz1, b0, b1, g0, g1⟩ := id hB2
        by_cases hlt : m < n
        · have hZl : m < Z.length := by rw [HOK.out.lz]; exact hlt
          have HSTM := hid (fold_step (puW R) (puP F P) Z m [] hZl)
          have hle := ((grows_puW R).part Z (m + 1) (ok_puP F P)).2.1
          have HLIM := hid (Nat.le_trans hle HL1.out)
          have HOKM := hid ((grows_puW R).part Z m (ok_puP F P)).1
          rw [HSTM.out] at HLIM
          obtain ⟨p1, o1, rfl, hp1, rz, kz', cz0, _, vz0⟩ := (HB.out.vz.below hW).at m hlt
          have hch := HOK.out.ch m hlt
          generalize hEm : (Z.take m).foldl (puW R) (puP F P) = Em at *
          have HEM := hid hEm
          clear hEm hle
          generalize hzz : Z.getD m [] = z at *
          have hz16 : z.length ≤ 16 := by rcases hch with h0 | h0; exact Nat.le_trans (Nat.le_of_eq h0.2) (by omega); exact Nat.le_of_eq h0.2.2.1
          have HZB : Hid (∀ j, j < z.length → -4194303 ≤ z.getD j 0 ∧ z.getD j 0 ≤ 4194303) := fun j hj => by
            rcases hch with h0 | h0
            · have := h0.2; omega
            · exact h0.2.2.2 j hj
          clear hzz hch
          have HE1 : Hid (En W0 W3 _ ((z.take 0).foldl (puV R) Em)) := HE
          clear HE
          obtain ⟨nz2, hnz2⟩ : ∃ nz2, z.length = nz2 := ⟨_, rfl⟩
          rw [hnz2] at cz0 hz16
          have HNZ := hid hnz2
          have hmn := hid hlt
          clear hnz2
          go_wp2
          go_loopw [5, 9] (fun v p wr => ∃ j : Nat, j ≤ nz2 ∧ p = .int .i64 j ∧ Hid (En W0 wr v ((z.take j).foldl (puV R) Em))) (fun _ p _ => nz2 - (intOf p).toNat)
          case atStart => exact ⟨0, by omega, rfl, HE1⟩
          case round =>
            clear HE1 e0 e1 e2 e3 f0 f1 f2 f3 b0 b1 g0 g1 hA2 hB2
            obtain ⟨j, hj, rfl, HE⟩ := hrel
            obtain ⟨W4, rfl⟩ : ∃ x, x = wr := ⟨wr, rfl⟩
            have hA2 := hA.below HE.out.bl
            have hB2 := hB.below HE.out.bl
            obtain ⟨ez2, e0, e1, e2, e3, f0, f1, f2, f3⟩ := id hA2
            obtain ⟨bz2, b0, b1, g0, g1⟩ := id hB2
            have cz := ((bcell HE.out.bl).1 _ _ hp1).trans cz0
            have i1 : (0 : Int) ≤ (m : Int) := by omega
            have i2 : (m : Int) < (n : Int) := by have := hmn.out; omega
            have i3 : IntKind.i64.wrap (m : Int) = m := wraps_i64 _ (by omega) (by omega)
            by_cases hlt2 : j < nz2
            · have hjl : j < z.length := by rw [HNZ.out]; exact hlt2
              have HSTJ := hid (fold_step (puV R) Em z j 0 hjl)
              have hle0 := ((grows_puV R).part (E := Em) z j HOKM.out).2.1
              have hlim : ((z.take j).foldl (puV R) Em).2 ≤ 1442 := Nat.le_trans hle0 HLIM.out
              obtain ⟨v0, v1⟩ := HZB.out j hjl
              obtain ⟨p2, o2, hrz, hp2, cj0⟩ := (by have hv := vz0; exact hv.at j hjl : ∃ b off, rz = some ⟨b, off, none⟩ ∧ b < W0.heap.size ∧ W0.cell? ⟨b, off + j, none⟩ = some (.int .i64 (z.getD j 0)))
              subst hrz
              have cj := ((bcell HE.out.bl).1 _ _ hp2).trans cj0
              obtain ⟨av, cv, rfl, hcv, hmv, h0v⟩ := owns_open HE.out.own
              have hown := HE.out.own
              have hacc : Below W0.heap.size W0 W4 := HE.out.bl
              have hRat : ∀ s : Nat, s < 16 → ∃ b off, ar = some ⟨b, off, none⟩ ∧ b < w.heap.size ∧ w.cell? ⟨b, off + s, none⟩ = some (.int .i64 (R.getD s 0)) := fun s hs => by
                have hv := HK.out.vr
                rw [← HK.out.lr] at hv
                exact hv.at s (by rw [HK.out.lr]; exact hs)
              have hcode := fun (s : Nat) (hs : s < 16) (h0 : 0 < R.getD s 0) W (hk : Below W0.heap.size W0 W) => code_any (.slice ar 16 cr) R s W ((HK.out.vr.below hW).below hk) HBK.out.r (by rw [HBK.out.lr]; exact hs) h0
              have hln := fun s => inB_at (right_parts HBK.out.r).2.2.1 s
              clear hle0
              generalize hEj : (z.take j).foldl (puV R) Em = Ej at *
              clear hEj
              generalize z.getD j 0 = V at *
              have j1 : (0 : Int) ≤ (j : Int) := by omega
              have j2 : (j : Int) < (nz2 : Int) := by omega
              have j3 : IntKind.i64.wrap (j : Int) = j := wraps_i64 _ (by omega) (by omega)
              have hbw := bthen hW HE.out.bl hW.size
              by_cases hs : shR R V = true
              · obtain ⟨hy, s0, s1⟩ := HBK.out.sh hs
                obtain ⟨S, hS⟩ : ∃ S : Nat, V + 7 = S := ⟨(V + 7).toNat, by omega⟩
                have hS16 : S < 16 := by omega
                have hpos : 0 < R.getD S 0 := by have h := hy.2.2; rw [hS, Int.toNat_natCast] at h; exact h
                have HPV : Hid (puV R Ej V = pu Ej (rvb (cd R S) (R.getD S 0).toNat (R.getD S 0).toNat) (R.getD S 0).toNat) := by
                  unfold Hid puV; rw [if_pos hs, hS]; unfold puS sl; rw [Int.toNat_natCast]
                obtain ⟨p3, o3, rfl, hp3, cr0⟩ := hRat S hS16
                have crS := ((bcell hbw).1 _ _ hp3).trans cr0
                have hcS := hcode S hS16 hpos
                have hlS := hln S
                have d1 : decide (-7 ≤ V) = true := decide_eq_true s0
                have d2 : decide (V ≤ 7) = true := decide_eq_true s1
                have d3 : ((R.getD S 0) != 0) = true := by rw [bne_iff_ne]; omega
                have hw7 : IntKind.i64.wrap (V + 7) = (S : Int) := by rw [wraps_i64 _ (by omega) (by omega)]; exact hS
                have k1 : (0 : Int) ≤ (S : Int) := by omega
                have k2 : (S : Int) < 16 := by omega
                have k3 : IntKind.i64.wrap (S : Int) = S := wraps_i64 _ (by omega) (by omega)
                clear hs hy hRat hcode hln cr0 hpos
                generalize hlS2 : (R.getD S 0).toNat = l2 at *
                have hl16 : l2 ≤ 16 := by omega
                clear hlS2 hlS
                generalize R.getD S 0 = r2 at *
                go_wp2_with (first | (go_at_call 29; refine (hcS _ hacc).mono ?_; rintro e y2 ⟨v2, rfl, hown2, hy2⟩; obtain ⟨a2, c2, rfl, hc2, hm2, h02⟩ := owns_open hown2; have hrw2 := Rw.of_owns hown2; replace hacc := bthen hacc hy2 hacc.size; have hownN := owns_below hown hy2) | (at_builtin; refine wpList_append_rw rfl _ _ _ rfl W0.heap.size 3 i0 (.int .i64 0) 8 Try.underlying22 hi hz0 hz1 hz2 rfl .i64 _ Ej.2 _ rfl hownN a2 c2 (sp (cd R S) l2) (by rw [sp_len]; rfl) (by rw [sp_len]; exact hrw2) h02 (by rw [sp_len]; unfold maxLen; omega) (by rw [sp_len]; omega) hacc.size ?_; intro v3 w3 hown3 hgrow3; rw [sp_len] at hown3; have HEa := hid (HE.out.step hy2 hgrow3 hown3 (sp_bl _ _)); replace hacc := HEa.out.bl; obtain ⟨Ea, hEa⟩ : ∃ Ea, Ea = pu Ej (rvb (cd R S) l2 l2) l2 := ⟨_, rfl⟩; rw [← hEa] at HEa;  have HEae := hid hEa; clear hEa; clear hown3 hgrow3 hownN hown2 hrw2))
                have hEnd := HEa.out
                rw [HEae.out, ← HPV.out, ← HSTJ.out] at hEnd
                have HEz := hid hEnd
                exact ⟨⟨j + 1, by omega, by go_num, HEz⟩, by simp [intOf]; omega⟩
              · obtain ⟨M, hM0⟩ : ∃ M : Nat, V.natAbs = M := ⟨_, rfl⟩
                have hM1 : M ≤ 4194303 := by omega
                have e22 : (2 : Nat) ^ 22 = 4194304 := by decide
                have HM : Hid (bl M 22 = bl (M % 2 ^ 22) 22) := by unfold Hid; rw [e22, Nat.mod_eq_of_lt (by omega)]
                have hlow := fun W => low_any M 22 (by omega) (by omega) W
                have hc15 := hcode 15 (by omega) HBK.out.r15
                have hl15 := hln 15
                have HS15 : Hid (puS R Ej 15 = pu Ej (rvb (cd R 15) (R.getD 15 0).toNat (R.getD 15 0).toNat) (R.getD 15 0).toNat) := rfl
                have HPB1 : Hid (V < 0 → puV R Ej V = pu (pu (pu Ej (rvb (cd R 15) (R.getD 15 0).toNat (R.getD 15 0).toNat) (R.getD 15 0).toNat) 1 1) M 22) := fun hv => by
                  unfold puV; rw [if_neg hs, if_pos hv, hM0]; rfl
                have HPB0 : Hid (¬ V < 0 → puV R Ej V = pu (pu (pu Ej (rvb (cd R 15) (R.getD 15 0).toNat (R.getD 15 0).toNat) (R.getD 15 0).toNat) 0 1) M 22) := fun hv => by
                  unfold puV; rw [if_neg hs, if_neg hv, hM0]; rfl
                have hsh : -7 ≤ V → V ≤ 7 → R.getD (V + 7).toNat 0 = 0 := fun a b => by
                  have h := (five_of_right HBK.out.r (V + 7).toNat).1
                  have h2 : ¬ 0 < R.getD (V + 7).toNat 0 := fun h3 => hs (by unfold shR; rw [decide_eq_true_eq]; exact ⟨a, b, h3⟩)
                  omega
                clear hcode hln hs HS15 e22
                generalize hl2 : (R.getD 15 0).toNat = l15 at *
                have hl16 : l15 ≤ 16 := by omega
                clear hl2 hl15
                by_cases hv : V < 0
                · have HPB := hid (HPB1.out hv)
                  have d0 : decide (V < 0) = true := decide_eq_true hv
                  have hneg : IntKind.i64.wrap (-V) = (M : Int) := by rw [wraps_i64 _ (by omega) (by omega)]; omega
                  have hneg2 : -V = (M : Int) := by omega
                  clear hM0 hM1 HPB0 HPB1
                  by_cases c1 : -7 ≤ V
                  · have hr0 := hsh c1 (by omega)
                    obtain ⟨S, hS⟩ : ∃ S : Nat, V + 7 = S := ⟨(V + 7).toNat, by omega⟩
                    have hS16 : S < 16 := by omega
                    obtain ⟨p3, o3, rfl, hp3, cr0⟩ := hRat S hS16
                    have crS := ((bcell hbw).1 _ _ hp3).trans cr0
                    rw [hS, Int.toNat_natCast] at hr0
                    rw [hr0] at crS
                    have d1 : decide (-7 ≤ V) = true := decide_eq_true c1
                    have d2 : decide (V ≤ 7) = true := decide_eq_true (by omega)
                    have hw7 : IntKind.i64.wrap (V + 7) = (S : Int) := by rw [wraps_i64 _ (by omega) (by omega)]; exact hS
                    have k1 : (0 : Int) ≤ (S : Int) := by omega
                    have k2 : (S : Int) < 16 := by omega
                    have k3 : IntKind.i64.wrap (S : Int) = S := wraps_i64 _ (by omega) (by omega)
                    clear hsh hRat cr0 hr0
                    go_wp2_with (first | (go_at_call 29; refine (hc15 _ hacc).mono ?_; rintro e y2 ⟨v2, rfl, hown2, hy2⟩; obtain ⟨a2, c2, rfl, hc2, hm2, h02⟩ := owns_open hown2; have hrw2 := Rw.of_owns hown2; replace hacc := bthen hacc hy2 hacc.size; have hownN := owns_below hown hy2) | (at_builtin; refine wpList_append_rw rfl _ _ _ rfl W0.heap.size 3 i0 (.int .i64 0) 8 Try.underlying22 hi hz0 hz1 hz2 rfl .i64 _ Ej.2 _ rfl hownN a2 c2 (sp (cd R 15) l15) (by rw [sp_len]; rfl) (by rw [sp_len]; exact hrw2) h02 (by rw [sp_len]; unfold maxLen; omega) (by rw [sp_len]; omega) hacc.size ?_; intro v3 w3 hown3 hgrow3; rw [sp_len] at hown3; have HEa := hid (HE.out.step hy2 hgrow3 hown3 (sp_bl _ _)); replace hacc := HEa.out.bl; obtain ⟨Ea, hEa⟩ : ∃ Ea, Ea = pu Ej (rvb (cd R 15) l15 l15) l15 := ⟨_, rfl⟩; rw [← hEa] at HEa; have hEa3 : Ea.2 ≤ 1460 := (by have h : Ea.2 = Ej.2 + l15 := congrArg Prod.snd hEa; omega); have HEae := hid hEa; clear hEa; obtain ⟨a3, c3, rfl, hc3, hm3, h03⟩ := owns_open HEa.out.own; clear hown3 hgrow3 hownN hown2 hrw2) | (at_builtin; refine wpList_append_own _ rfl _ _ 22 rfl W0.heap.size 3 i0 (.int .i64 0) 1 8 Try.underlying22 hi hz0 hz1 hz2 rfl (by decide) _ _ _ rfl (HEa.out.own.alloc _) ⟨w3.heap.size, 0, none⟩ 1 1 [.int .i64 1] rfl rfl (cell_one_at rfl _ _) (one_cell _ _) (by unfold maxLen; omega) (by omega) (by have := HEa.out.bl.size; simp; omega) ?_; intro v4 w4 hown4 hgrow4 _; have HEb := hid (HEa.out.bit (b := 1) (by omega) hgrow4 hown4); obtain ⟨Eb, hEb⟩ : ∃ Eb, Eb = pu Ea 1 1 := ⟨_, rfl⟩; rw [← hEb] at HEb; have hEb3 : Eb.2 ≤ 1470 := (by have h : Eb.2 = Ea.2 + 1 := congrArg Prod.snd hEb; omega); have HEbe := hid hEb; clear hEb; obtain ⟨a4, c4, rfl, hc4, hm4, h04⟩ := owns_open HEb.out.own; clear hown4 hgrow4) | (go_at_call 30; refine (hlow _).mono ?_; rintro e y5 ⟨v5, rfl, hown5, hy5⟩; obtain ⟨a5, c5, rfl, hc5, hm5, h05⟩ := owns_open hown5; have hrw5 := Rw.of_owns hown5; have hownM := owns_below HEb.out.own hy5; have hsz5 := Nat.le_trans HEb.out.bl.size hy5.size) | (at_builtin; refine wpList_append_rw rfl _ _ _ rfl W0.heap.size 3 i0 (.int .i64 0) 8 Try.underlying22 hi hz0 hz1 hz2 rfl .i64 _ Eb.2 _ rfl hownM a5 c5 (bl M 22) (by rw [bl_length]; rfl) (by rw [bl_length]; exact hrw5) h05 (by rw [bl_length]; unfold maxLen; omega) (by rw [bl_length]; omega) hsz5 ?_; intro v6 w6 hown6 hgrow6; rw [bl_length] at hown6; have HEc := hid (HEb.out.step hy5 hgrow6 hown6 HM.out); clear hown6 hgrow6 hownM hown5 hrw5))
                    have hEnd := HEc.out
                    rw [HEbe.out, HEae.out, ← HPB.out, ← HSTJ.out] at hEnd
                    have HEz := hid hEnd
                    exact ⟨⟨j + 1, by omega, by go_num, HEz⟩, by simp [intOf]; omega⟩
                  · have d1 : decide (-7 ≤ V) = false := decide_eq_false c1
                    clear hsh hRat
                    go_wp2_with (first | (go_at_call 29; refine (hc15 _ hacc).mono ?_; rintro e y2 ⟨v2, rfl, hown2, hy2⟩; obtain ⟨a2, c2, rfl, hc2, hm2, h02⟩ := owns_open hown2; have hrw2 := Rw.of_owns hown2; replace hacc := bthen hacc hy2 hacc.size; have hownN := owns_below hown hy2) | (at_builtin; refine wpList_append_rw rfl _ _ _ rfl W0.heap.size 3 i0 (.int .i64 0) 8 Try.underlying22 hi hz0 hz1 hz2 rfl .i64 _ Ej.2 _ rfl hownN a2 c2 (sp (cd R 15) l15) (by rw [sp_len]; rfl) (by rw [sp_len]; exact hrw2) h02 (by rw [sp_len]; unfold maxLen; omega) (by rw [sp_len]; omega) hacc.size ?_; intro v3 w3 hown3 hgrow3; rw [sp_len] at hown3; have HEa := hid (HE.out.step hy2 hgrow3 hown3 (sp_bl _ _)); replace hacc := HEa.out.bl; obtain ⟨Ea, hEa⟩ : ∃ Ea, Ea = pu Ej (rvb (cd R 15) l15 l15) l15 := ⟨_, rfl⟩; rw [← hEa] at HEa; have hEa3 : Ea.2 ≤ 1460 := (by have h : Ea.2 = Ej.2 + l15 := congrArg Prod.snd hEa; omega); have HEae := hid hEa; clear hEa; obtain ⟨a3, c3, rfl, hc3, hm3, h03⟩ := owns_open HEa.out.own; clear hown3 hgrow3 hownN hown2 hrw2) | (at_builtin; refine wpList_append_own _ rfl _ _ 22 rfl W0.heap.size 3 i0 (.int .i64 0) 1 8 Try.underlying22 hi hz0 hz1 hz2 rfl (by decide) _ _ _ rfl (HEa.out.own.alloc _) ⟨w3.heap.size, 0, none⟩ 1 1 [.int .i64 1] rfl rfl (cell_one_at rfl _ _) (one_cell _ _) (by unfold maxLen; omega) (by omega) (by have := HEa.out.bl.size; simp; omega) ?_; intro v4 w4 hown4 hgrow4 _; have HEb := hid (HEa.out.bit (b := 1) (by omega) hgrow4 hown4); obtain ⟨Eb, hEb⟩ : ∃ Eb, Eb = pu Ea 1 1 := ⟨_, rfl⟩; rw [← hEb] at HEb; have hEb3 : Eb.2 ≤ 1470 := (by have h : Eb.2 = Ea.2 + 1 := congrArg Prod.snd hEb; omega); have HEbe := hid hEb; clear hEb; obtain ⟨a4, c4, rfl, hc4, hm4, h04⟩ := owns_open HEb.out.own; clear hown4 hgrow4) | (go_at_call 30; refine (hlow _).mono ?_; rintro e y5 ⟨v5, rfl, hown5, hy5⟩; obtain ⟨a5, c5, rfl, hc5, hm5, h05⟩ := owns_open hown5; have hrw5 := Rw.of_owns hown5; have hownM := owns_below HEb.out.own hy5; have hsz5 := Nat.le_trans HEb.out.bl.size hy5.size) | (at_builtin; refine wpList_append_rw rfl _ _ _ rfl W0.heap.size 3 i0 (.int .i64 0) 8 Try.underlying22 hi hz0 hz1 hz2 rfl .i64 _ Eb.2 _ rfl hownM a5 c5 (bl M 22) (by rw [bl_length]; rfl) (by rw [bl_length]; exact hrw5) h05 (by rw [bl_length]; unfold maxLen; omega) (by rw [bl_length]; omega) hsz5 ?_; intro v6 w6 hown6 hgrow6; rw [bl_length] at hown6; have HEc := hid (HEb.out.step hy5 hgrow6 hown6 HM.out); clear hown6 hgrow6 hownM hown5 hrw5))
                    have hEnd := HEc.out
                    rw [HEbe.out, HEae.out, ← HPB.out, ← HSTJ.out] at hEnd
                    have HEz := hid hEnd
                    exact ⟨⟨j + 1, by omega, by go_num, HEz⟩, by simp [intOf]; omega⟩
                · have HPB := hid (HPB0.out hv)
                  have d0 : decide (V < 0) = false := decide_eq_false hv
                  have hVM : V = (M : Int) := by omega
                  have d1 : decide (-7 ≤ V) = true := decide_eq_true (by omega)
                  clear hM0 HPB0 HPB1
                  by_cases c1 : V ≤ 7
                  · have hr0 := hsh (by omega) c1
                    obtain ⟨S, hS⟩ : ∃ S : Nat, V + 7 = S := ⟨(V + 7).toNat, by omega⟩
                    have hS16 : S < 16 := by omega
                    obtain ⟨p3, o3, rfl, hp3, cr0⟩ := hRat S hS16
                    have crS := ((bcell hbw).1 _ _ hp3).trans cr0
                    rw [hS, Int.toNat_natCast] at hr0
                    rw [hr0] at crS
                    have d2 : decide (V ≤ 7) = true := decide_eq_true c1
                    have hw7 : IntKind.i64.wrap (V + 7) = (S : Int) := by rw [wraps_i64 _ (by omega) (by omega)]; exact hS
                    have k1 : (0 : Int) ≤ (S : Int) := by omega
                    have k2 : (S : Int) < 16 := by omega
                    have k3 : IntKind.i64.wrap (S : Int) = S := wraps_i64 _ (by omega) (by omega)
                    clear hsh hRat cr0 hr0
                    rw [← hVM] at hlow
                    clear hVM
                    go_wp2_with (first | (go_at_call 29; refine (hc15 _ hacc).mono ?_; rintro e y2 ⟨v2, rfl, hown2, hy2⟩; obtain ⟨a2, c2, rfl, hc2, hm2, h02⟩ := owns_open hown2; have hrw2 := Rw.of_owns hown2; replace hacc := bthen hacc hy2 hacc.size; have hownN := owns_below hown hy2) | (at_builtin; refine wpList_append_rw rfl _ _ _ rfl W0.heap.size 3 i0 (.int .i64 0) 8 Try.underlying22 hi hz0 hz1 hz2 rfl .i64 _ Ej.2 _ rfl hownN a2 c2 (sp (cd R 15) l15) (by rw [sp_len]; rfl) (by rw [sp_len]; exact hrw2) h02 (by rw [sp_len]; unfold maxLen; omega) (by rw [sp_len]; omega) hacc.size ?_; intro v3 w3 hown3 hgrow3; rw [sp_len] at hown3; have HEa := hid (HE.out.step hy2 hgrow3 hown3 (sp_bl _ _)); replace hacc := HEa.out.bl; obtain ⟨Ea, hEa⟩ : ∃ Ea, Ea = pu Ej (rvb (cd R 15) l15 l15) l15 := ⟨_, rfl⟩; rw [← hEa] at HEa; have hEa3 : Ea.2 ≤ 1460 := (by have h : Ea.2 = Ej.2 + l15 := congrArg Prod.snd hEa; omega); have HEae := hid hEa; clear hEa; obtain ⟨a3, c3, rfl, hc3, hm3, h03⟩ := owns_open HEa.out.own; clear hown3 hgrow3 hownN hown2 hrw2) | (at_builtin; refine wpList_append_own _ rfl _ _ 22 rfl W0.heap.size 3 i0 (.int .i64 0) 1 8 Try.underlying22 hi hz0 hz1 hz2 rfl (by decide) _ _ _ rfl (HEa.out.own.alloc _) ⟨w3.heap.size, 0, none⟩ 1 1 [.int .i64 0] rfl rfl (cell_one_at rfl _ _) (one_cell _ _) (by unfold maxLen; omega) (by omega) (by have := HEa.out.bl.size; simp; omega) ?_; intro v4 w4 hown4 hgrow4 _; have HEb := hid (HEa.out.bit (b := 0) (by omega) hgrow4 hown4); obtain ⟨Eb, hEb⟩ : ∃ Eb, Eb = pu Ea 0 1 := ⟨_, rfl⟩; rw [← hEb] at HEb; have hEb3 : Eb.2 ≤ 1470 := (by have h : Eb.2 = Ea.2 + 1 := congrArg Prod.snd hEb; omega); have HEbe := hid hEb; clear hEb; obtain ⟨a4, c4, rfl, hc4, hm4, h04⟩ := owns_open HEb.out.own; clear hown4 hgrow4) | (go_at_call 30; refine (hlow _).mono ?_; rintro e y5 ⟨v5, rfl, hown5, hy5⟩; obtain ⟨a5, c5, rfl, hc5, hm5, h05⟩ := owns_open hown5; have hrw5 := Rw.of_owns hown5; have hownM := owns_below HEb.out.own hy5; have hsz5 := Nat.le_trans HEb.out.bl.size hy5.size) | (at_builtin; refine wpList_append_rw rfl _ _ _ rfl W0.heap.size 3 i0 (.int .i64 0) 8 Try.underlying22 hi hz0 hz1 hz2 rfl .i64 _ Eb.2 _ rfl hownM a5 c5 (bl M 22) (by rw [bl_length]; rfl) (by rw [bl_length]; exact hrw5) h05 (by rw [bl_length]; unfold maxLen; omega) (by rw [bl_length]; omega) hsz5 ?_; intro v6 w6 hown6 hgrow6; rw [bl_length] at hown6; have HEc := hid (HEb.out.step hy5 hgrow6 hown6 HM.out); clear hown6 hgrow6 hownM hown5 hrw5))
                    have hEnd := HEc.out
                    rw [HEbe.out, HEae.out, ← HPB.out, ← HSTJ.out] at hEnd
                    have HEz := hid hEnd
                    exact ⟨⟨j + 1, by omega, by go_num, HEz⟩, by simp [intOf]; omega⟩
                  · have d2 : decide (V ≤ 7) = false := decide_eq_false c1
                    clear hsh hRat
                    rw [← hVM] at hlow
                    clear hVM
                    go_wp2_with (first | (go_at_call 29; refine (hc15 _ hacc).mono ?_; rintro e y2 ⟨v2, rfl, hown2, hy2⟩; obtain ⟨a2, c2, rfl, hc2, hm2, h02⟩ := owns_open hown2; have hrw2 := Rw.of_owns hown2; replace hacc := bthen hacc hy2 hacc.size; have hownN := owns_below hown hy2) | (at_builtin; refine wpList_append_rw rfl _ _ _ rfl W0.heap.size 3 i0 (.int .i64 0) 8 Try.underlying22 hi hz0 hz1 hz2 rfl .i64 _ Ej.2 _ rfl hownN a2 c2 (sp (cd R 15) l15) (by rw [sp_len]; rfl) (by rw [sp_len]; exact hrw2) h02 (by rw [sp_len]; unfold maxLen; omega) (by rw [sp_len]; omega) hacc.size ?_; intro v3 w3 hown3 hgrow3; rw [sp_len] at hown3; have HEa := hid (HE.out.step hy2 hgrow3 hown3 (sp_bl _ _)); replace hacc := HEa.out.bl; obtain ⟨Ea, hEa⟩ : ∃ Ea, Ea = pu Ej (rvb (cd R 15) l15 l15) l15 := ⟨_, rfl⟩; rw [← hEa] at HEa; have hEa3 : Ea.2 ≤ 1460 := (by have h : Ea.2 = Ej.2 + l15 := congrArg Prod.snd hEa; omega); have HEae := hid hEa; clear hEa; obtain ⟨a3, c3, rfl, hc3, hm3, h03⟩ := owns_open HEa.out.own; clear hown3 hgrow3 hownN hown2 hrw2) | (at_builtin; refine wpList_append_own _ rfl _ _ 22 rfl W0.heap.size 3 i0 (.int .i64 0) 1 8 Try.underlying22 hi hz0 hz1 hz2 rfl (by decide) _ _ _ rfl (HEa.out.own.alloc _) ⟨w3.heap.size, 0, none⟩ 1 1 [.int .i64 0] rfl rfl (cell_one_at rfl _ _) (one_cell _ _) (by unfold maxLen; omega) (by omega) (by have := HEa.out.bl.size; simp; omega) ?_; intro v4 w4 hown4 hgrow4 _; have HEb := hid (HEa.out.bit (b := 0) (by omega) hgrow4 hown4); obtain ⟨Eb, hEb⟩ : ∃ Eb, Eb = pu Ea 0 1 := ⟨_, rfl⟩; rw [← hEb] at HEb; have hEb3 : Eb.2 ≤ 1470 := (by have h : Eb.2 = Ea.2 + 1 := congrArg Prod.snd hEb; omega); have HEbe := hid hEb; clear hEb; obtain ⟨a4, c4, rfl, hc4, hm4, h04⟩ := owns_open HEb.out.own; clear hown4 hgrow4) | (go_at_call 30; refine (hlow _).mono ?_; rintro e y5 ⟨v5, rfl, hown5, hy5⟩; obtain ⟨a5, c5, rfl, hc5, hm5, h05⟩ := owns_open hown5; have hrw5 := Rw.of_owns hown5; have hownM := owns_below HEb.out.own hy5; have hsz5 := Nat.le_trans HEb.out.bl.size hy5.size) | (at_builtin; refine wpList_append_rw rfl _ _ _ rfl W0.heap.size 3 i0 (.int .i64 0) 8 Try.underlying22 hi hz0 hz1 hz2 rfl .i64 _ Eb.2 _ rfl hownM a5 c5 (bl M 22) (by rw [bl_length]; rfl) (by rw [bl_length]; exact hrw5) h05 (by rw [bl_length]; unfold maxLen; omega) (by rw [bl_length]; omega) hsz5 ?_; intro v6 w6 hown6 hgrow6; rw [bl_length] at hown6; have HEc := hid (HEb.out.step hy5 hgrow6 hown6 HM.out); clear hown6 hgrow6 hownM hown5 hrw5))
                    have hEnd := HEc.out
                    rw [HEbe.out, HEae.out, ← HPB.out, ← HSTJ.out] at hEnd
                    have HEz := hid hEnd
                    exact ⟨⟨j + 1, by omega, by go_num, HEz⟩, by simp [intOf]; omega⟩
            · have hjn : j = nz2 := by omega
              have hE2 := HE.out
              rw [hjn, ← HNZ.out, List.take_length] at hE2
              have hq2 : (Z.take (m + 1)).foldl (puW R) (puP F P) = z.foldl (puV R) Em := HSTM.out
              rw [← hq2] at hE2
              have HE2 := hid hE2
              clear hq2 hE2 HE hjn hj
              go_wp2
              exact ⟨⟨m + 1, by omega, by go_num, HE2⟩, by simp [intOf]; have := hmn.out; omega⟩
        · have hmn : m = n := by omega
          have hE2 := HE.out
          rw [hmn, ← HOK.out.lz, List.take_length] at hE2
          have hE3 : En W0 W3 _ (puZ F R P Z) := hE2
          have hbb := fun v W hv => bytes_any v (puZ F R P Z).1 (puZ F R P Z).2 W hv hE3.ok (by have := HL1.out; omega)
          have hrw := Rw.of_owns hE3.own
          have hacc := hE3.bl
          have HBX : Hid (boX F R P Z = byL (puZ F R P Z).1 (((puZ F R P Z).2 + 7) / 8)) := rfl
          clear hE2 hE3 HE hmn hm
          go_wp2_with (go_at_call 31; refine (hbb _ _ hrw).mono ?_; rintro e z1 ⟨v9, rfl, hown9, hy9⟩)
          go_ret
          rw [HBX.out]
          exact ⟨_, rfl, (RwF.of_owns hown9).mono (Nat.le_trans hW.size hacc.size), bthen hW (bthen hacc hy9 hacc.size) hW.size⟩
end Go.Proofs.Ytolfnjlkcppplaa
/- Contracts: the statement's As, the document's Same of bodies. -/
namespace Go.Proofs.Ytolfnjlkcppplaa
open Go.RowKit
set_option linter.unusedVariables false
set_option linter.unusedSimpArgs false
set_option maxRecDepth 10000

theorem as17_any (ap : Option Addr) (np kp : Nat) (az : Option Addr) (nz kz : Nat) (w : World) :
    Calls Try.prog 14 #[.agg #[.slice ap np kp, .slice az nz kz]] w fun e w' => e = .returned (.agg #[.slice ap np kp, .slice az nz kz]) ∧ Below w.heap.size w w' := by
  have hB := B2.new2 w (.cells #[.slice ap np kp, .slice az nz kz] 28) (.slice ap np kp) (.slice az nz kz) 34
  have hW := below2 w (.cells #[.slice ap np kp, .slice az nz kz] 28) (.cells #[.slice ap np kp, .slice az nz kz] 34)
  go_enter Try.func14, Try.ntmps14
  go_wp2
  obtain ⟨gz, g0, g1, k0, k1⟩ := hB
  refine bodyPost_ret (v := .agg #[.slice ap np kp, .slice az nz kz]) (by simp [results, Try.results14, go_sem, g0, g1, k0, k1]) rfl ⟨rfl, hW⟩
set_option maxHeartbeats 4000000 in
theorem same17_yes (a1 : Option Addr) (n1 c1 : Nat) (b1 : Option Addr) (m1 d1 : Nat) (a2 : Option Addr) (c2 : Nat) (b2 : Option Addr) (d2 : Nat) (P Z : List (List Int)) (w : World) (hP : P.length = n1) (hZ : Z.length = m1) (lp : ∀ i, i < n1 → (P.getD i []).length ≤ 100) (lz : ∀ i, i < m1 → (Z.getD i []).length ≤ 100)
    (v1 : Fr false w (.slice a1 n1 c1) P) (v2 : Fr false w (.slice b1 m1 d1) Z) (v3 : Fr false w (.slice a2 n1 c2) P) (v4 : Fr false w (.slice b2 m1 d2) Z) (hn : n1 ≤ 1000) (hm : m1 ≤ 1000) :
    Calls Try.prog 20 #[.agg #[.slice a1 n1 c1, .slice b1 m1 d1], .agg #[.slice a2 n1 c2, .slice b2 m1 d2]] w fun e w' => e = .returned (.bool true) ∧ Below w.heap.size w w' := by
  have hW := below2 w (.cells #[.slice a1 n1 c1, .slice b1 m1 d1] 34) (.cells #[.slice a2 n1 c2, .slice b2 m1 d2] 34)
  have hA := (B2.new w (.slice a1 n1 c1) (.slice b1 m1 d1) 34).below (below1 _ (.cells #[.slice a2 n1 c2, .slice b2 m1 d2] 34))
  have hB := B2.new2 w (.cells #[.slice a1 n1 c1, .slice b1 m1 d1] 34) (.slice a2 n1 c2) (.slice b2 m1 d2) 34
  have VA := hid (v1.below hW)
  have VB := hid (v2.below hW)
  have VC := hid (v3.below hW)
  have VD := hid (v4.below hW)
  have HP := hid hP
  have HZ := hid hZ
  have LP := hid lp
  have LZ := hid lz
  have q1 : ((n1 : Int) != (n1 : Int)) = false := by simp
  have q2 : ((m1 : Int) != (m1 : Int)) = false := by simp
  clear v1 v2 v3 v4 hP hZ lp lz
  obtain ⟨ez, e0, e1, f0, f1⟩ := id hA
  obtain ⟨gz, g0, g1, h0, h1⟩ := id hB
  go_enter Try.func20, Try.ntmps20
  go_upto_region 1 with fail
  generalize (w.alloc (.cells #[.slice a1 n1 c1, .slice b1 m1 d1] 34)).alloc (.cells #[.slice a2 n1 c2, .slice b2 m1 d2] 34) = W0 at *
  go_wp2
  go_loopw [5] (fun p wr => ∃ k : Nat, k ≤ n1 ∧ p = .int .i64 k ∧ Hid (Below W0.heap.size W0 wr)) (fun p _ => n1 - (intOf p).toNat)
  case atStart => exact ⟨0, by omega, rfl, Below.refl _ _⟩
  case round =>
    obtain ⟨k, hk, rfl, HBR⟩ := hrel
    obtain ⟨W1, rfl⟩ : ∃ x, x = wr := ⟨wr, rfl⟩
    clear e0 e1 f0 f1 g0 g1 h0 h1
    obtain ⟨ez', e0, e1, f0, f1⟩ := hA.below HBR.out
    obtain ⟨gz', g0, g1, h0, h1⟩ := hB.below HBR.out
    by_cases hlt : k < n1
    · obtain ⟨p1, o1, rfl, hp1, r1, k1, x1, _, y1⟩ := VA.out.at k hlt
      obtain ⟨p2, o2, rfl, hp2, r2, k2, x2, _, y2⟩ := VC.out.at k hlt
      have hs := fun W (hq : Below W0.heap.size W0 W) => same_yes _ _ _ W (y1.below hq) (y2.below hq) (LP.out k hlt)
      generalize (P.getD k []).length = ln at *
      have i1 : (0 : Int) ≤ (k : Int) := by omega
      have i2 : (k : Int) < (n1 : Int) := by omega
      have i3 : IntKind.i64.wrap (k : Int) = k := wraps_i64 _ (by omega) (by omega)
      have hK : ∀ W, Below W0.heap.size W0 W → W.cell? ⟨w.heap.size, 0, none⟩ = some (.slice (some ⟨p1, o1, none⟩) n1 c1) ∧ W.cell? ⟨w.heap.size + 1, 0, none⟩ = some (.slice (some ⟨p2, o2, none⟩) n1 c2) ∧ W.cell? ⟨p1, o1 + k, none⟩ = some (.slice r1 ln k1) ∧ W.cell? ⟨p2, o2 + k, none⟩ = some (.slice r2 ln k2) := fun W hq =>
        ⟨(hA.below hq).c0, (hB.below hq).c0, ((bcell hq).1 _ _ hp1).trans x1, ((bcell hq).1 _ _ hp2).trans x2⟩
      have hacc : Below W0.heap.size W0 W1.drew := HBR.out.drew
      go_wp2
      go_region_held3 (fun w' => w'.cell? ⟨w.heap.size, 0, none⟩ = some (.slice (some ⟨p1, o1, none⟩) n1 c1) ∧ w'.cell? ⟨w.heap.size + 1, 0, none⟩ = some (.slice (some ⟨p2, o2, none⟩) n1 c2) ∧ w'.cell? ⟨p1, o1 + k, none⟩ = some (.slice r1 ln k1) ∧ w'.cell? ⟨p2, o2 + k, none⟩ = some (.slice r2 ln k2)) (exact hK _ hacc) ((go_at_call 39; refine (hs _ hacc).mono ?_; rintro e z1 ⟨rfl, hz1⟩; replace hacc := bthen hacc hz1 hacc.size))
      go_wp2
      exact ⟨⟨k + 1, by omega, by go_num, hacc⟩, by simp [intOf]; omega⟩
    · have HBR0 := HBR
      clear hk HBR
      go_wp2
      go_loopw [6] (fun p wr => ∃ m : Nat, m ≤ m1 ∧ p = .int .i64 m ∧ Hid (Below W0.heap.size W0 wr)) (fun p _ => m1 - (intOf p).toNat)
      case atStart => exact ⟨0, by omega, rfl, HBR0⟩
      case round =>
        clear HBR0 hlt
        obtain ⟨m, hmm, rfl, HBR⟩ := hrel
        obtain ⟨W2, rfl⟩ : ∃ x, x = wr := ⟨wr, rfl⟩
        clear e0 e1 f0 f1 g0 g1 h0 h1
        obtain ⟨ez'', e0, e1, f0, f1⟩ := hA.below HBR.out
        obtain ⟨gz'', g0, g1, h0, h1⟩ := hB.below HBR.out
        by_cases hlt : m < m1
        · obtain ⟨p1, o1, rfl, hp1, r1, k1, x1, _, y1⟩ := VB.out.at m hlt
          obtain ⟨p2, o2, rfl, hp2, r2, k2, x2, _, y2⟩ := VD.out.at m hlt
          have hs := fun W (hq : Below W0.heap.size W0 W) => same64_yes _ _ _ W (y1.below hq) (y2.below hq) (LZ.out m hlt)
          generalize (Z.getD m []).length = ln at *
          have i1 : (0 : Int) ≤ (m : Int) := by omega
          have i2 : (m : Int) < (m1 : Int) := by omega
          have i3 : IntKind.i64.wrap (m : Int) = m := wraps_i64 _ (by omega) (by omega)
          have hK : ∀ W, Below W0.heap.size W0 W → W.cell? ⟨w.heap.size, 1, none⟩ = some (.slice (some ⟨p1, o1, none⟩) m1 d1) ∧ W.cell? ⟨w.heap.size + 1, 1, none⟩ = some (.slice (some ⟨p2, o2, none⟩) m1 d2) ∧ W.cell? ⟨p1, o1 + m, none⟩ = some (.slice r1 ln k1) ∧ W.cell? ⟨p2, o2 + m, none⟩ = some (.slice r2 ln k2) := fun W hq =>
            ⟨(hA.below hq).c1, (hB.below hq).c1, ((bcell hq).1 _ _ hp1).trans x1, ((bcell hq).1 _ _ hp2).trans x2⟩
          have hacc : Below W0.heap.size W0 W2.drew := HBR.out.drew
          go_wp2
          go_region_held3 (fun w' => w'.cell? ⟨w.heap.size, 1, none⟩ = some (.slice (some ⟨p1, o1, none⟩) m1 d1) ∧ w'.cell? ⟨w.heap.size + 1, 1, none⟩ = some (.slice (some ⟨p2, o2, none⟩) m1 d2) ∧ w'.cell? ⟨p1, o1 + m, none⟩ = some (.slice r1 ln k1) ∧ w'.cell? ⟨p2, o2 + m, none⟩ = some (.slice r2 ln k2)) (exact hK _ hacc) ((go_at_call 40; refine (hs _ hacc).mono ?_; rintro e z1 ⟨rfl, hz1⟩; replace hacc := bthen hacc hz1 hacc.size))
          go_wp2
          exact ⟨⟨m + 1, by omega, by go_num, hacc⟩, by simp [intOf]; omega⟩
        · have hbw := bthen hW HBR.out hW.size
          clear hmm
          go_wp2
          go_ret
          exact ⟨rfl, hbw⟩
end Go.Proofs.Ytolfnjlkcppplaa
/- Contract of the document's Read of a body: the posts. -/
namespace Go.Proofs.Ytolfnjlkcppplaa
open Go.RowKit
set_option linter.unusedVariables false
set_option linter.unusedSimpArgs false
set_option maxRecDepth 10000

/-- Reading on its way: where it stands, the body's box; all that was there ahead is as it was. -/
structure Rr (y1 wr : World) (p : Nat) (v u : Value) : Prop where
  pl : B2 wr y1.heap.size (.int .i64 p) (.int .i64 0)
  out : B2 wr (y1.heap.size + 1) v u
  bl : Below y1.heap.size y1 wr
theorem Rr.below {y1 wr w2 : World} {p : Nat} {v u : Value} (h : Rr y1 wr p v u) (hb : Below wr.heap.size wr w2) : Rr y1 w2 p v u :=
  ⟨h.pl.below hb, h.out.below hb, bthen h.bl hb h.bl.size⟩
theorem Rr.move {y1 wr : World} {p : Nat} {v u : Value} (h : Rr y1 wr p v u) (p' : Nat) : Rr y1 ((wr.setCell ⟨y1.heap.size, 0, none⟩ (.int .i64 p')).setCell ⟨y1.heap.size, 1, none⟩ (.int .i64 0)) p' v u :=
  ⟨(h.pl.set0 _).set1 _, (h.out.other _ _ _ (by omega)).other _ _ _ (by omega), bset2' h.bl y1.heap.size _ _ (Nat.le_refl _)⟩
theorem Rr.grown6 {y1 wr w2 : World} {p p' : Nat} {v u : Value} (h : Rr y1 wr p v u) (hg : wr.grownBy w2 (some y1.heap.size)) (hp : B2 w2 y1.heap.size (.int .i64 p') (.int .i64 0)) : Rr y1 w2 p' v u :=
  ⟨hp, h.out.grown hg (by intro e; simp only [Option.some.injEq] at e; omega), h.bl.trans (grown_lt hg h.bl.size (Nat.le_refl _))⟩
theorem ap_butp {ts : TypeId} {B : Nat} {w w' : World} {v : Value} {n : Nat} {vs : List Value} {L : Nat → List Int} (h : Ap Rp ts B w v n vs L) {p : Nat} (hg : w.grownBy w' (some p)) (hp : p < B) : Ap Rp ts B w' v n vs L := by
  refine ⟨h.1.kept hg ?_, fun j hj => Rp.keeps.grown (h.2 j hj) hg fun b hb e => by have := Option.some.inj e; omega⟩
  cases hv : v.ownBlock with
  | none => exact .inl rfl
  | some k => exact .inr fun e => by have := (h.1.lt k hv).1; have := Option.some.inj e; omega
/-- What Read of a body answers. -/
def rbE (c q : Int) (F R : List Int) (V T : Nat) : Int := if vhRight c q F R = true then tkE F R V T c.toNat else 1
def rbP (c q : Int) (F R : List Int) (V T : Nat) : List (List Int) := if rbE c q F R V T = 0 then (tkP F V T c.toNat).2.1 else []
def rbZ (c q : Int) (F R : List Int) (V T : Nat) : List (List Int) := if rbE c q F R V T = 0 then (tkZ F R V T c.toNat).2.1 else []
def RbPost (c q : Int) (F R : List Int) (V T : Nat) (w : World) (e : Ending) (w' : World) : Prop :=
  ∃ a1 c1 a2 c2, e = .returned (.tuple #[.agg #[.slice a1 (rbP c q F R V T).length c1, .slice a2 (rbZ c q F R V T).length c2], .int .i64 (rbE c q F R V T)]) ∧ Gp (fun b => w.heap.size ≤ b) w' (.slice a1 (rbP c q F R V T).length c1) (rbP c q F R V T) ∧ Gp (fun b => w.heap.size ≤ b) w' (.slice a2 (rbZ c q F R V T).length c2) (rbZ c q F R V T) ∧ Below w.heap.size w w'
theorem rb_bad {c q : Int} {F R : List Int} {V T : Nat} {w w' : World} (E : Int) (hE : rbE c q F R V T = E) (h0 : E ≠ 0) (hb : Below w.heap.size w w') : RbPost c q F R V T w (.returned (.tuple #[.agg #[.slice none 0 0, .slice none 0 0], .int .i64 E])) w' := by
  have e1 : rbP c q F R V T = [] := if_neg (by rw [hE]; exact h0)
  have e2 : rbZ c q F R V T = [] := if_neg (by rw [hE]; exact h0)
  unfold RbPost
  rw [e1, e2, hE]
  exact ⟨none, 0, none, 0, rfl, ⟨none, 0, rfl, .inl rfl⟩, ⟨none, 0, rfl, .inl rfl⟩, hb⟩
set_option maxHeartbeats 2000000 in
theorem rbread_no (c q : Int) (af : Option Addr) (nf cf : Nat) (F : List Int) (ar : Option Addr) (nr cr : Nat) (R : List Int) (ab : Option Addr) (L cb V T : Nat) (w : World) (h : Bks w af nf cf F ar nr cr R) (hR : vhRight c q F R = false) :
    Calls Try.prog 19 #[.agg #[.int .i64 c, .int .i64 q, .slice af nf cf, .slice ar nr cr], .slice ab L cb] w (RbPost c q F R V T w) := by
  have hW := below2 w (.cells #[.int .i64 c, .int .i64 q, .slice af nf cf, .slice ar nr cr] 32) (.cells #[.slice none 0 0, .slice none 0 0] 34)
  have hA := (B4.new w (.int .i64 c) (.int .i64 q) (.slice af nf cf) (.slice ar nr cr) 32).below (below1 _ (.cells #[.slice none 0 0, .slice none 0 0] 34))
  have hB := B2.new2 w (.cells #[.int .i64 c, .int .i64 q, .slice af nf cf, .slice ar nr cr] 32) (.slice none 0 0) (.slice none 0 0) 34
  have hr := rvright_any c q af nf cf F ar nr cr R _ (h.below hW)
  rw [hR] at hr
  have HF := hid (fun w' hb => rb_bad (c := c) (q := q) (F := F) (R := R) (V := V) (T := T) (w := w) (w' := w') 1 (if_neg (by rw [hR]; decide)) (by decide) hb)
  clear h hR
  obtain ⟨ez, e0, e1, e2, e3, f0, f1, f2, f3⟩ := id hA
  go_enter Try.func19, Try.ntmps19
  go_wp2_with (go_at_call 25; refine hr.mono ?_; rintro e y1 ⟨rfl, hy1⟩; have hB1 := hB.below hy1; obtain ⟨bz, b0, b1, g0, g1⟩ := id hB1)
  obtain ⟨zz, r0, r1, t0, t1⟩ := (hB1.set0 (.slice none 0 0)).set1 (.slice none 0 0)
  refine bodyPost_ret (v := .tuple #[.agg #[.slice none 0 0, .slice none 0 0], .int .i64 1]) (by simp [results, Try.results19, go_sem, r0, r1, t0, t1]) rfl (HF.out _ (bset2' (bthen' hW hy1) (w.heap.size + 1) _ _ (by omega)))
end Go.Proofs.Ytolfnjlkcppplaa
/- Contract: what is looked at of a header and a body. -/
namespace Go.Proofs.Ytolfnjlkcppplaa
open Go.RowKit
set_option linter.unusedVariables false
set_option linter.unusedSimpArgs false
set_option maxRecDepth 10000

def grS (nf nr : Nat) (P Z : List (List Int)) : Bool := decide (nf ≤ 200 ∧ nr ≤ 200 ∧ P.length ≤ 10 ∧ Z.length ≤ 10 ∧ (∀ i, i < P.length → (P.getD i []).length ≤ 50) ∧ ∀ i, i < Z.length → (Z.getD i []).length ≤ 50)
theorem grS_no {nf nr : Nat} {P Z : List (List Int)} (h : ¬ (nf ≤ 200 ∧ nr ≤ 200 ∧ P.length ≤ 10 ∧ Z.length ≤ 10 ∧ (∀ i, i < P.length → (P.getD i []).length ≤ 50) ∧ ∀ i, i < Z.length → (Z.getD i []).length ≤ 50)) : (!grS nf nr P Z) = true := by
  unfold grS; rw [decide_eq_false h]; rfl
theorem grS_small {nf nr : Nat} {P Z : List (List Int)} (h : grS nf nr P Z = true) : nf ≤ 200 ∧ nr ≤ 200 ∧ P.length ≤ 10 ∧ Z.length ≤ 10 ∧ (∀ i, i < P.length → (P.getD i []).length ≤ 50) ∧ ∀ i, i < Z.length → (Z.getD i []).length ≤ 50 := of_decide_eq_true h
set_option maxHeartbeats 4000000 in
theorem great17_any (c q : Int) (af : Option Addr) (nf cf : Nat) (ar : Option Addr) (nr cr : Nat) (ap : Option Addr) (np kp : Nat) (P : List (List Int)) (az : Option Addr) (nz kz : Nat) (Z : List (List Int)) (w : World) (lp : P.length = np) (lz : Z.length = nz) (vp : Fr false w (.slice ap np kp) P) (vz : Fr false w (.slice az nz kz) Z) :
    Calls Try.prog 9 #[.agg #[.int .i64 c, .int .i64 q, .slice af nf cf, .slice ar nr cr], .agg #[.slice ap np kp, .slice az nz kz]] w fun e w' => e = .returned (.bool (!grS nf nr P Z)) ∧ Below w.heap.size w w' := by
  have hW := below2 w (.cells #[.int .i64 c, .int .i64 q, .slice af nf cf, .slice ar nr cr] 24) (.cells #[.slice ap np kp, .slice az nz kz] 28)
  have hA := (B4.new w (.int .i64 c) (.int .i64 q) (.slice af nf cf) (.slice ar nr cr) 24).below (below1 _ (.cells #[.slice ap np kp, .slice az nz kz] 28))
  have hB := B2.new2 w (.cells #[.int .i64 c, .int .i64 q, .slice af nf cf, .slice ar nr cr] 24) (.slice ap np kp) (.slice az nz kz) 28
  have VP := hid (vp.below hW)
  have VZ := hid (vz.below hW)
  have LP := hid lp
  have LZ := hid lz
  have HNO : Hid (¬ (nf ≤ 200 ∧ nr ≤ 200 ∧ P.length ≤ 10 ∧ Z.length ≤ 10 ∧ (∀ i, i < P.length → (P.getD i []).length ≤ 50) ∧ ∀ i, i < Z.length → (Z.getD i []).length ≤ 50) → (!grS nf nr P Z) = true) := grS_no
  have HYES : Hid (nf ≤ 200 → nr ≤ 200 → np ≤ 10 → nz ≤ 10 → (∀ i, i < np → (P.getD i []).length ≤ 50) → (∀ i, i < nz → (Z.getD i []).length ≤ 50) → (!grS nf nr P Z) = false) := fun h1 h2 h3 h4 h5 h6 => by
    unfold grS
    rw [decide_eq_true ⟨h1, h2, by rw [LP.out]; exact h3, by rw [LZ.out]; exact h4, by rw [LP.out]; exact h5, by rw [LZ.out]; exact h6⟩]
    rfl
  clear vp vz lp lz
  generalize (!grS nf nr P Z) = B at *
  obtain ⟨ez, e0, e1, e2, e3, f0, f1, f2, f3⟩ := id hA
  obtain ⟨gz, g0, g1, h0, h1⟩ := id hB
  have hg := fun W => great16_any c q af nf cf ar nr cr W
  generalize hG : decide (200 < nf ∨ 200 < nr) = G at *
  have HGG : Hid (decide (200 < nf ∨ 200 < nr) = G) := hG
  clear hG
  by_cases c1 : G = true
  · subst c1
    have HO := hid (HNO.out (fun k => by have := of_decide_eq_true HGG.out; omega))
    clear HNO HYES HGG
    go_enter Try.func9, Try.ntmps9
    go_wp2_with (go_at_call 17; refine (hg _).mono ?_; rintro e y1 ⟨rfl, hy1⟩)
    go_ret
    exact ⟨ret_bool HO.out.symm, bthen' hW hy1⟩
  obtain rfl : G = false := by cases G; rfl; exact absurd rfl c1
  have hs16 := of_decide_eq_false HGG.out
  have REF : True := trivial
  by_cases c2 : 10 < np
  · have HO := hid (HNO.out (fun k => by have := k.2.2.1; rw [LP.out] at this; omega))
    have d1 : decide (10 < (np : Int)) = true := decide_eq_true (by omega)
    clear HNO HYES HGG
    go_enter Try.func9, Try.ntmps9
    go_wp2_with (go_at_call 17; refine (hg _).mono ?_; rintro e y1 ⟨rfl, hy1⟩; clear e0 e1 e2 e3 f0 f1 f2 f3 g0 g1 h0 h1; obtain ⟨gz', g0, g1, h0, h1⟩ := id (hB.below hy1))
    go_ret
    exact ⟨ret_bool HO.out.symm, bthen' hW hy1⟩
  have d1 : decide (10 < (np : Int)) = false := decide_eq_false (by omega)
  by_cases c3 : 10 < nz
  · have HO := hid (HNO.out (fun k => by have := k.2.2.2.1; rw [LZ.out] at this; omega))
    have d2 : decide (10 < (nz : Int)) = true := decide_eq_true (by omega)
    clear HNO HYES HGG
    go_enter Try.func9, Try.ntmps9
    go_wp2_with (go_at_call 17; refine (hg _).mono ?_; rintro e y1 ⟨rfl, hy1⟩; clear e0 e1 e2 e3 f0 f1 f2 f3 g0 g1 h0 h1; obtain ⟨gz', g0, g1, h0, h1⟩ := id (hB.below hy1))
    go_ret
    exact ⟨ret_bool HO.out.symm, bthen' hW hy1⟩
  have d2 : decide (10 < (nz : Int)) = false := decide_eq_false (by omega)
  go_enter Try.func9, Try.ntmps9
  go_upto_region 3 with (go_at_call 17; refine (hg _).mono ?_; rintro e y1 ⟨rfl, hy1⟩; clear e0 e1 e2 e3 f0 f1 f2 f3 g0 g1 h0 h1; obtain ⟨gz', g0, g1, h0, h1⟩ := id (hB.below hy1))
  have hB1 := hB.below hy1
  have HW1 := hid (bthen' hW hy1)
  have VP1 := hid (VP.out.below hy1)
  have VZ1 := hid (VZ.out.below hy1)
  clear hA hB hW hy1 VP VZ g0 g1 h0 h1
  obtain ⟨gz', g0, g1, h0, h1⟩ := id hB1
  go_wp2
  go_loop [5] (fun p => ∃ k : Nat, k ≤ np ∧ p = .int .i64 k ∧ Hid (∀ i, i < k → (P.getD i []).length ≤ 50)) (fun p => np - (intOf p).toNat)
  case atStart => exact ⟨0, by omega, rfl, fun i hi => by omega⟩
  case round =>
    obtain ⟨k, hk, rfl, HA⟩ := hrel
    by_cases hlt : k < np
    · obtain ⟨p1, o1, rfl, hp1, rx, kx, cx, _, _⟩ := VP1.out.at k hlt
      have HN : Hid (50 < (P.getD k []).length → B = true) := fun h => HNO.out (fun kk => by have := kk.2.2.2.2.1 k (by rw [LP.out]; exact hlt); omega)
      have HA2 : Hid ((P.getD k []).length ≤ 50 → ∀ i, i < k + 1 → (P.getD i []).length ≤ 50) := fun h i hi => by
        by_cases e : i < k
        · exact HA.out i e
        · obtain rfl : i = k := by omega
          exact h
      generalize (P.getD k []).length = ln at *
      have i1 : (0 : Int) ≤ (k : Int) := by omega
      have i2 : (k : Int) < (np : Int) := by omega
      have i3 : IntKind.i64.wrap (k : Int) = k := wraps_i64 _ (by omega) (by omega)
      by_cases c5 : 50 < ln
      · have HO := hid (HN.out c5)
        have d5 : decide (50 < (ln : Int)) = true := decide_eq_true (by omega)
        clear HN HA2
        go_wp2
        go_ret
        exact ⟨ret_bool HO.out.symm, HW1.out⟩
      · have HA3 := hid (HA2.out (by omega))
        have d5 : decide (50 < (ln : Int)) = false := decide_eq_false (by omega)
        clear HN HA2
        go_wp2
        exact ⟨⟨k + 1, by omega, by go_num, HA3⟩, by simp [intOf]; omega⟩
    · have HA0 : Hid (∀ i, i < np → (P.getD i []).length ≤ 50) := fun i hi => HA.out i (by omega)
      clear HA hk
      go_wp2
      go_loop [6] (fun p => ∃ m : Nat, m ≤ nz ∧ p = .int .i64 m ∧ Hid (∀ i, i < m → (Z.getD i []).length ≤ 50)) (fun p => nz - (intOf p).toNat)
      case atStart => exact ⟨0, by omega, rfl, fun i hi => by omega⟩
      case round =>
        clear hlt
        obtain ⟨m, hm, rfl, HA⟩ := hrel
        by_cases hlt : m < nz
        · obtain ⟨p1, o1, rfl, hp1, rx, kx, cx, _, _⟩ := VZ1.out.at m hlt
          have HN : Hid (50 < (Z.getD m []).length → B = true) := fun h => HNO.out (fun kk => by have := kk.2.2.2.2.2 m (by rw [LZ.out]; exact hlt); omega)
          have HA2 : Hid ((Z.getD m []).length ≤ 50 → ∀ i, i < m + 1 → (Z.getD i []).length ≤ 50) := fun h i hi => by
            by_cases e : i < m
            · exact HA.out i e
            · obtain rfl : i = m := by omega
              exact h
          generalize (Z.getD m []).length = ln at *
          have i1 : (0 : Int) ≤ (m : Int) := by omega
          have i2 : (m : Int) < (nz : Int) := by omega
          have i3 : IntKind.i64.wrap (m : Int) = m := wraps_i64 _ (by omega) (by omega)
          by_cases c5 : 50 < ln
          · have HO := hid (HN.out c5)
            have d5 : decide (50 < (ln : Int)) = true := decide_eq_true (by omega)
            clear HN HA2
            go_wp2
            go_ret
            exact ⟨ret_bool HO.out.symm, HW1.out⟩
          · have HA3 := hid (HA2.out (by omega))
            have d5 : decide (50 < (ln : Int)) = false := decide_eq_false (by omega)
            clear HN HA2
            go_wp2
            exact ⟨⟨m + 1, by omega, by go_num, HA3⟩, by simp [intOf]; omega⟩
        · have HO := hid (HYES.out (by omega) (by omega) (by omega) (by omega) HA0.out (fun i hi => HA.out i (by omega)))
          clear hm
          go_wp2
          go_ret
          exact ⟨ret_bool HO.out.symm, HW1.out⟩
end Go.Proofs.Ytolfnjlkcppplaa
/- Contract of the document's Read of a body. -/
namespace Go.Proofs.Ytolfnjlkcppplaa
open Go.RowKit
set_option linter.unusedVariables false
set_option linter.unusedSimpArgs false
set_option maxRecDepth 10000

theorem snoc_at {k : Nat} {L : List (List Int)} {l : List Int} (hL : L.length = k) : ∀ j, j < k + 1 → (if j < k then L.getD j [] else l) = (L ++ [l]).getD j [] := fun j hj => by
  by_cases e : j < k
  · rw [if_pos e, List.getD_eq_getElem?_getD, List.getD_eq_getElem?_getD, List.getElem?_append_left (by omega)]
  · obtain rfl : j = k := by omega
    rw [if_neg e, List.getD_eq_getElem?_getD, List.getElem?_append_right (by omega), hL, Nat.sub_self]; rfl
theorem ap_push {ts : TypeId} {B : Nat} {w1 w2 : World} {v v1 : Value} {n g c : Nat} {vs : List Value} {L : List (List Int)} {l : List Int} {o : Obj} (h : Ap Rp ts B w1 v n vs fun j => L.getD j []) (hL : L.length = n) (hr : Rp (fun b => B ≤ b ∧ some b ≠ v.ownBlock) w1 v1 l)
    (hown : w2.ownsRow B ts 1 (.slice (some ⟨g, 0, none⟩) (n + 1) c) (n + 1) (vs ++ [v1])) (hgrow : (w1.alloc o).grownBy w2 v.ownBlock) (hat : v.ownBlock = some g ∨ g = w1.heap.size + 1) :
    Ap Rp ts B w2 (.slice (some ⟨g, 0, none⟩) (n + 1) c) (n + 1) (vs ++ [v1]) fun j => (L ++ [l]).getD j [] := by
  refine ⟨hown, fun j hj => ?_⟩
  have hl : vs.length = n := by have := h.1.1; simpa using this
  have hsw : ∀ {v' : Value} {x : List Int}, Rp (fun b => B ≤ b ∧ some b ≠ v.ownBlock) w1 v' x → Rp (fun b => B ≤ b ∧ some b ≠ Value.ownBlock (.slice (some ⟨g, 0, none⟩) (n + 1) c)) w2 v' x := fun {v' x} hx => by
    have h1 := Rp.keeps.mono hx (q := fun b => (B ≤ b ∧ some b ≠ v.ownBlock) ∧ b < w1.heap.size) (fun b hb hp => ⟨hp, hb⟩)
    have h2 := Rp.keeps.grown (Rp.keeps.below h1 (below1 w1 o)) hgrow (fun b hb => hb.1.2)
    refine Rp.keeps.mono h2 fun b _ hb => ⟨hb.1.1, fun e => ?_⟩
    have e2 : b = g := by simpa [Value.ownBlock] using e
    subst e2
    rcases hat with e3 | e3
    · exact hb.1.2 e3.symm
    · have := hb.2; omega
  show Rp _ _ _ ((L ++ [l]).getD j [])
  rw [← snoc_at hL j hj]
  by_cases e : j < n
  · rw [if_pos e, show (vs ++ [v1]).getD j undef = vs.getD j undef by simp [List.getD_eq_getElem?_getD, List.getElem?_append_left (show j < vs.length by omega)]]
    exact hsw (h.2 j e)
  · have e2 : j = n := by omega
    subst e2
    rw [if_neg e, show (vs ++ [v1]).getD j undef = v1 by simp [List.getD_eq_getElem?_getD, hl]]
    exact hsw hr
theorem info_rows : (Try.prog.info? 22).map (fun i => (i.zero, i.size, i.bytes)) = some (some (.slice none 0 0), 1, 24) := by kernel_rfl
theorem info_i64 : (Try.prog.info? 2).map (fun i => (i.zero, i.size, i.bytes)) = some (some (.int .i64 0), 1, 8) := by kernel_rfl
theorem info_rows64 : (Try.prog.info? 48).map (fun i => (i.zero, i.size, i.bytes)) = some (some (.slice none 0 0), 1, 24) := by kernel_rfl
theorem grown_own {a b c : World} {s : Nat} {o : Option Nat} (h : a.grownBy b (some s)) (k : b.grownBy c o) (ho : ∀ i, o = some i → a.heap.size ≤ i) : a.grownBy c (some s) :=
  ⟨k.os.trans h.os, k.tape.trans h.tape, k.output.trans h.output, Nat.le_trans h.size k.size, fun i hi hne => (k.block i (Nat.lt_of_lt_of_le hi h.size) (fun e => by have := ho i e.symm; omega)).trans (h.block i hi hne)⟩
theorem tkC_pos {F : List Int} {V T p pj : Nat} {lj : List Int} {e : Int} (h1 : p + 1 ≤ T) (hG : fld V p 1 = 1) (h : st (tkS F V T) (p + 1) 6 = (pj, lj, e)) : tkC F V T p = (pj, lj, e) := by
  unfold tkC; rw [if_pos h1, if_pos hG, h]
theorem tkC_zero {F : List Int} {V T p : Nat} (h1 : p + 1 ≤ T) (hG : fld V p 1 ≠ 1) : tkC F V T p = (p + 1, [], 0) := by
  unfold tkC; rw [if_pos h1, if_neg hG]
theorem tkZ_of {F R : List Int} {V T n p p2 : Nat} {PL ZL : List (List Int)} {e : Int} (h1 : tkP F V T n = (p, PL, 0)) (h2 : stL (tkR R V T PL) p n = (p2, ZL, e)) : tkZ F R V T n = (p2, ZL, e) := by
  unfold tkZ; rw [h1]; exact h2
theorem tkE_res {F R : List Int} {V T n p p2 : Nat} {PL ZL : List (List Int)} {e : Int} (h1 : tkP F V T n = (p, PL, 0)) (h2 : stL (tkR R V T PL) p n = (p2, ZL, e)) : tkE F R V T n = if e ≠ 0 then e else if 8 ≤ T - p2 then 2 else if V / 2 ^ p2 ≠ 0 then 2 else 0 := by
  unfold tkE
  rw [tkZ_of h1 h2, h1]
  exact if_neg (by simp)
theorem tkR_zero {R : List Int} {V T i p : Nat} {P : List (List Int)} (h : (P.getD i []).length = 0) : tkR R V T P i p = (p, [], 0) := if_pos h
theorem tkR_pos {R : List Int} {V T i p : Nat} {P : List (List Int)} (h : (P.getD i []).length ≠ 0) : tkR R V T P i p = st (tkV R V T) p 16 := if_neg h
theorem range_getD (L : List (List Int)) (n : Nat) (h : L.length = n) : (List.range n).map (fun j => L.getD j []) = L := by
  subst h
  apply List.ext_getElem
  · simp
  · intro i h1 h2
    simp [List.getD_eq_getElem?_getD, h2]
theorem gpz_off {P : Nat → Prop} {w : World} {v : Value} {L : List (List Int)} (h : Gp P w v L) (p o : Nat) (y : Value) (hp : ¬ P p) : Gp P (w.setCell ⟨p, o, none⟩ y) v L := Gp.keeps.grown h (grown_set (World.grownBy.refl w (some p)) p o (.inr rfl) y) fun b hb e => hp (by have := Option.some.inj e; exact this ▸ hb)
theorem tkP_pos {F : List Int} {V T n p : Nat} {PL : List (List Int)} (h : tkP F V T n = (p, PL, 0)) (hn : 1 ≤ n) : 1 ≤ T := by
  by_cases hT : 1 ≤ T
  · exact hT
  · exfalso
    have htk : tkC F V T 0 = (0, [], 4) := by unfold tkC; rw [if_neg (by omega)]
    have h1 := stL_end (g := fun _ p => tkC F V T p) (p0 := 0) (k := 0) (n := n) (p := 0) (l := []) rfl (by show (tkC F V T 0).2.2 ≠ 0; rw [htk]; decide) (by omega)
    rw [htk] at h1
    rw [show stL (fun _ p => tkC F V T p) 0 n = (p, PL, (0 : Int)) from h] at h1
    simp at h1
theorem bits_zero (X : Nat) : ∀ k, (∀ r, r < k → X / 2 ^ r % 2 = 0) → X % 2 ^ k = 0
  | 0, _ => by simp [Nat.mod_one]
  | k + 1, h => by
    rw [Nat.mod_pow_succ, bits_zero X k fun r hr => h r (by omega), h k (by omega), Nat.mul_zero]
theorem rest_zero {V T p : Nat} (hV : V < 2 ^ T) (hp : p ≤ T) (h : ∀ r, r < T - p → bitAt V (p + r) = 0) : V / 2 ^ p = 0 := by
  have h1 := bits_zero (V / 2 ^ p) (T - p) fun r hr => by
    have := h r hr
    unfold bitAt at this
    rw [Nat.div_div_eq_div_mul, ← Nat.pow_add]
    omega
  rwa [Nat.mod_eq_of_lt] at h1
  rw [Nat.div_lt_iff_lt_mul (Nat.two_pow_pos _), ← Nat.pow_add, show T - p + p = T by omega]
  exact hV
theorem rest_one {V p r : Nat} (h : bitAt V (p + r) ≠ 0) : V / 2 ^ p ≠ 0 := fun e => h (by
  unfold bitAt
  rw [Nat.pow_add, ← Nat.div_div_eq_div_mul, e, Nat.zero_div]
  rfl)
theorem rb_good {n : Nat} {q : Int} {F R : List Int} {V T p p2 : Nat} {w w' : World} {PL ZL : List (List Int)} {a1 a2 : Option Addr} {k m c1 c2 : Nat} (hE : rbE (n : Int) q F R V T = 0) (hP : tkP F V T n = (p, PL, 0)) (hZ : tkZ F R V T n = (p2, ZL, 0)) (hk : PL.length = k) (hm : ZL.length = m)
    (g1 : Gp (fun b => w.heap.size ≤ b) w' (.slice a1 k c1) PL) (g2 : Gp (fun b => w.heap.size ≤ b) w' (.slice a2 m c2) ZL) (hb : Below w.heap.size w w') :
    RbPost (n : Int) q F R V T w (.returned (.tuple #[.agg #[.slice a1 k c1, .slice a2 m c2], .int .i64 0])) w' := by
  subst hk hm
  have e1 : rbP (n : Int) q F R V T = PL := by unfold rbP; rw [if_pos hE, Int.toNat_natCast, hP]
  have e2 : rbZ (n : Int) q F R V T = ZL := by unfold rbZ; rw [if_pos hE, Int.toNat_natCast, hZ]
  unfold RbPost
  rw [e1, e2, hE]
  exact ⟨a1, c1, a2, c2, rfl, g1, g2, hb⟩
set_option maxHeartbeats 8000000 in
theorem rbread_ok (n : Nat) (q : Int) (af : Option Addr) (cf : Nat) (F : List Int) (ar : Option Addr) (cr : Nat) (R : List Int) (ab : Option Addr) (L cb : Nat) (xs : List Int) (w : World) (h : Bks w af 45 cf F ar 16 cr R) (hR : vhRight (n : Int) q F R = true) (hn : xs.length = L) (hv : Rw .u8 w (.slice ab L cb) xs) (hx : Byts xs) (hl : L ≤ 2000) :
    Calls Try.prog 19 #[.agg #[.int .i64 (n : Int), .int .i64 q, .slice af 45 cf, .slice ar 16 cr], .slice ab L cb] w (RbPost (n : Int) q F R (bv xs) (8 * L) w) := by
  have hk := bk_of hR
  have hn2 : 1 ≤ n ∧ n ≤ 2 := by have := vhRight_parts hR; omega
  have hW := below2 w (.cells #[.int .i64 (n : Int), .int .i64 q, .slice af 45 cf, .slice ar 16 cr] 32) (.cells #[.slice none 0 0, .slice none 0 0] 34)
  have hA := (B4.new w (.int .i64 (n : Int)) (.int .i64 q) (.slice af 45 cf) (.slice ar 16 cr) 32).below (below1 _ (.cells #[.slice none 0 0, .slice none 0 0] 34))
  have hB := B2.new2 w (.cells #[.int .i64 (n : Int), .int .i64 q, .slice af 45 cf, .slice ar 16 cr] 32) (.slice none 0 0) (.slice none 0 0) 34
  have hr := rvright_any (n : Int) q af 45 cf F ar 16 cr R _ (h.below hW)
  rw [hR] at hr
  have hrE : rbE (n : Int) q F R (bv xs) (8 * L) = tkE F R (bv xs) (8 * L) n := if_pos hR
  have hso := fun (p m : Nat) W (hb : Below w.heap.size w W) (h1 : p ≤ 100000) (h2 : m ≤ 32) => some_any (.slice ab L cb) xs p m 0 W (hv.below hb) hx (by omega) h2 (by omega)
  have hsy := fun (p : Nat) W (hb : Below w.heap.size w W) (h1 : p ≤ 100000) => symbol_any (.slice ab L cb) (.slice af 45 cf) xs F p 0 W (hv.below hb) (h.vf.below hb) hx (by omega) hk.f (by omega)
  have HBAD := hid (fun (E : Int) w' (hE : tkE F R (bv xs) (8 * L) n = E) h0 hb => rb_bad (c := (n : Int)) (q := q) (F := F) (R := R) (V := bv xs) (T := 8 * L) (w := w) (w' := w') E (hrE.trans hE) h0 hb)
  rw [hn] at hso hsy
  have hTl : 8 * L ≤ 16000 := by omega
  have HK := hid h
  have HV := hid hv
  have HKK := hid hk
  have HRE := hid hrE
  clear hrE h hv hk hR
  have HVT : Hid (bv xs < 2 ^ (8 * L)) := by
    unfold Hid
    have h := bv_lt hx
    rw [hn] at h
    rw [Nat.pow_mul]
    exact h
  generalize hVV : bv xs = V at *
  generalize hTT : 8 * L = T at *
  obtain ⟨i0, hi, hz0, hz1, hz2⟩ := info_parts info3
  obtain ⟨i1, hi1, ny0, ny1, ny2⟩ := info_parts info_rows
  obtain ⟨i6, hi6, h60, h61, h62⟩ := info_parts info_i64
  obtain ⟨i7, hi7, h70, h71, h72⟩ := info_parts info_rows64
  obtain ⟨ez, e0, e1, e2, e3, f0, f1, f2, f3⟩ := id hA
  go_enter Try.func19, Try.ntmps19
  go_upto_region 3 with (go_at_call 25; refine hr.mono ?_; rintro e y1 ⟨rfl, hy1⟩)
  have hA1 := hA.below hy1
  have hB1 := hB.below hy1
  have HW1 := hid (bthen' hW hy1)
  have hbz := hB1.z
  clear hA hB hW hr e0 e1 e2 e3 f0 f1 f2 f3 hy1
  go_upto_region 5 with fail
  have hR0 : Rr y1 ((y1.alloc (.cells #[.int .i64 0, .int .i64 0] 71)).alloc (.cells #[.slice none 0 0, .slice none 0 0] 34)) 0 (.slice none 0 0) (.slice none 0 0) :=
    ⟨(B2.new y1 _ _ _).below (below1 _ _), B2.new2 y1 _ _ _ _, below2 y1 _ _⟩
  generalize (y1.alloc (.cells #[.int .i64 0, .int .i64 0] 71)).alloc (.cells #[.slice none 0 0, .slice none 0 0] 34) = W0 at *
  have hAP0 : Hid (Ap Rp 22 (y1.heap.size + 2) W0 (.slice none 0 0) 0 [] fun j => ([] : List (List Int)).getD j []) := Ap.nil _ _ _ _
  go_wp2
  go_loopw [8] (fun i wr => ∃ (k : Nat) (vs : List Value) (oa : Option Addr) (oc p : Nat) (PL : List (List Int)), k ≤ n ∧ i = .int .i64 k ∧ Hid (stL (fun _ p => tkC F V T p) 0 k = (p, PL, 0)) ∧ Hid (PL.length = k) ∧ Hid (Rr y1 wr p (.slice oa k oc) (.slice none 0 0)) ∧ Hid (Ap Rp 22 (y1.heap.size + 2) wr (.slice oa k oc) k vs fun j => PL.getD j []) ∧ p ≤ T) (fun i _ => n - (intOf i).toNat)
  case atStart => exact ⟨0, [], none, 0, 0, [], by omega, rfl, rfl, rfl, hR0, hAP0, Nat.zero_le _⟩
  case round =>
    clear hR0 hAP0
    obtain ⟨k, vs, oa, oc, p, PL, hk, rfl, HST, HPL, HR, HAP, hpT⟩ := hrel
    obtain ⟨W1, rfl⟩ : ∃ x, x = wr := ⟨wr, rfl⟩
    have hA2 := hA1.below HR.out.bl
    obtain ⟨ez, e0, e1, e2, e3, f0, f1, f2, f3⟩ := id hA2
    obtain ⟨pz, p0, p1, pf0, pf1⟩ := id HR.out.pl
    by_cases hlt : k < n
    · have hbw := bthen HW1.out HR.out.bl HW1.out.size
      have hs1 := hso p 1 W1 hbw (by omega) (by omega)
      by_cases c1 : p + 1 ≤ T
      case neg =>
        have htk : tkC F V T p = (p, [], 4) := by unfold tkC; rw [if_neg c1]
        have hE : tkE F R V T n = 4 := by
          have h := stL_end HST.out (by rw [htk]; show (4 : Int) ≠ 0; decide) hlt
          rw [htk] at h
          unfold tkE
          rw [show tkP F V T n = (p, PL, (4 : Int)) from h]
          exact if_pos (show (4 : Int) ≠ 0 by decide)
        have HF := hid (fun w' hb => HBAD.out 4 w' hE (by decide) hb)
        unfold tkB at hs1
        rw [if_neg c1] at hs1
        dsimp only at hs1
        clear hE htk HST c1 hso hsy
        go_upto_region 9 with (go_at_call 35; refine hs1.mono ?_; rintro e y2 ⟨rfl, hy2⟩; have hb2 := (bthen hbw hy2 hbw.size).alloc (Nat.le_trans hbw.size hy2.size) (.cells #[.int .i64 (p : Nat), .int .i64 4] 71); have hQ := B2.new y2 (.int .i64 (p : Nat)) (.int .i64 4) 71; have hres := (HR.out.below hy2).bl; have hy2z := hy2.size)
        have hB2 := (hB1.below hres).below (below1 y2 (.cells #[.int .i64 (p : Nat), .int .i64 4] 71))
        generalize y2.alloc (.cells #[.int .i64 (p : Nat), .int .i64 4] 71) = Y2 at *
        generalize y2.heap.size = s9 at *
        obtain ⟨z2, k0, k1, l0, l1⟩ := id hQ
        obtain ⟨z3, d0, d1, g0, g1⟩ := id hB2
        go_wp2
        go_region
        all_goals go_wp2
        obtain ⟨zz, r0, r1, t0, t1⟩ := (hB2.set0 (.slice none 0 0)).set1 (.slice none 0 0)
        refine bodyPost_ret (v := .tuple #[.agg #[.slice none 0 0, .slice none 0 0], .int .i64 4]) (by simp [results, Try.results19, go_sem, r0, r1, t0, t1]) rfl (HF.out _ (bset2' hb2.drew (w.heap.size + 1) _ _ (by omega)))
      have hG2 := fld_lt V p 1
      unfold tkB at hs1
      rw [if_pos c1] at hs1
      dsimp only at hs1
      generalize hGG : fld V p 1 = G at *
      obtain ⟨p', hp'⟩ : ∃ p', p + 1 = p' := ⟨_, rfl⟩
      rw [hp'] at hs1
      have HCP : Hid (∀ pj lj e, G = 1 → st (tkS F V T) p' 6 = (pj, lj, e) → tkC F V T p = (pj, lj, e)) := fun pj lj e h1 h2 => tkC_pos c1 (by rw [hGG]; exact h1) (by rw [hp']; exact h2)
      have HCZ : Hid (G ≠ 1 → tkC F V T p = (p', [], 0)) := fun h1 => by rw [← hp']; exact tkC_zero c1 (by rw [hGG]; exact h1)
      have hp'T : p' ≤ T := by omega
      have hD : ((G : Int) == 1) = decide (G = 1) := by
        by_cases e : G = 1
        · subst e; rfl
        · rw [decide_eq_false e]; simpa using fun k => e (by omega)
      obtain ⟨D, hDD⟩ : ∃ D, decide (G = 1) = D := ⟨_, rfl⟩
      have HDD := hid hDD
      rw [hDD] at hD
      clear hDD hG2 c1 hp' hGG
      go_upto_region 9 with (go_at_call 35; refine hs1.mono ?_; rintro e y2 ⟨rfl, hy2⟩; have hR2 := (HR.out.below hy2).below (below1 y2 (.cells #[.int .i64 (p' : Nat), .int .i64 0] 71)); have hQ := B2.new y2 (.int .i64 (p' : Nat)) (.int .i64 0) 71; have hAP2 := Ap.below Rp.keeps (Ap.below Rp.keeps HAP.out hy2) (below1 y2 (.cells #[.int .i64 (p' : Nat), .int .i64 0] 71)))
      generalize y2.alloc (.cells #[.int .i64 (p' : Nat), .int .i64 0] 71) = Y2 at *
      generalize y2.heap.size = s9 at *
      obtain ⟨z2, k0, k1, l0, l1⟩ := id hQ
      clear e0 e1 e2 e3 f0 f1 f2 f3 p0 p1 pf0 pf1 hA2 HR HAP
      obtain ⟨pz2, p0, p1, pf0, pf1⟩ := id hR2.pl
      have hRm := hR2.move p'
      have hgm : Y2.grownBy ((Y2.setCell ⟨y1.heap.size, 0, none⟩ (.int .i64 p')).setCell ⟨y1.heap.size, 1, none⟩ (.int .i64 0)) (some y1.heap.size) := grown_set (grown_set (World.grownBy.refl _ _) _ _ (.inr rfl) _) _ _ (.inr rfl) _
      have hAPm := ap_butp hAP2 hgm (show y1.heap.size < y1.heap.size + 2 by omega)
      go_wp2
      generalize (Y2.setCell ⟨y1.heap.size, 0, none⟩ (.int .i64 p')).setCell ⟨y1.heap.size, 1, none⟩ (.int .i64 0) = Wl at *
      have HRM := hid hRm
      have HAPM := hid hAPm
      have HKN := hid hlt
      clear hgm hAP2 hR2 hQ z2 k0 k1 l0 l1 pz2 p0 p1 pf0 pf1 hs1 hbw hRm hAPm
      go_loopw [11, 12] (fun lv i wr => ∃ (j pj : Nat) (lj : List Int), j ≤ 6 ∧ i = .int .i64 j ∧ (D = true ∨ j = 0) ∧ Hid (st (tkS F V T) p' j = (pj, lj, 0)) ∧ Hid (lj.length = j) ∧ Hid (wr.ownsRow Wl.heap.size 3 1 lv j (lj.map (Value.int .i64))) ∧ Hid (B2 wr y1.heap.size (.int .i64 pj) (.int .i64 0)) ∧ Hid (Wl.grownBy wr (some y1.heap.size)) ∧ pj ≤ T) (fun _ i _ => 6 - (intOf i).toNat)
      case atStart => exact ⟨0, p', [], by omega, rfl, .inr rfl, rfl, rfl, World.ownsRow_nil _ _ _ _, HRM.out.pl, World.grownBy.refl _ _, hp'T⟩
      case round =>
        obtain ⟨j, pj, lj, hj, rfl, hDj, HSJ, HLJ, HOJ, HPJ, HGJ, hpjT⟩ := hrel
        obtain ⟨W2, rfl⟩ : ∃ x, x = wr := ⟨wr, rfl⟩
        have HR3 := hid (HRM.out.grown6 HGJ.out HPJ.out)
        have hbw := bthen HW1.out HR3.out.bl HW1.out.size
        have hA3 := hA1.below HR3.out.bl
        obtain ⟨ez3, e0, e1, e2, e3, f0, f1, f2, f3⟩ := id hA3
        obtain ⟨pz3, p0, p1, pf0, pf1⟩ := id HR3.out.pl
        obtain ⟨oz3, q0, q1, qf0, qf1⟩ := id HR3.out.out
        have hown := HOJ.out
        obtain ⟨la, lc, rfl, hlc, hlm, hl0⟩ := owns_open hown
        have i1' : (0 : Int) ≤ (j : Int) := by omega
        by_cases hgo : j < 6 ∧ D = true
        · obtain ⟨hj6, rfl⟩ := hgo
          have hsy1 := hsy pj W2 hbw (by omega)
          obtain ⟨pq, s, e, hts⟩ : ∃ pq s e, tkS F V T pj = (pq, s, e) := ⟨_, _, _, rfl⟩
          rw [hts] at hsy1
          dsimp only at hsy1
          have hG1 := of_decide_eq_true HDD.out
          by_cases he : e = 0
          case neg =>
            have hE : tkE F R V T n = e := by
              have h1 := st_end HSJ.out (by rw [hts]; exact he) hj6
              rw [hts] at h1
              have h2 := HCP.out pj lj e hG1 h1
              have h3 := stL_end HST.out (by rw [h2]; exact he) HKN.out
              rw [h2] at h3
              unfold tkE
              rw [show tkP F V T n = (p, PL, e) from h3]
              exact if_pos he
            have HF := hid (fun w' hb => HBAD.out e w' hE he hb)
            have hne : (e != 0) = true := by simpa using he
            clear hE hts HSJ hG1 he hso hsy HCP HCZ hDj
            go_upto_region 17 with (go_at_call 36; refine hsy1.mono ?_; rintro e' y3 ⟨rfl, hy3⟩; have hb3 := (bthen hbw hy3 hbw.size).alloc (Nat.le_trans hbw.size hy3.size) (.cells #[.int .i64 (pq : Nat), .int .i64 e] 71); have hQ := B2.new y3 (.int .i64 (pq : Nat)) (.int .i64 e) 71; have hres := (HR3.out.below hy3).bl; have hzz := Nat.lt_of_lt_of_le hbz hres.size)
            have hB2 := (hB1.below hres).below (below1 y3 (.cells #[.int .i64 (pq : Nat), .int .i64 e] 71))
            generalize y3.alloc (.cells #[.int .i64 (pq : Nat), .int .i64 e] 71) = Y3 at *
            generalize y3.heap.size = s13 at *
            obtain ⟨z2, k0, k1, l0, l1⟩ := id hQ
            obtain ⟨z3, d0, d1, g0, g1⟩ := id hB2
            go_wp2
            go_region
            all_goals go_wp2
            obtain ⟨zz, r0, r1, t0, t1⟩ := (hB2.set0 (.slice none 0 0)).set1 (.slice none 0 0)
            refine bodyPost_ret (v := .tuple #[.agg #[.slice none 0 0, .slice none 0 0], .int .i64 e]) (by simp [results, Try.results19, go_sem, r0, r1, t0, t1]) rfl (HF.out _ (bset2' hb3.drew (w.heap.size + 1) _ _ (by omega)))
          subst he
          have hts0 := hid hts
          have hqT := (tkS_ok (l := F) (V := V) (T := T) (p := pj) (by rw [hts])).2.2
          rw [hts] at hqT
          have hqT : pq ≤ T := hqT
          have HSN : Hid (st (tkS F V T) p' (j + 1) = (pq, lj ++ [s], 0)) := by
            have h := st_go HSJ.out (by rw [hts])
            rw [hts] at h
            exact h
          clear hts hso hsy HCP HCZ hG1
          go_upto_region 17 with (go_at_call 36; refine hsy1.mono ?_; rintro e' y3 ⟨rfl, hy3⟩; have hR4 := (HR3.out.below hy3).below (below1 y3 (.cells #[.int .i64 (pq : Nat), .int .i64 0] 71)); have hQ := B2.new y3 (.int .i64 (pq : Nat)) (.int .i64 0) 71; have hown4 := (owns_below hown hy3).alloc (.cells #[.int .i64 (pq : Nat), .int .i64 0] 71); have hgr4 := grown_trans HGJ.out (grown_below (hy3.alloc hy3.size (.cells #[.int .i64 (pq : Nat), .int .i64 0] 71)) y1.heap.size))
          generalize y3.alloc (.cells #[.int .i64 (pq : Nat), .int .i64 0] 71) = Y3 at *
          generalize y3.heap.size = s13 at *
          obtain ⟨z2, k0, k1, l0, l1⟩ := id hQ
          clear e0 e1 e2 e3 f0 f1 f2 f3 p0 p1 pf0 pf1 q0 q1 qf0 qf1 hA3
          obtain ⟨pz4, p0, p1, pf0, pf1⟩ := id hR4.pl
          have hsl : y1.heap.size < Wl.heap.size := HRM.out.pl.z
          have hown5 := owns_other (owns_other hown4 y1.heap.size 0 (.int .i64 (pq : Nat)) hsl) y1.heap.size 1 (.int .i64 0) hsl
          have hR5 := hR4.move pq
          have hgr5 := grown_set (grown_set hgr4 y1.heap.size 0 (.inr rfl) (.int .i64 (pq : Nat))) y1.heap.size 1 (.inr rfl) (.int .i64 0)
          go_upto_region 20 with fail
          generalize (Y3.setCell ⟨y1.heap.size, 0, none⟩ (.int .i64 (pq : Nat))).setCell ⟨y1.heap.size, 1, none⟩ (.int .i64 0) = Y4 at *
          go_wp2_with (at_builtin; refine wpList_append_own _ rfl _ _ 22 rfl Wl.heap.size 3 i0 (.int .i64 0) 1 8 Try.underlying22 hi hz0 hz1 hz2 rfl (by decide) _ _ _ rfl (hown5.alloc _) ⟨Y4.heap.size, 0, none⟩ 1 1 [.int .i64 s] rfl rfl (cell_one_at rfl _ _) (one_cell _ _) ?c3 ?c4 ?c5 ?_)
          case c3 => unfold maxLen; omega
          case c4 => omega
          case c5 => have := hgr5.size; simp; omega
          intro v6 w6 hown6 hgrow6 _
          have hoB : ∀ i, (Value.slice la j lc).ownBlock = some i → Wl.heap.size ≤ i := fun i hi => (hown5.lt i hi).1
          have HGN := hid (grown_own (grown_trans hgr5 (grown_below (below1 Y4 (.cells #[.int .i64 s] 3)) y1.heap.size)) hgrow6 hoB)
          have HPN := hid ((hR5.pl.below (below1 Y4 (.cells #[.int .i64 s] 3))).grown hgrow6 (fun e => by have := hoB _ e; omega))
          have hO6 : w6.ownsRow Wl.heap.size 3 1 v6 (j + 1) ((lj ++ [s]).map (Value.int .i64)) := by rw [List.map_append]; exact hown6
          have HON := hid hO6
          have HLN : Hid ((lj ++ [s]).length = j + 1) := by unfold Hid; rw [List.length_append, HLJ.out]; rfl
          clear hown6 hgrow6 hO6 hown4 hown5 hgr4 hgr5 hR4 hR5
          go_wp2
          exact ⟨⟨j + 1, pq, _, by omega, by go_num, by simp, HSN, HLN, HON, HPN, HGN, hqT⟩, by simp [intOf]; omega⟩
        · cases D
          · have hj0 : j = 0 := hDj.resolve_left (by decide)
            have htk : tkC F V T p = (pj, lj, 0) := by
              rw [HCZ.out (of_decide_eq_false HDD.out)]
              have h := HSJ.out
              rw [hj0] at h
              simp only [st, Prod.mk.injEq] at h
              rw [← h.1, ← h.2.1]
            have hj6 : (j : Int) < 6 := by omega
            clear hgo hDj hj0
            have apn := ap_butp HAPM.out HGJ.out (show y1.heap.size < y1.heap.size + 2 by omega)
            have hoP : ∀ i, (Value.slice oa k oc).ownBlock = some i → y1.heap.size + 2 ≤ i := fun i hi => (apn.1.lt i hi).1
            have hrp : Rp (fun b => y1.heap.size + 2 ≤ b ∧ some b ≠ (Value.slice oa k oc).ownBlock) W2 (.slice la j lc) lj := Rp.keeps.mono (Rp.ofF (RwF.of_owns hown)) fun b _ hb => by
              have hb : Wl.heap.size ≤ b := hb
              have h7 := HRM.out.out.z
              exact ⟨by omega, fun e => by have := (HAPM.out.1.lt b e.symm).2; omega⟩
            have HSTN : Hid (stL (fun _ p => tkC F V T p) 0 (k + 1) = (pj, PL ++ [lj], 0)) := by
              have h := stL_go HST.out (by rw [htk])
              rw [htk] at h
              exact h
            have HPLN : Hid ((PL ++ [lj]).length = k + 1) := by unfold Hid; rw [List.length_append, HPL.out]; rfl
            have hownP := apn.1.alloc (.cells #[.slice la j lc] 22)
            have h7z := HR3.out.out.z
            go_wp2_with (at_builtin; refine wpList_append_lies _ rfl _ _ 25 rfl (y1.heap.size + 2) 22 i1 (.slice none 0 0) 1 24 Try.underlying25 hi1 ny0 ny1 ny2 rfl (by decide) _ _ _ rfl hownP ⟨W2.heap.size, 0, none⟩ 1 1 [.slice la j lc] rfl rfl (cell_one_at rfl _ _) (one_slice _ _ _) (by decide) (by unfold maxLen; omega) (by omega) (by simp; omega) (W2.heap.size + 1) (by simp) ?_; intro g3 c4 w3 hown3 hgrow3 hat3 hlt3; have hpl3 := (HR3.out.pl.below (below1 W2 (.cells #[.slice la j lc] 22))).grown hgrow3 (fun e => by have := hoP _ e; omega); have hout3 := (HR3.out.out.below (below1 W2 (.cells #[.slice la j lc] 22))).grown hgrow3 (fun e => by have := hoP _ e; omega); clear q0 q1 qf0 qf1; obtain ⟨oz4, q0, q1, qf0, qf1⟩ := id hout3)
            have hbl3 := (HR3.out.bl.alloc HR3.out.bl.size (.cells #[.slice la j lc] 22)).grown hgrow3 (by have := HR3.out.bl.size; simp; omega) (fun i hi => by have := hoP i hi; omega)
            have HRN : Hid (Rr y1 (w3.setCell ⟨y1.heap.size + 1, 0, none⟩ (.slice (some ⟨g3, 0, none⟩) (k + 1) c4)) pj (.slice (some ⟨g3, 0, none⟩) (k + 1) c4) (.slice none 0 0)) := ⟨hpl3.other _ _ _ (by omega), hout3.set0 _, bset1 hbl3 _ _ _ (by omega)⟩
            have HAPN := hid (ap_butp (ap_push apn HPL.out hrp hown3 hgrow3 hat3) (grown_set (World.grownBy.refl w3 (some (y1.heap.size + 1))) (y1.heap.size + 1) 0 (.inr rfl) (.slice (some ⟨g3, 0, none⟩) (k + 1) c4)) (show y1.heap.size + 1 < y1.heap.size + 2 by omega))
            have hkn := HKN.out
            exact ⟨⟨k + 1, _, _, _, pj, PL ++ [lj], by omega, by go_num, HSTN, HPLN, HRN, HAPN, hpjT⟩, by simp [intOf]; omega⟩
          · have hj6 : j = 6 := by
              by_cases e : j < 6
              · exact absurd ⟨e, rfl⟩ hgo
              · omega
            have htk : tkC F V T p = (pj, lj, 0) := by
              have h := HSJ.out
              rw [hj6] at h
              exact HCP.out pj lj 0 (of_decide_eq_true HDD.out) h
            have hnj : ¬ (j : Int) < 6 := by omega
            clear hgo hDj hj6
            have apn := ap_butp HAPM.out HGJ.out (show y1.heap.size < y1.heap.size + 2 by omega)
            have hoP : ∀ i, (Value.slice oa k oc).ownBlock = some i → y1.heap.size + 2 ≤ i := fun i hi => (apn.1.lt i hi).1
            have hrp : Rp (fun b => y1.heap.size + 2 ≤ b ∧ some b ≠ (Value.slice oa k oc).ownBlock) W2 (.slice la j lc) lj := Rp.keeps.mono (Rp.ofF (RwF.of_owns hown)) fun b _ hb => by
              have hb : Wl.heap.size ≤ b := hb
              have h7 := HRM.out.out.z
              exact ⟨by omega, fun e => by have := (HAPM.out.1.lt b e.symm).2; omega⟩
            have HSTN : Hid (stL (fun _ p => tkC F V T p) 0 (k + 1) = (pj, PL ++ [lj], 0)) := by
              have h := stL_go HST.out (by rw [htk])
              rw [htk] at h
              exact h
            have HPLN : Hid ((PL ++ [lj]).length = k + 1) := by unfold Hid; rw [List.length_append, HPL.out]; rfl
            have hownP := apn.1.alloc (.cells #[.slice la j lc] 22)
            have h7z := HR3.out.out.z
            go_wp2_with (at_builtin; refine wpList_append_lies _ rfl _ _ 25 rfl (y1.heap.size + 2) 22 i1 (.slice none 0 0) 1 24 Try.underlying25 hi1 ny0 ny1 ny2 rfl (by decide) _ _ _ rfl hownP ⟨W2.heap.size, 0, none⟩ 1 1 [.slice la j lc] rfl rfl (cell_one_at rfl _ _) (one_slice _ _ _) (by decide) (by unfold maxLen; omega) (by omega) (by simp; omega) (W2.heap.size + 1) (by simp) ?_; intro g3 c4 w3 hown3 hgrow3 hat3 hlt3; have hpl3 := (HR3.out.pl.below (below1 W2 (.cells #[.slice la j lc] 22))).grown hgrow3 (fun e => by have := hoP _ e; omega); have hout3 := (HR3.out.out.below (below1 W2 (.cells #[.slice la j lc] 22))).grown hgrow3 (fun e => by have := hoP _ e; omega); clear q0 q1 qf0 qf1; obtain ⟨oz4, q0, q1, qf0, qf1⟩ := id hout3)
            have hbl3 := (HR3.out.bl.alloc HR3.out.bl.size (.cells #[.slice la j lc] 22)).grown hgrow3 (by have := HR3.out.bl.size; simp; omega) (fun i hi => by have := hoP i hi; omega)
            have HRN : Hid (Rr y1 (w3.setCell ⟨y1.heap.size + 1, 0, none⟩ (.slice (some ⟨g3, 0, none⟩) (k + 1) c4)) pj (.slice (some ⟨g3, 0, none⟩) (k + 1) c4) (.slice none 0 0)) := ⟨hpl3.other _ _ _ (by omega), hout3.set0 _, bset1 hbl3 _ _ _ (by omega)⟩
            have HAPN := hid (ap_butp (ap_push apn HPL.out hrp hown3 hgrow3 hat3) (grown_set (World.grownBy.refl w3 (some (y1.heap.size + 1))) (y1.heap.size + 1) 0 (.inr rfl) (.slice (some ⟨g3, 0, none⟩) (k + 1) c4)) (show y1.heap.size + 1 < y1.heap.size + 2 by omega))
            have hkn := HKN.out
            exact ⟨⟨k + 1, _, _, _, pj, PL ++ [lj], by omega, by go_num, HSTN, HPLN, HRN, HAPN, hpjT⟩, by simp [intOf]; omega⟩
    · have hkn : k = n := by omega
      have HP : Hid (tkP F V T n = (p, PL, 0)) := by rw [← hkn]; exact HST.out
      have HPn : Hid (PL.length = n) := by unfold Hid; rw [HPL.out, hkn]
      have HKN := hid hkn
      have hR6 := HR.out
      have hgp0 : Gp (fun b => y1.heap.size + 2 ≤ b) W1 (.slice oa k oc) PL := by
        have h := HAP.out.all Rp.keeps []
        rw [range_getD PL k HPL.out] at h
        exact h
      have HGP0 : Hid (Gp (fun b => y1.heap.size + 2 ≤ b ∧ b < W1.heap.size) W1 (.slice oa k oc) PL) := Gp.keeps.mono hgp0 fun b hb hp => ⟨hp, hb⟩
      have hci : ¬ (k : Int) < n := by omega
      have hyS := HR.out.out.z
      have HSS : Hid (W1.heap.size ≤ W1.heap.size) := Nat.le_refl _
      have hZ0 : Hid (Ap Rp 48 W1.heap.size W1 (.slice none 0 0) 0 [] fun j => ([] : List (List Int)).getD j []) := Ap.nil _ _ _ _
      clear hk HST HPL HAP hsy hso hgp0 HR
      have hva := fun (p : Nat) W (hb : Below w.heap.size w W) (h1 : p ≤ T) => value_any (.slice ab L cb) (.slice ar 16 cr) xs R p 0 W (HV.out.below hb) (HK.out.vr.below hb) hx (by omega) HKK.out.r HKK.out.lr (by rw [hn]; omega)
      rw [hn, hVV, hTT] at hva
      clear hkn
      go_wp2
      clear pz p0 p1 pf0 pf1 e0 e1 e2 e3 f0 f1 f2 f3 hA2 hci hlt
      go_loopw [15] (fun i wr => ∃ (m : Nat) (ys : List Value) (za : Option Addr) (zc p' : Nat) (ZL : List (List Int)), m ≤ n ∧ i = .int .i64 m ∧ Hid (stL (tkR R V T PL) p m = (p', ZL, 0)) ∧ Hid (ZL.length = m) ∧ Hid (Rr y1 wr p' (.slice oa k oc) (.slice za m zc)) ∧ Hid (Ap Rp 48 W1.heap.size wr (.slice za m zc) m ys fun j => ZL.getD j []) ∧ Hid (Gp (fun b => y1.heap.size + 2 ≤ b ∧ b < W1.heap.size) wr (.slice oa k oc) PL) ∧ Hid (W1.heap.size ≤ wr.heap.size) ∧ p' ≤ T) (fun i _ => n - (intOf i).toNat)
      case atStart => exact ⟨0, [], none, 0, p, [], by omega, rfl, rfl, rfl, hid hR6, hZ0, HGP0, HSS, hpT⟩
      case round =>
        obtain ⟨m, ys, za, zc, p2, ZL, hm, rfl, HSZ, HZL, HR, HAZ, HGP, HS2, hp2T⟩ := hrel
        obtain ⟨W2, rfl⟩ : ∃ x, x = wr := ⟨wr, rfl⟩
        generalize W1.heap.size = S at *
        have hA2 := hA1.below HR.out.bl
        obtain ⟨ez2, e0, e1, e2, e3, f0, f1, f2, f3⟩ := id hA2
        clear hR6 HGP0 HSS hZ0
        by_cases hlt : m < n
        · obtain ⟨X, hX⟩ : ∃ X, (PL.getD m []).length = X := ⟨_, rfl⟩
          have HXX := hid hX
          have HCP : Hid (0 < X → tkR R V T PL m p2 = st (tkV R V T) p2 16) := fun h => tkR_pos (by rw [hX]; omega)
          have HCZ : Hid (X = 0 → tkR R V T PL m p2 = (p2, [], 0)) := fun h => tkR_zero (by rw [hX, h])
          have HMN := hid hlt
          clear hX
          go_wp2
          go_loopw [16, 17] (fun lv i wr => ∃ (j pj : Nat) (lj : List Int), j ≤ 16 ∧ i = .int .i64 j ∧ (0 < X ∨ j = 0) ∧ Hid (st (tkV R V T) p2 j = (pj, lj, 0)) ∧ Hid (lj.length = j) ∧ Hid (wr.ownsRow W2.heap.size 2 1 lv j (lj.map (Value.int .i64))) ∧ Hid (B2 wr y1.heap.size (.int .i64 pj) (.int .i64 0)) ∧ Hid (W2.grownBy wr (some y1.heap.size)) ∧ pj ≤ T) (fun _ i _ => 16 - (intOf i).toNat)
          case atStart => exact ⟨0, p2, [], by omega, rfl, .inr rfl, rfl, rfl, World.ownsRow_nil _ _ _ _, HR.out.pl, World.grownBy.refl _ _, hp2T⟩
          case round =>
            obtain ⟨j, pj, lj, hj, rfl, hDj, HSJ, HLJ, HOJ, HPJ, HGJ, hpjT⟩ := hrel
            obtain ⟨W3, rfl⟩ : ∃ x, x = wr := ⟨wr, rfl⟩
            have HR3 := hid (HR.out.grown6 HGJ.out HPJ.out)
            have HG3 := hid (Gp.keeps.grown HGP.out HGJ.out (fun b hb e => by have := Option.some.inj e; omega))
            have hbw := bthen HW1.out HR3.out.bl HW1.out.size
            have hA3 := hA1.below HR3.out.bl
            clear e0 e1 e2 e3 f0 f1 f2 f3
            obtain ⟨ez3, e0, e1, e2, e3, f0, f1, f2, f3⟩ := id hA3
            obtain ⟨pz3, p0, p1, pf0, pf1⟩ := id HR3.out.pl
            obtain ⟨oz3, q0, q1, qf0, qf1⟩ := id HR3.out.out
            have hown := HOJ.out
            obtain ⟨la, lc, rfl, hlc, hlm, hl0⟩ := owns_open hown
            have hkn := HKN.out
            obtain ⟨gb, go, r, hoa, hgb, hgc, hgr⟩ := Lp.at HG3.out m (by omega)
            obtain ⟨ra, rc, hr, -⟩ := id hgr.rw
            rw [HXX.out] at hr
            subst hr hoa
            have hmk : m < k := by omega
            clear hkn hgr
            have i1' : (0 : Int) ≤ (j : Int) := by omega
            by_cases hgo : j < 16 ∧ 0 < X
            · obtain ⟨hj6, hX0⟩ := hgo
              have hva1 := hva pj W3 hbw hpjT
              obtain ⟨pq, s, e, hts⟩ : ∃ pq s e, tkV R V T pj = (pq, s, e) := ⟨_, _, _, rfl⟩
              unfold VaPost at hva1
              rw [hts] at hva1
              dsimp only at hva1
              by_cases he : e = 0
              case neg =>
                have hE : tkE F R V T n = e := by
                  have h1 := st_end HSJ.out (by rw [hts]; exact he) hj6
                  rw [hts] at h1
                  have h2 : tkR R V T PL m p2 = (pj, lj, e) := (HCP.out hX0).trans h1
                  have h3 := stL_end HSZ.out (by rw [h2]; exact he) HMN.out
                  rw [h2] at h3
                  rw [tkE_res HP.out h3]
                  exact if_pos he
                have HF := hid (fun w' hb => HBAD.out e w' hE he hb)
                have hne : (e != 0) = true := by simpa using he
                clear hE hts HSJ he hva HCP HCZ hDj hp2T
                go_upto_region 30 with (go_at_call 37; refine hva1.mono ?_; rintro e' y3 ⟨u, rfl, -, hy3⟩; have hb3 := (bthen hbw hy3 hbw.size).alloc (Nat.le_trans hbw.size hy3.size) (.cells #[.int .i64 (pq : Nat), .int .i64 e] 71); have hQ := B2.new y3 (.int .i64 (pq : Nat)) (.int .i64 e) 71; have hres := (HR3.out.below hy3).bl; have hzz := Nat.lt_of_lt_of_le hbz hres.size)
                have hB2 := (hB1.below hres).below (below1 y3 (.cells #[.int .i64 (pq : Nat), .int .i64 e] 71))
                generalize y3.alloc (.cells #[.int .i64 (pq : Nat), .int .i64 e] 71) = Y3 at *
                generalize y3.heap.size = s13 at *
                obtain ⟨z2, k0, k1, l0, l1⟩ := id hQ
                obtain ⟨z3, d0, d1, g0, g1⟩ := id hB2
                go_wp2
                go_region
                all_goals go_wp2
                obtain ⟨zz, r0, r1, t0, t1⟩ := (hB2.set0 (.slice none 0 0)).set1 (.slice none 0 0)
                refine bodyPost_ret (v := .tuple #[.agg #[.slice none 0 0, .slice none 0 0], .int .i64 e]) (by simp [results, Try.results19, go_sem, r0, r1, t0, t1]) rfl (HF.out _ (bset2' hb3.drew (w.heap.size + 1) _ _ (by omega)))
              subst he
              have hqT := (tkV_inv HKK.out V T pj (by rw [hts])).2.1
              rw [hts] at hqT
              have hqT : pq ≤ T := hqT
              have HSN : Hid (st (tkV R V T) p2 (j + 1) = (pq, lj ++ [s], 0)) := by
                have h := st_go HSJ.out (by rw [hts])
                rw [hts] at h
                exact h
              clear hts hva HCP HCZ
              go_upto_region 30 with (go_at_call 37; refine hva1.mono ?_; rintro e' y3 ⟨u, rfl, hu, hy3⟩; have hu := hu (by first | exact rfl | trivial); subst hu; have hR4 := (HR3.out.below hy3).below (below1 y3 (.cells #[.int .i64 (pq : Nat), .int .i64 0] 71)); have hQ := B2.new y3 (.int .i64 (pq : Nat)) (.int .i64 0) 71; have hown4 := (owns_below hown hy3).alloc (.cells #[.int .i64 (pq : Nat), .int .i64 0] 71); have hgr4 := grown_trans HGJ.out (grown_below (hy3.alloc hy3.size (.cells #[.int .i64 (pq : Nat), .int .i64 0] 71)) y1.heap.size))
              generalize y3.alloc (.cells #[.int .i64 (pq : Nat), .int .i64 0] 71) = Y3 at *
              generalize y3.heap.size = s13 at *
              obtain ⟨z2, k0, k1, l0, l1⟩ := id hQ
              clear e0 e1 e2 e3 f0 f1 f2 f3 p0 p1 pf0 pf1 q0 q1 qf0 qf1 hA3 hgc
              obtain ⟨pz4, p0, p1, pf0, pf1⟩ := id hR4.pl
              have hsl : y1.heap.size < W2.heap.size := HR.out.pl.z
              have hown5 := owns_other (owns_other hown4 y1.heap.size 0 (.int .i64 (pq : Nat)) hsl) y1.heap.size 1 (.int .i64 0) hsl
              have hR5 := hR4.move pq
              have hgr5 := grown_set (grown_set hgr4 y1.heap.size 0 (.inr rfl) (.int .i64 (pq : Nat))) y1.heap.size 1 (.inr rfl) (.int .i64 0)
              go_upto_region 33 with fail
              generalize (Y3.setCell ⟨y1.heap.size, 0, none⟩ (.int .i64 (pq : Nat))).setCell ⟨y1.heap.size, 1, none⟩ (.int .i64 0) = Y4 at *
              go_wp2_with (at_builtin; refine wpList_append_own _ rfl _ _ 48 rfl W2.heap.size 2 i6 (.int .i64 0) 1 8 Try.underlying48 hi6 h60 h61 h62 rfl (by decide) _ _ _ rfl (hown5.alloc _) ⟨Y4.heap.size, 0, none⟩ 1 1 [.int .i64 u] rfl rfl (cell_one_at rfl _ _) (one_cell _ _) ?c3 ?c4 ?c5 ?_)
              case c3 => unfold maxLen; omega
              case c4 => omega
              case c5 => have := hgr5.size; simp; omega
              intro v6 w6 hown6 hgrow6 _
              have hoB : ∀ i, (Value.slice la j lc).ownBlock = some i → W2.heap.size ≤ i := fun i hi => (hown5.lt i hi).1
              have HGN := hid (grown_own (grown_trans hgr5 (grown_below (below1 Y4 (.cells #[.int .i64 u] 2)) y1.heap.size)) hgrow6 hoB)
              have HPN := hid ((hR5.pl.below (below1 Y4 (.cells #[.int .i64 u] 2))).grown hgrow6 (fun e => by have := hoB _ e; omega))
              have hO6 : w6.ownsRow W2.heap.size 2 1 v6 (j + 1) ((lj ++ [u]).map (Value.int .i64)) := by rw [List.map_append]; exact hown6
              have HON := hid hO6
              have HLN : Hid ((lj ++ [u]).length = j + 1) := by unfold Hid; rw [List.length_append, HLJ.out]; rfl
              clear hown6 hgrow6 hO6 hown4 hown5 hgr4 hgr5 hR4 hR5
              go_wp2
              exact ⟨⟨j + 1, pq, _, by omega, by go_num, .inl hX0, HSN, HLN, HON, HPN, HGN, hqT⟩, by simp [intOf]; omega⟩
            · by_cases hX0 : X = 0
              · have hj0 : j = 0 := hDj.resolve_left (by omega)
                have hj6 : (j : Int) < 16 := by omega
                have hXn : ¬ (0 : Int) < (X : Int) := by omega
                have hXm : ¬ 0 < X := by omega
                have htk : tkR R V T PL m p2 = (pj, lj, 0) := by
                  rw [HCZ.out hX0]
                  have h := HSJ.out
                  rw [hj0] at h
                  simp only [st, Prod.mk.injEq] at h
                  rw [← h.1, ← h.2.1]
                clear hgo hDj hj0 hX0
                have apn := ap_butp HAZ.out HGJ.out (show y1.heap.size < S by omega)
                have hoP : ∀ i, (Value.slice za m zc).ownBlock = some i → S ≤ i := fun i hi => (apn.1.lt i hi).1
                have hrp : Rp (fun b => S ≤ b ∧ some b ≠ (Value.slice za m zc).ownBlock) W3 (.slice la j lc) lj := Rp.keeps.mono (Rp.ofF (RwF.of_owns hown)) fun b _ hb => by
                  have hb : W2.heap.size ≤ b := hb
                  have hs2 := HS2.out
                  exact ⟨by omega, fun e => by have := (HAZ.out.1.lt b e.symm).2; omega⟩
                have HSTN : Hid (stL (tkR R V T PL) p (m + 1) = (pj, ZL ++ [lj], 0)) := by
                  have h := stL_go HSZ.out (by rw [htk])
                  rw [htk] at h
                  exact h
                have HPLN : Hid ((ZL ++ [lj]).length = m + 1) := by unfold Hid; rw [List.length_append, HZL.out]; rfl
                have hownP := apn.1.alloc (.cells #[.slice la j lc] 48)
                have h7z := HR3.out.out.z
                have hs2 := HS2.out
                have hw23 := HGJ.out.size
                have hmn := HMN.out
                clear htk
                go_wp2_with (at_builtin; refine wpList_append_lies _ rfl _ _ 26 rfl S 48 i7 (.slice none 0 0) 1 24 Try.underlying26 hi7 h70 h71 h72 rfl (by decide) _ _ _ rfl hownP ⟨W3.heap.size, 0, none⟩ 1 1 [.slice la j lc] rfl rfl (cell_one_at rfl _ _) (one_slice _ _ _) (by decide) (by unfold maxLen; omega) (by omega) (by simp; omega) (W3.heap.size + 1) (by simp) ?_; intro g3 c4 w3 hown3 hgrow3 hat3 hlt3; have hpl3 := (HR3.out.pl.below (below1 W3 (.cells #[.slice la j lc] 48))).grown hgrow3 (fun e => by have := hoP _ e; omega); have hout3 := (HR3.out.out.below (below1 W3 (.cells #[.slice la j lc] 48))).grown hgrow3 (fun e => by have := hoP _ e; omega); clear q0 q1 qf0 qf1; obtain ⟨oz4, q0, q1, qf0, qf1⟩ := id hout3)
                have hbl3 := (HR3.out.bl.alloc HR3.out.bl.size (.cells #[.slice la j lc] 48)).grown hgrow3 (by have := HR3.out.bl.size; simp; omega) (fun i hi => by have := hoP i hi; omega)
                have HRN : Hid (Rr y1 (w3.setCell ⟨y1.heap.size + 1, 1, none⟩ (.slice (some ⟨g3, 0, none⟩) (m + 1) c4)) pj (.slice (some ⟨gb, go, none⟩) k oc) (.slice (some ⟨g3, 0, none⟩) (m + 1) c4)) := ⟨hpl3.other _ _ _ (by omega), hout3.set1 _, bset1 hbl3 _ _ _ (by omega)⟩
                have HAPN := hid (ap_butp (ap_push apn HZL.out hrp hown3 hgrow3 hat3) (grown_set (World.grownBy.refl w3 (some (y1.heap.size + 1))) (y1.heap.size + 1) 1 (.inr rfl) (.slice (some ⟨g3, 0, none⟩) (m + 1) c4)) (show y1.heap.size + 1 < S by omega))
                have HGN := hid (gpz_off (Gp.keeps.grown (Gp.keeps.below HG3.out (below1 W3 (.cells #[.slice la j lc] 48))) hgrow3 (fun b hb e => by have := hoP b e.symm; omega)) (y1.heap.size + 1) 1 (.slice (some ⟨g3, 0, none⟩) (m + 1) c4) (by omega))
                have HSN2 : Hid (S ≤ (w3.setCell ⟨y1.heap.size + 1, 1, none⟩ (.slice (some ⟨g3, 0, none⟩) (m + 1) c4)).heap.size) := by
                  have h8 := hgrow3.size
                  unfold Hid
                  simp at h8 ⊢
                  omega
                exact ⟨⟨m + 1, _, _, _, pj, ZL ++ [lj], by omega, by go_num, HSTN, HPLN, HRN, HAPN, HGN, HSN2, hpjT⟩, by simp [intOf]; omega⟩
              · have hj6 : j = 16 := by
                  by_cases e : j < 16
                  · exact absurd ⟨e, by omega⟩ hgo
                  · omega
                have htk : tkR R V T PL m p2 = (pj, lj, 0) := by
                  have h := HSJ.out
                  rw [hj6] at h
                  exact (HCP.out (by omega)).trans h
                have hnj : ¬ (j : Int) < 16 := by omega
                clear hgo hDj hj6
                have apn := ap_butp HAZ.out HGJ.out (show y1.heap.size < S by omega)
                have hoP : ∀ i, (Value.slice za m zc).ownBlock = some i → S ≤ i := fun i hi => (apn.1.lt i hi).1
                have hrp : Rp (fun b => S ≤ b ∧ some b ≠ (Value.slice za m zc).ownBlock) W3 (.slice la j lc) lj := Rp.keeps.mono (Rp.ofF (RwF.of_owns hown)) fun b _ hb => by
                  have hb : W2.heap.size ≤ b := hb
                  have hs2 := HS2.out
                  exact ⟨by omega, fun e => by have := (HAZ.out.1.lt b e.symm).2; omega⟩
                have HSTN : Hid (stL (tkR R V T PL) p (m + 1) = (pj, ZL ++ [lj], 0)) := by
                  have h := stL_go HSZ.out (by rw [htk])
                  rw [htk] at h
                  exact h
                have HPLN : Hid ((ZL ++ [lj]).length = m + 1) := by unfold Hid; rw [List.length_append, HZL.out]; rfl
                have hownP := apn.1.alloc (.cells #[.slice la j lc] 48)
                have h7z := HR3.out.out.z
                have hs2 := HS2.out
                have hw23 := HGJ.out.size
                have hmn := HMN.out
                clear htk
                go_wp2_with (at_builtin; refine wpList_append_lies _ rfl _ _ 26 rfl S 48 i7 (.slice none 0 0) 1 24 Try.underlying26 hi7 h70 h71 h72 rfl (by decide) _ _ _ rfl hownP ⟨W3.heap.size, 0, none⟩ 1 1 [.slice la j lc] rfl rfl (cell_one_at rfl _ _) (one_slice _ _ _) (by decide) (by unfold maxLen; omega) (by omega) (by simp; omega) (W3.heap.size + 1) (by simp) ?_; intro g3 c4 w3 hown3 hgrow3 hat3 hlt3; have hpl3 := (HR3.out.pl.below (below1 W3 (.cells #[.slice la j lc] 48))).grown hgrow3 (fun e => by have := hoP _ e; omega); have hout3 := (HR3.out.out.below (below1 W3 (.cells #[.slice la j lc] 48))).grown hgrow3 (fun e => by have := hoP _ e; omega); clear q0 q1 qf0 qf1; obtain ⟨oz4, q0, q1, qf0, qf1⟩ := id hout3)
                have hbl3 := (HR3.out.bl.alloc HR3.out.bl.size (.cells #[.slice la j lc] 48)).grown hgrow3 (by have := HR3.out.bl.size; simp; omega) (fun i hi => by have := hoP i hi; omega)
                have HRN : Hid (Rr y1 (w3.setCell ⟨y1.heap.size + 1, 1, none⟩ (.slice (some ⟨g3, 0, none⟩) (m + 1) c4)) pj (.slice (some ⟨gb, go, none⟩) k oc) (.slice (some ⟨g3, 0, none⟩) (m + 1) c4)) := ⟨hpl3.other _ _ _ (by omega), hout3.set1 _, bset1 hbl3 _ _ _ (by omega)⟩
                have HAPN := hid (ap_butp (ap_push apn HZL.out hrp hown3 hgrow3 hat3) (grown_set (World.grownBy.refl w3 (some (y1.heap.size + 1))) (y1.heap.size + 1) 1 (.inr rfl) (.slice (some ⟨g3, 0, none⟩) (m + 1) c4)) (show y1.heap.size + 1 < S by omega))
                have HGN := hid (gpz_off (Gp.keeps.grown (Gp.keeps.below HG3.out (below1 W3 (.cells #[.slice la j lc] 48))) hgrow3 (fun b hb e => by have := hoP b e.symm; omega)) (y1.heap.size + 1) 1 (.slice (some ⟨g3, 0, none⟩) (m + 1) c4) (by omega))
                have HSN2 : Hid (S ≤ (w3.setCell ⟨y1.heap.size + 1, 1, none⟩ (.slice (some ⟨g3, 0, none⟩) (m + 1) c4)).heap.size) := by
                  have h8 := hgrow3.size
                  unfold Hid
                  simp at h8 ⊢
                  omega
                exact ⟨⟨m + 1, _, _, _, pj, ZL ++ [lj], by omega, by go_num, HSTN, HPLN, HRN, HAPN, HGN, HSN2, hpjT⟩, by simp [intOf]; omega⟩
        · have hmn : m = n := by omega
          have HZ : Hid (stL (tkR R V T PL) p n = (p2, ZL, 0)) := by rw [← hmn]; exact HSZ.out
          have hT1 := tkP_pos HP.out hn2.1
          have HMN := hid hmn
          have hbw := bthen HW1.out HR.out.bl HW1.out.size
          have HT0 := hid (tkE_res HP.out HZ.out)
          have hbits := fun W (hb : Below w.heap.size w W) => bits_any (.slice ab L cb) xs W (HV.out.below hb) hx (by omega)
          rw [hn, hTT, hVV] at hbits
          have hmni : ¬ (m : Int) < n := by omega
          clear hmn hva hm HSZ hlt
          obtain ⟨pz3, p0, p1, pf0, pf1⟩ := id HR.out.pl
          have hR6 := HR.out
          go_wp2
          clear hmni e0 e1 e2 e3 f0 f1 f2 f3 hA2
          go_cut [20] (fun v wz => ∃ a c, v = .slice a (T - p2) c ∧ (T - p2 = 0 ∨ ∃ b off, a = some ⟨b, off, none⟩ ∧ b < wz.heap.size ∧ ∀ i, i < T - p2 → wz.cell? ⟨b, off + i, none⟩ = some (.int .i64 (bitAt V (p2 + i)))) ∧ Below W2.heap.size W2 wz)
          case first =>
            go_region_held3 (fun w' => w'.cell? ⟨y1.heap.size, 0, none⟩ = some (.int .i64 p2)) (first | exact p0 | exact t0) (first | (go_at_call 38; refine (hbits _ hbw.drew).mono ?_; rintro e y4 ⟨v4, rfl, hown4, hb4⟩; obtain ⟨a4, c4, rfl, ha4⟩ := owns_bits hown4; obtain ⟨b4, o4, rfl, hlt4, hc4⟩ := ha4.resolve_left (by omega); have hb5 : Below W2.heap.size W2 y4 := ⟨hb4.os, hb4.tape, hb4.output, hb4.size, hb4.block⟩; have hR7 := hR6.below hb5; obtain ⟨z7, t0, t1, tf0, tf1⟩ := id hR7.pl; have hcT : T ≤ c4 := (by obtain ⟨_, _, he, h1, _⟩ := owns_open hown4; cases he; exact h1)))
            all_goals go_wp2
            all_goals go_meet
            all_goals first | exact ⟨_, _, rfl, .inl (by omega), hb5⟩ | exact ⟨_, _, rfl, .inr ⟨b4, o4 + p2, rfl, hlt4, fun i hi => by have h9 := hc4 (p2 + i) (by omega); rw [← Nat.add_assoc] at h9; exact h9⟩, hb5⟩
          case rest =>
            obtain ⟨a5, c5, rfl, ha5, hb5⟩ := hcut
            have hR7 := hR6.below hb5
            have hb3 := bthen hbw hb5 hbw.size
            have hB2 := hB1.below hR7.bl
            have hzz := Nat.lt_of_lt_of_le hbz hR7.bl.size
            clear p0 p1 pf0 pf1 hR6 hbits
            obtain ⟨z3, d0, d1, g0, g1⟩ := id hB2
            obtain ⟨oz7, q0, q1, qf0, qf1⟩ := id hR7.out
            obtain ⟨U, hU⟩ : ∃ U, T - p2 = U := ⟨_, rfl⟩
            have HUU := hid hU
            have HP2 := hid hp2T
            have hU2 : U ≤ 16000 := by omega
            rw [hU] at ha5 ⊢
            clear hU hp2T
            have HSO := hid hb5
            have HSS2 := hid hyS
            by_cases h8 : 8 ≤ U
            · have HF := hid (fun w' hb => HBAD.out 2 w' (by rw [HT0.out, HUU.out, if_neg (by simp), if_pos h8]) (by decide) hb)
              have h8i : (8 : Int) ≤ (U : Int) := by omega
              go_wp2
              obtain ⟨zz, r0, r1, t0, t1⟩ := (hB2.set0 (.slice none 0 0)).set1 (.slice none 0 0)
              refine bodyPost_ret (v := .tuple #[.agg #[.slice none 0 0, .slice none 0 0], .int .i64 2]) (by simp [results, Try.results19, go_sem, r0, r1, t0, t1]) rfl (HF.out _ (bset2' hb3 (w.heap.size + 1) _ _ (by omega)))
            have h8i : ¬ (8 : Int) ≤ (U : Int) := by omega
            go_wp2
            go_loop [21] (fun i => ∃ r : Nat, r ≤ U ∧ i = .int .i64 r ∧ Hid (∀ o, o < r → bitAt V (p2 + o) = 0)) (fun i => U - (intOf i).toNat)
            case atStart => exact ⟨0, by omega, rfl, fun o ho => by omega⟩
            case round =>
              obtain ⟨r, hr, rfl, HB⟩ := hrel
              by_cases hru : r < U
              · obtain ⟨b5, o5, rfl, hlt5, hc5⟩ := ha5.resolve_left (by omega)
                have g := hc5 r hru
                by_cases hx : bitAt V (p2 + r) = 0
                · have HB2 : Hid (∀ o, o < r + 1 → bitAt V (p2 + o) = 0) := fun o ho => by
                    by_cases e : o < r
                    · exact HB.out o e
                    · obtain rfl : o = r := by omega
                      exact hx
                  rw [hx] at g
                  clear hx hc5 ha5
                  go_wp2
                  go_round
                  case rel => exact ⟨r + 1, by omega, by go_num, HB2⟩
                  case measure => simp [intOf]; omega
                · have HF := hid (fun w' hb => HBAD.out 2 w' (by rw [HT0.out, HUU.out, if_neg (by simp), if_neg h8, if_pos (rest_one hx)]) (by decide) hb)
                  have hne : (bitAt V (p2 + r) != 0) = true := by simpa using hx
                  clear hc5 ha5 hx
                  generalize bitAt V (p2 + r) = X5 at *
                  go_wp2
                  obtain ⟨zz, r0, r1, t0, t1⟩ := (hB2.set0 (.slice none 0 0)).set1 (.slice none 0 0)
                  refine bodyPost_ret (v := .tuple #[.agg #[.slice none 0 0, .slice none 0 0], .int .i64 2]) (by simp [results, Try.results19, go_sem, r0, r1, t0, t1]) rfl (HF.out _ (bset2' hb3 (w.heap.size + 1) _ _ (by omega)))
              · have hz : rbE (n : Int) q F R V T = 0 := by
                  rw [HRE.out, HT0.out, HUU.out, if_neg (by simp), if_neg h8, if_neg]
                  rw [rest_zero (T := T) (p := p2) ?_ HP2.out (fun o ho => HB.out o (by have := HUU.out; omega))]
                  · simp
                  · exact HVT.out
                have HF := hid (fun w' => rb_good (w := w) (w' := w') (a1 := oa) (c1 := oc) (a2 := za) (c2 := zc) (k := k) (m := m) hz HP.out (tkZ_of HP.out HZ.out) (by rw [HPn.out, HKN.out]) (by rw [HZL.out]))
                have hG1 : Gp (fun b => y1.heap.size + 2 ≤ b) wc (.slice oa k oc) PL := Gp.keeps.mono (Gp.keeps.below HGP.out HSO.out) fun b _ hb => hb.1
                have hG2 : Gp (fun b => S ≤ b) wc (.slice za m zc) ZL := by
                  have h := HAZ.out.all Rp.keeps []
                  rw [range_getD ZL m HZL.out] at h
                  exact Gp.keeps.below h HSO.out
                have hnr : ¬ (r : Int) < U := by omega
                clear hz
                go_wp2
                obtain ⟨zz, r0, r1, t0, t1⟩ := (hB2.set0 (.slice oa k oc)).set1 (.slice za m zc)
                have hS9 := HSS2.out
                refine bodyPost_ret (v := .tuple #[.agg #[.slice oa k oc, .slice za m zc], .int .i64 0]) (by simp [results, Try.results19, go_sem, r0, r1, t0, t1]) rfl (HF.out _ (Gp.keeps.mono (gpz_off (gpz_off hG1 _ _ _ (by omega)) _ _ _ (by omega)) fun b _ hb => by have : y1.heap.size + 2 ≤ b := hb; omega) (Gp.keeps.mono (gpz_off (gpz_off hG2 _ _ _ (by omega)) _ _ _ (by omega)) fun b _ hb => by have : S ≤ b := hb; omega) (bset2' hb3 (w.heap.size + 1) _ _ (by omega)))
end Go.Proofs.Ytolfnjlkcppplaa
/- Contract of the document's Read of a body, for any header. -/
namespace Go.Proofs.Ytolfnjlkcppplaa
open Go.RowKit
set_option linter.unusedVariables false
set_option maxRecDepth 10000

theorem rbread_any (c q : Int) (af : Option Addr) (nf cf : Nat) (F : List Int) (ar : Option Addr) (nr cr : Nat) (R : List Int) (ab : Option Addr) (L cb : Nat) (xs : List Int) (w : World) (h : Bks w af nf cf F ar nr cr R) (hn : xs.length = L) (hv : Rw .u8 w (.slice ab L cb) xs) (hx : Byts xs) (hl : L ≤ 2000) :
    Calls Try.prog 19 #[.agg #[.int .i64 c, .int .i64 q, .slice af nf cf, .slice ar nr cr], .slice ab L cb] w (RbPost c q F R (bv xs) (8 * L) w) := by
  by_cases hR : vhRight c q F R = true
  · obtain ⟨h1, h2, -, -, h5, h6, -⟩ := vhRight_parts hR
    obtain ⟨n, rfl⟩ := Int.eq_ofNat_of_zero_le (show 0 ≤ c by omega)
    obtain rfl : nf = 45 := h.lf.symm.trans h5
    obtain rfl : nr = 16 := h.lr.symm.trans h6
    exact rbread_ok n q af cf F ar cr R ab L cb xs w h hR hn hv hx hl
  · exact rbread_no c q af nf cf F ar nr cr R ab L cb (bv xs) (8 * L) w h (by simpa using hR)
end Go.Proofs.Ytolfnjlkcppplaa
