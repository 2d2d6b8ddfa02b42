/- Pulses of bands, plain: what they cost, which bands may have one more, the worthiest of them, all of them given. Nothing of the program is used by this text itself. -/
import Derived.Test.YtlpjkahppogkiaaJb
namespace Go.Proofs.Ytlpjkahppogkiaa
open Go.RowKit
set_option linter.unusedVariables false
set_option linter.unusedSimpArgs false

/-- What k pulses of band b cost. -/
def co (b k : Nat) : Nat := Lib.bitLen (V (wd b) k - 1)
/-- How many pulses a band may have. -/
def mx (b : Nat) : Nat := if wd b = 1 then 1 else 12
/-- One pulse more of band a. -/
def up (f : Nat → Nat) (a : Nat) : Nat → Nat := fun i => if i = a then f i + 1 else f i
/-- What the pulses of the first bands cost. -/
def spn (f : Nat → Nat) : Nat → Nat
  | 0 => 0
  | b + 1 => spn f b + co b (f b)
def sp (f : Nat → Nat) : Nat := spn f 5
/-- How many pulses are wanting. -/
def remn (f : Nat → Nat) : Nat → Nat
  | 0 => 0
  | b + 1 => remn f b + (12 - f b)
def rem5 (f : Nat → Nat) : Nat := remn f 5
/-- May a band have one pulse more? -/
def mayB (g : List Int) (f : Nat → Nat) (room : Int) (b : Nat) : Bool := decide (0 < g.getD b 0 ∧ f b < mx b ∧ (sp (up f b) : Int) ≤ room)
/-- What one pulse more is worth. -/
def wor (g : List Int) (f : Nat → Nat) (b : Nat) : Int := 8 * g.getD b 0 - ((16 * f b / wd b : Nat) : Int)
/-- The better one of the best and the next. -/
def bstep (w : Nat → Int) (o : Option Nat) (b : Nat) : Option Nat :=
  match o with
  | none => some b
  | some a => if w a < w b then some b else some a
/-- The first best one of those that may, below n. -/
def bst (p : Nat → Bool) (w : Nat → Int) : Nat → Option Nat
  | 0 => none
  | n + 1 => if p n = true then bstep w (bst p w n) n else bst p w n
/-- Those that may. -/
def bds (p : Nat → Bool) (n : Nat) : List Nat := (List.range n).filter p
/-- The first best one of a list. -/
def bsl (w : Nat → Int) (l : List Nat) : Option Nat := l.foldl (bstep w) none

theorem wd_pos {b : Nat} (h : b < 5) : 1 ≤ wd b ∧ wd b ≤ 16 := by
  have : b = 0 ∨ b = 1 ∨ b = 2 ∨ b = 3 ∨ b = 4 := by omega
  rcases this with rfl | rfl | rfl | rfl | rfl <;> decide
theorem mx_le (b : Nat) : mx b ≤ 12 := by unfold mx; split <;> omega
theorem co_le (b k : Nat) (hb : b < 5) (hk : k ≤ 13) : co b k ≤ 64 := by
  have := V_small (wd b) k (wd_pos hb).2 hk
  exact bits_counts.le _ (by omega)
theorem co_zero (b : Nat) (hb : b < 5) : co b 0 = 0 := by
  have : b = 0 ∨ b = 1 ∨ b = 2 ∨ b = 3 ∨ b = 4 := by omega
  rcases this with rfl | rfl | rfl | rfl | rfl <;> decide +kernel
theorem up_at (f : Nat → Nat) (a : Nat) : up f a a = f a + 1 := by simp [up]
theorem up_no (f : Nat → Nat) {a i : Nat} (h : i ≠ a) : up f a i = f i := by simp [up, h]
theorem spn_up_no (f : Nat → Nat) (a : Nat) : ∀ n, n ≤ a → spn (up f a) n = spn f n
  | 0, _ => rfl
  | n + 1, h => by rw [spn, spn, spn_up_no f a n (by omega), up_no f (by omega)]
theorem spn_up (f : Nat → Nat) (a : Nat) : ∀ n, a < n → spn (up f a) n + co a (f a) = spn f n + co a (f a + 1)
  | 0, h => by omega
  | n + 1, h => by
    by_cases e : a < n
    · have := spn_up f a n e
      rw [spn, spn, up_no f (show n ≠ a by omega)]
      omega
    · obtain rfl : a = n := by omega
      rw [spn, spn, spn_up_no f a a (Nat.le_refl _), up_at]
      omega
theorem sp_up (f : Nat → Nat) (a : Nat) (h : a < 5) : sp (up f a) + co a (f a) = sp f + co a (f a + 1) := spn_up f a 5 h
theorem remn_up_no (f : Nat → Nat) (a : Nat) : ∀ n, n ≤ a → remn (up f a) n = remn f n
  | 0, _ => rfl
  | n + 1, h => by rw [remn, remn, remn_up_no f a n (by omega), up_no f (by omega)]
theorem remn_up (f : Nat → Nat) (a : Nat) (ha : f a < 12) : ∀ n, a < n → remn (up f a) n + 1 = remn f n
  | 0, h => by omega
  | n + 1, h => by
    by_cases e : a < n
    · have := remn_up f a ha n e
      rw [remn, remn, up_no f (show n ≠ a by omega)]
      omega
    · obtain rfl : a = n := by omega
      rw [remn, remn, remn_up_no f a a (Nat.le_refl _), up_at]
      omega
theorem rem_up (f : Nat → Nat) (a : Nat) (h : a < 5) (ha : f a < 12) : rem5 (up f a) + 1 = rem5 f := remn_up f a ha 5 h
theorem remn_zero (f : Nat → Nat) : ∀ n, remn f n = 0 → ∀ b, b < n → 12 ≤ f b
  | 0, _, b, hb => by omega
  | n + 1, h, b, hb => by
    rw [remn] at h
    by_cases e : b < n
    · exact remn_zero f n (by omega) b e
    · obtain rfl : b = n := by omega
      omega
theorem spn_le (f : Nat → Nat) (hf : ∀ b, b < 5 → f b ≤ 13) : ∀ n, n ≤ 5 → spn f n ≤ 64 * n
  | 0, _ => Nat.le_refl _
  | n + 1, h => by
    have h1 := spn_le f hf n (by omega)
    have h2 := co_le n (f n) (by omega) (hf n (by omega))
    rw [spn]; omega
theorem sp_le (f : Nat → Nat) (hf : ∀ b, b < 5 → f b ≤ 13) : sp f ≤ 320 := spn_le f hf 5 (Nat.le_refl _)
theorem spn_none : ∀ n, n ≤ 5 → spn (fun _ => 0) n = 0
  | 0, _ => rfl
  | n + 1, h => by rw [spn, spn_none n (by omega), co_zero n (by omega)]
theorem sp_none : sp (fun _ => 0) = 0 := spn_none 5 (Nat.le_refl _)

theorem may_iff {g : List Int} {f : Nat → Nat} {room : Int} {b : Nat} : mayB g f room b = true ↔ 0 < g.getD b 0 ∧ f b < mx b ∧ (sp (up f b) : Int) ≤ room := by
  unfold mayB; rw [decide_eq_true_eq]
theorem may_no {g : List Int} {f : Nat → Nat} {room : Int} {b : Nat} (h : ¬ (0 < g.getD b 0 ∧ f b < mx b ∧ (sp (up f b) : Int) ≤ room)) : mayB g f room b = false := decide_eq_false h

theorem bst_some {p : Nat → Bool} {w : Nat → Int} : ∀ {n a : Nat}, bst p w n = some a → a < n ∧ p a = true
  | 0, a, h => by cases h
  | n + 1, a, h => by
    rw [bst] at h
    by_cases hp : p n = true
    · rw [if_pos hp] at h
      cases hb : bst p w n with
      | none => rw [hb] at h; simp [bstep] at h; subst h; exact ⟨by omega, hp⟩
      | some c =>
        rw [hb] at h
        have hc := bst_some hb
        simp only [bstep] at h
        split at h
        · cases h; exact ⟨by omega, hp⟩
        · cases h; exact ⟨by omega, hc.2⟩
    · rw [if_neg hp] at h
      have := bst_some h
      exact ⟨by omega, this.2⟩
theorem bstep_some (w : Nat → Int) (o : Option Nat) (b : Nat) : ∃ a, bstep w o b = some a := by
  cases o with
  | none => exact ⟨b, rfl⟩
  | some a => simp only [bstep]; split <;> exact ⟨_, rfl⟩
theorem bst_none {p : Nat → Bool} {w : Nat → Int} : ∀ {n : Nat}, bst p w n = none → ∀ b, b < n → p b = false
  | 0, _, b, hb => by omega
  | n + 1, h, b, hb => by
    rw [bst] at h
    by_cases hp : p n = true
    · rw [if_pos hp] at h
      obtain ⟨a, ha⟩ := bstep_some w (bst p w n) n
      rw [ha] at h; cases h
    · rw [if_neg hp] at h
      by_cases e : b < n
      · exact bst_none h b e
      · obtain rfl : b = n := by omega
        simpa using hp
theorem bds_succ (p : Nat → Bool) (n : Nat) : bds p (n + 1) = if p n = true then bds p n ++ [n] else bds p n := by
  unfold bds
  rw [List.range_succ, List.filter_append]
  by_cases h : p n = true
  · simp [h]
  · simp [h]
theorem bsl_snoc (w : Nat → Int) (l : List Nat) (b : Nat) : bsl w (l ++ [b]) = bstep w (bsl w l) b := by
  unfold bsl; rw [List.foldl_append]; rfl
theorem bsl_bds (p : Nat → Bool) (w : Nat → Int) : ∀ n, bsl w (bds p n) = bst p w n
  | 0 => rfl
  | n + 1 => by
    rw [bds_succ, bst]
    by_cases h : p n = true
    · rw [if_pos h, if_pos h, bsl_snoc, bsl_bds p w n]
    · rw [if_neg h, if_neg h, bsl_bds p w n]
theorem bds_mem {p : Nat → Bool} {n : Nat} : ∀ b ∈ bds p n, b < n ∧ p b = true := fun b hb => by
  unfold bds at hb
  rw [List.mem_filter, List.mem_range] at hb
  exact hb
theorem bds_len (p : Nat → Bool) (n : Nat) : (bds p n).length ≤ n := by
  unfold bds
  have := List.length_filter_le p (List.range n)
  simpa using this
theorem bsl_take (w : Nat → Int) (l : List Nat) (i : Nat) (h : i < l.length) : bsl w (l.take (i + 1)) = bstep w (bsl w (l.take i)) (l.getD i 0) := by
  rw [← bsl_snoc]
  congr 1
  rw [List.take_add_one, List.getD_eq_getElem?_getD, List.getElem?_eq_getElem h]; rfl
theorem bsl_all (w : Nat → Int) (l : List Nat) : bsl w (l.take l.length) = bsl w l := by rw [List.take_length]
theorem bsl_nil {w : Nat → Int} {l : List Nat} (h : bsl w l = none) : l = [] := by
  cases l with
  | nil => rfl
  | cons a l =>
    exfalso
    have : ∀ (l : List Nat) (a : Nat), ∃ c, l.foldl (bstep w) (some a) = some c := by
      intro l
      induction l with
      | nil => intro a; exact ⟨a, rfl⟩
      | cons b l ih =>
        intro a
        rw [List.foldl_cons]
        obtain ⟨c, hc⟩ := bstep_some w (some a) b
        rw [hc]; exact ih c
    obtain ⟨c, hc⟩ := this l a
    have h2 : bsl w (a :: l) = some c := hc
    rw [h2] at h; cases h

/-- All pulses given, one by one, at most t times. -/
def fin5 (g : List Int) (room : Int) : Nat → (Nat → Nat) → (Nat → Nat)
  | 0, f => f
  | t + 1, f => match bst (mayB g f room) (wor g f) 5 with
    | none => f
    | some a => fin5 g room t (up f a)
def endF (g : List Int) (room : Int) (f : Nat → Nat) : Nat → Nat := fin5 g room (rem5 f) f
theorem endF_none {g : List Int} {room : Int} {f : Nat → Nat} (h : bst (mayB g f room) (wor g f) 5 = none) : endF g room f = f := by
  unfold endF
  generalize rem5 f = t
  cases t with
  | zero => rfl
  | succ t => rw [fin5, h]
theorem may_lt {g : List Int} {f : Nat → Nat} {room : Int} {b : Nat} (h : mayB g f room b = true) : f b < 12 := by
  have h1 := (may_iff.1 h).2.1
  have h2 := mx_le b
  omega
theorem endF_some {g : List Int} {room : Int} {f : Nat → Nat} {a : Nat} (h : bst (mayB g f room) (wor g f) 5 = some a) : endF g room f = endF g room (up f a) := by
  obtain ⟨h1, h2⟩ := bst_some h
  unfold endF
  rw [← rem_up f a h1 (may_lt h2), fin5, h]
/-- The pulses of a channel. -/
def chan (g : List Int) (room : Int) : Nat → Nat := endF g room fun _ => 0
/-- Pulses that may be. -/
structure Okf (g : List Int) (room : Int) (f : Nat → Nat) : Prop where
  most : ∀ b, b < 5 → f b ≤ mx b
  cost : (sp f : Int) ≤ room
  none : ∀ b, b < 5 → g.getD b 0 ≤ 0 → f b = 0
theorem Okf.start (g : List Int) {room : Int} (h : 0 ≤ room) : Okf g room fun _ => 0 := ⟨fun _ _ => Nat.zero_le _, by rw [sp_none]; exact h, fun _ _ _ => rfl⟩
theorem Okf.le {g : List Int} {room : Int} {f : Nat → Nat} (h : Okf g room f) (b : Nat) (hb : b < 5) : f b ≤ 12 := Nat.le_trans (h.most b hb) (mx_le b)
theorem Okf.up {g : List Int} {room : Int} {f : Nat → Nat} (h : Okf g room f) {a : Nat} (ha : mayB g f room a = true) : Okf g room (up f a) := by
  obtain ⟨h1, h2, h3⟩ := may_iff.1 ha
  refine ⟨fun b hb => ?_, h3, fun b hb hg => ?_⟩
  · by_cases e : b = a
    · subst e; rw [up_at]; exact h2
    · rw [up_no f e]; exact h.most b hb
  · by_cases e : b = a
    · subst e; omega
    · rw [up_no f e]; exact h.none b hb hg
theorem fin_ok {g : List Int} {room : Int} : ∀ (t : Nat) (f : Nat → Nat), Okf g room f → rem5 f ≤ t → Okf g room (fin5 g room t f) ∧ ∀ b, b < 5 → mayB g (fin5 g room t f) room b = false
  | 0, f, h, hr => ⟨h, fun b hb => may_no fun hh => by
      have h1 := remn_zero f 5 (show remn f 5 = 0 by unfold rem5 at hr; omega) b hb
      have h2 := mx_le b
      have h3 : f b < mx b := hh.2.1
      omega⟩
  | t + 1, f, h, hr => by
    rw [fin5]
    cases hb : bst (mayB g f room) (wor g f) 5 with
    | none => exact ⟨h, bst_none hb⟩
    | some a =>
      obtain ⟨h1, h2⟩ := bst_some hb
      have := rem_up f a h1 (may_lt h2)
      exact fin_ok t (Go.Proofs.Ytlpjkahppogkiaa.up f a) (h.up h2) (by omega)
theorem chan_ok (g : List Int) {room : Int} (h : 0 ≤ room) : Okf g room (chan g room) ∧ ∀ b, b < 5 → mayB g (chan g room) room b = false := fin_ok _ _ (Okf.start g h) (Nat.le_refl _)
theorem chan_silent {g : List Int} {room : Int} (h : ∀ b, b < 5 → g.getD b 0 = 0) : chan g room = fun _ => 0 := by
  unfold chan
  apply endF_none
  have hp : ∀ b, b < 5 → mayB g (fun _ => 0) room b = false := fun b hb => may_no fun hh => by have := h b hb; omega
  cases hb : bst (mayB g (fun _ => 0) room) (wor g fun _ => 0) 5 with
  | none => rfl
  | some a =>
    obtain ⟨h1, h2⟩ := bst_some hb
    rw [hp a h1] at h2; cases h2

/-- Pulses as memory has them. -/
def pls (f : Nat → Nat) : List Int := tab 5 fun i => (f i : Int)
theorem pls_len (f : Nat → Nat) : (pls f).length = 5 := tab_len _ _
theorem pls_at (f : Nat → Nat) (b : Nat) (h : b < 5) : (pls f).getD b 0 = (f b : Int) := tab_at _ _ _ h
theorem pls_set (f : Nat → Nat) (a : Nat) (h : a < 5) : (pls f).set a ((f a : Int) + 1) = pls (up f a) := by
  unfold pls
  rw [tab_set _ _ _ _ h]
  apply tab_congr
  intro i hi
  by_cases e : i = a
  · subst e; simp [up]
  · simp [up, e]
theorem pls_zero : (tab 5 fun _ => 0) = pls fun _ => 0 := rfl

/-! ### Shapes, rooms -/
/-- May packets have that shape? -/
def rtB (n c : Int) : Bool := (decide (c = 1) && decide (11 ≤ n ∧ n ≤ 60)) || (decide (c = 2) && decide (17 ≤ n ∧ n ≤ 60))
/-- The room. -/
def rmI (n c : Int) : Int := if rtB n c = true then (if c = 1 then 8 * n - 86 else (8 * n - 131) / 2) else 0
theorem rt_parts {n c : Int} (h : rtB n c = true) : (c = 1 ∧ 11 ≤ n ∧ n ≤ 60) ∨ (c = 2 ∧ 17 ≤ n ∧ n ≤ 60) := by
  unfold rtB at h
  simp only [Bool.or_eq_true, Bool.and_eq_true, decide_eq_true_eq] at h
  exact h
theorem rt_of {n c : Int} (h : (c = 1 ∧ 11 ≤ n ∧ n ≤ 60) ∨ (c = 2 ∧ 17 ≤ n ∧ n ≤ 60)) : rtB n c = true := by
  unfold rtB
  simp only [Bool.or_eq_true, Bool.and_eq_true, decide_eq_true_eq]
  exact h
theorem rt_no {n c : Int} (h : ¬ ((c = 1 ∧ 11 ≤ n ∧ n ≤ 60) ∨ (c = 2 ∧ 17 ≤ n ∧ n ≤ 60))) : rtB n c = false := by
  cases hb : rtB n c
  · rfl
  · exact absurd (rt_parts hb) h
theorem rm_bd (n c : Int) : 0 ≤ rmI n c ∧ rmI n c ≤ 394 := by
  unfold rmI
  by_cases h : rtB n c = true
  · rw [if_pos h]
    have := rt_parts h
    split <;> omega
  · rw [if_neg h]; omega
theorem rm_no {n c : Int} (h : rtB n c = false) : rmI n c = 0 := by unfold rmI; rw [h]; rfl
theorem rm_one {n : Int} (h : rtB n 1 = true) : rmI n 1 = 8 * n - 86 := by unfold rmI; rw [if_pos h]; rfl
theorem rm_two {n : Int} (h : rtB n 2 = true) : rmI n 2 = (8 * n - 131) / 2 := by unfold rmI; rw [if_pos h]; rfl
theorem e_k1 : pls (chan [9, 0, 0, 0, 0] 2) = [1, 0, 0, 0, 0] := by decide +kernel
theorem e_k2 : pls (chan [0, 0, 9, 0, 0] 2) = [0, 0, 1, 0, 0] := by decide +kernel
end Go.Proofs.Ytlpjkahppogkiaa
