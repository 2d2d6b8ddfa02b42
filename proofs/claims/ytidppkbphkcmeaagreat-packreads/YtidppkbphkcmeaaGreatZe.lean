/- Contracts of Width, by the program and by the document. -/
import Derived.Test.YtidppkbphkcmeaaGreatZd
import Derived.Laws.BitsAllLaws
import Derived.Deep.RegionHeld3
import Derived.Deep.RegionWith
import Derived.Deep.DeepCutAuto
import Derived.Deep.CutRange
import Derived.Deep.LoopGhost
import Derived.Laws.EntriesVeiled
import Derived.BigQuiet
namespace Go.Proofs.YtidppkbphkcmeaaGreat
open Go.RowKit
set_option linter.unusedVariables false
set_option linter.unusedSimpArgs false

/-- Where a band begins; how many coefficients it has. -/
def fr (b : Nat) : Nat := if b = 0 then 0 else if b = 1 then 1 else if b = 2 then 2 else if b = 3 then 4 else if b = 4 then 8 else 0
def wd (b : Nat) : Nat := if b = 0 then 1 else if b = 1 then 1 else if b = 2 then 2 else if b = 3 then 4 else if b = 4 then 8 else 0
def frI (b : Int) : Int := if 0 ≤ b ∧ b < 5 then (fr b.toNat : Nat) else 0
def wdI (b : Int) : Int := if 0 ≤ b ∧ b < 5 then (wd b.toNat : Nat) else 0
theorem frI_nat {b : Nat} (h : b < 5) : frI (b : Int) = (fr b : Nat) := by unfold frI; rw [if_pos ⟨by omega, by omega⟩]; simp
theorem wdI_nat {b : Nat} (h : b < 5) : wdI (b : Int) = (wd b : Nat) := by unfold wdI; rw [if_pos ⟨by omega, by omega⟩]; simp
theorem frI_no {b : Int} (h : ¬ (0 ≤ b ∧ b < 5)) : frI b = 0 := by unfold frI; rw [if_neg h]
theorem wdI_no {b : Int} (h : ¬ (0 ≤ b ∧ b < 5)) : wdI b = 0 := by unfold wdI; rw [if_neg h]
theorem isb_any (b : Int) (w : World) : Calls Tryz.prog 103 #[.int .i64 b] w fun e w' => e = .returned (.bool (decide (0 ≤ b ∧ b < 5))) ∧ w' = w := by
  by_cases h0 : 0 ≤ b
  · by_cases h1 : b < 5
    · rw [decide_eq_true ⟨h0, h1⟩]
      go_enter Tryz.func103, Tryz.ntmps103
      go_wp2
      go_ret
      exact ⟨rfl, rfl⟩
    · rw [decide_eq_false (fun h => h1 h.2)]
      go_enter Tryz.func103, Tryz.ntmps103
      go_wp2
      go_ret
      exact ⟨rfl, rfl⟩
  · rw [decide_eq_false (fun h => h0 h.1)]
    go_enter Tryz.func103, Tryz.ntmps103
    go_wp2
    go_ret
    exact ⟨rfl, rfl⟩
theorem from_any (b : Int) (w : World) : Calls Tryz.prog 104 #[.int .i64 b] w fun e w' => e = .returned (.int .i64 (frI b)) ∧ w' = w := by
  have hb := fun w => isb_any b w
  by_cases h : 0 ≤ b ∧ b < 5
  · have : b = 0 ∨ b = 1 ∨ b = 2 ∨ b = 3 ∨ b = 4 := by omega
    rw [decide_eq_true h] at hb
    rcases this with rfl | rfl | rfl | rfl | rfl
    all_goals
      go_enter Tryz.func104, Tryz.ntmps104
      go_wp2_with (go_at_call 103; refine (hb _).mono ?_; rintro e w9 ⟨rfl, h9⟩; have h9 := h9.symm; subst h9)
      go_ret
      exact ⟨rfl, rfl⟩
  · rw [decide_eq_false h] at hb
    rw [frI_no h]
    go_enter Tryz.func104, Tryz.ntmps104
    go_wp2_with (go_at_call 103; refine (hb _).mono ?_; rintro e w9 ⟨rfl, h9⟩; have h9 := h9.symm; subst h9)
    go_ret
    exact ⟨rfl, rfl⟩
theorem width_any (b : Int) (w : World) : Calls Tryz.prog 74 #[.int .i64 b] w fun e w' => e = .returned (.int .i64 (wdI b)) ∧ w' = w := by
  have hb := fun w => isb_any b w
  have hf := fun w => from_any b w
  by_cases h : 0 ≤ b ∧ b < 5
  · have : b = 0 ∨ b = 1 ∨ b = 2 ∨ b = 3 ∨ b = 4 := by omega
    rw [decide_eq_true h] at hb
    rcases this with rfl | rfl | rfl | rfl | rfl
    · rw [show frI 0 = 0 by rfl] at hf
      go_enter Tryz.func74, Tryz.ntmps74
      go_wp2_with (first | (go_at_call 103; refine (hb _).mono ?_; rintro e w9 ⟨rfl, h9⟩; have h9 := h9.symm; subst h9) | (go_at_call 104; refine (hf _).mono ?_; rintro e w9 ⟨rfl, h9⟩; have h9 := h9.symm; subst h9))
      go_ret
      exact ⟨rfl, rfl⟩
    · rw [show frI 1 = 1 by rfl] at hf
      go_enter Tryz.func74, Tryz.ntmps74
      go_wp2_with (first | (go_at_call 103; refine (hb _).mono ?_; rintro e w9 ⟨rfl, h9⟩; have h9 := h9.symm; subst h9) | (go_at_call 104; refine (hf _).mono ?_; rintro e w9 ⟨rfl, h9⟩; have h9 := h9.symm; subst h9))
      go_ret
      exact ⟨rfl, rfl⟩
    · rw [show frI 2 = 2 by rfl] at hf
      go_enter Tryz.func74, Tryz.ntmps74
      go_wp2_with (first | (go_at_call 103; refine (hb _).mono ?_; rintro e w9 ⟨rfl, h9⟩; have h9 := h9.symm; subst h9) | (go_at_call 104; refine (hf _).mono ?_; rintro e w9 ⟨rfl, h9⟩; have h9 := h9.symm; subst h9))
      go_ret
      exact ⟨rfl, rfl⟩
    · rw [show frI 3 = 4 by rfl] at hf
      go_enter Tryz.func74, Tryz.ntmps74
      go_wp2_with (first | (go_at_call 103; refine (hb _).mono ?_; rintro e w9 ⟨rfl, h9⟩; have h9 := h9.symm; subst h9) | (go_at_call 104; refine (hf _).mono ?_; rintro e w9 ⟨rfl, h9⟩; have h9 := h9.symm; subst h9))
      go_ret
      exact ⟨rfl, rfl⟩
    · rw [show frI 4 = 8 by rfl] at hf
      go_enter Tryz.func74, Tryz.ntmps74
      go_wp2_with (first | (go_at_call 103; refine (hb _).mono ?_; rintro e w9 ⟨rfl, h9⟩; have h9 := h9.symm; subst h9) | (go_at_call 104; refine (hf _).mono ?_; rintro e w9 ⟨rfl, h9⟩; have h9 := h9.symm; subst h9))
      go_ret
      exact ⟨rfl, rfl⟩
  · rw [decide_eq_false h] at hb
    rw [wdI_no h]
    go_enter Tryz.func74, Tryz.ntmps74
    go_wp2_with (go_at_call 103; refine (hb _).mono ?_; rintro e w9 ⟨rfl, h9⟩; have h9 := h9.symm; subst h9)
    go_ret
    exact ⟨rfl, rfl⟩
theorem neq_of {a b : Int} (h : a ≠ b) : (a == b) = false := by simpa using h
theorem rwidth_any (b : Int) (w : World) : Calls Tryz.prog 27 #[.int .i64 b] w fun e w' => e = .returned (.int .i64 (wdI b)) ∧ w' = w := by
  by_cases h : 0 ≤ b ∧ b < 5
  · have : b = 0 ∨ b = 1 ∨ b = 2 ∨ b = 3 ∨ b = 4 := by omega
    rcases this with rfl | rfl | rfl | rfl | rfl
    all_goals
      go_enter Tryz.func27, Tryz.ntmps27
      go_wp2
      go_ret
      exact ⟨rfl, rfl⟩
  · rw [wdI_no h]
    have e0 : (b == 0) = false := neq_of (by omega)
    have e1 : (b == 1) = false := neq_of (by omega)
    have e2 : (b == 2) = false := neq_of (by omega)
    have e3 : (b == 3) = false := neq_of (by omega)
    have e4 : (b == 4) = false := neq_of (by omega)
    go_enter Tryz.func27, Tryz.ntmps27
    go_wp2
    go_ret
    exact ⟨rfl, rfl⟩
end Go.Proofs.YtidppkbphkcmeaaGreat
/- Pulses of bands, plain: what they cost, which bands may have one more, the worthiest of them, all of them given. Nothing of the program is used by this text itself. -/
namespace Go.Proofs.YtidppkbphkcmeaaGreat
open Go.RowKit
set_option linter.unusedVariables false
set_option linter.unusedSimpArgs false

/-- What k pulses of band b cost. -/
def co (b k : Nat) : Nat := Lib.bitLen (V (wd b) k - 1)
/-- How many pulses a band may have. -/
def mx (b : Nat) : Nat := if wd b = 1 then 1 else 12
/-- One pulse more of band a. -/
def up (f : Nat → Nat) (a : Nat) : Nat → Nat := fun i => if i = a then f i + 1 else f i
/-- What the pulses of the first bands cost. -/
def spn (f : Nat → Nat) : Nat → Nat
  | 0 => 0
  | b + 1 => spn f b + co b (f b)
def sp (f : Nat → Nat) : Nat := spn f 5
/-- How many pulses are wanting. -/
def remn (f : Nat → Nat) : Nat → Nat
  | 0 => 0
  | b + 1 => remn f b + (12 - f b)
def rem5 (f : Nat → Nat) : Nat := remn f 5
/-- May a band have one pulse more? -/
def mayB (g : List Int) (f : Nat → Nat) (room : Int) (b : Nat) : Bool := decide (0 < g.getD b 0 ∧ f b < mx b ∧ (sp (up f b) : Int) ≤ room)
/-- What one pulse more is worth. -/
def wor (g : List Int) (f : Nat → Nat) (b : Nat) : Int := 8 * g.getD b 0 - ((16 * f b / wd b : Nat) : Int)
/-- The better one of the best and the next. -/
def bstep (w : Nat → Int) (o : Option Nat) (b : Nat) : Option Nat :=
  match o with
  | none => some b
  | some a => if w a < w b then some b else some a
/-- The first best one of those that may, below n. -/
def bst (p : Nat → Bool) (w : Nat → Int) : Nat → Option Nat
  | 0 => none
  | n + 1 => if p n = true then bstep w (bst p w n) n else bst p w n
/-- Those that may. -/
def bds (p : Nat → Bool) (n : Nat) : List Nat := (List.range n).filter p
/-- The first best one of a list. -/
def bsl (w : Nat → Int) (l : List Nat) : Option Nat := l.foldl (bstep w) none

theorem wd_pos {b : Nat} (h : b < 5) : 1 ≤ wd b ∧ wd b ≤ 16 := by
  have : b = 0 ∨ b = 1 ∨ b = 2 ∨ b = 3 ∨ b = 4 := by omega
  rcases this with rfl | rfl | rfl | rfl | rfl <;> decide
theorem mx_le (b : Nat) : mx b ≤ 12 := by unfold mx; split <;> omega
theorem co_le (b k : Nat) (hb : b < 5) (hk : k ≤ 13) : co b k ≤ 64 := by
  have := V_small (wd b) k (wd_pos hb).2 hk
  exact bits_counts.le _ (by omega)
theorem co_zero (b : Nat) (hb : b < 5) : co b 0 = 0 := by
  have : b = 0 ∨ b = 1 ∨ b = 2 ∨ b = 3 ∨ b = 4 := by omega
  rcases this with rfl | rfl | rfl | rfl | rfl <;> decide +kernel
theorem up_at (f : Nat → Nat) (a : Nat) : up f a a = f a + 1 := by simp [up]
theorem up_no (f : Nat → Nat) {a i : Nat} (h : i ≠ a) : up f a i = f i := by simp [up, h]
theorem spn_up_no (f : Nat → Nat) (a : Nat) : ∀ n, n ≤ a → spn (up f a) n = spn f n
  | 0, _ => rfl
  | n + 1, h => by rw [spn, spn, spn_up_no f a n (by omega), up_no f (by omega)]
theorem spn_up (f : Nat → Nat) (a : Nat) : ∀ n, a < n → spn (up f a) n + co a (f a) = spn f n + co a (f a + 1)
  | 0, h => by omega
  | n + 1, h => by
    by_cases e : a < n
    · have := spn_up f a n e
      rw [spn, spn, up_no f (show n ≠ a by omega)]
      omega
    · obtain rfl : a = n := by omega
      rw [spn, spn, spn_up_no f a a (Nat.le_refl _), up_at]
      omega
theorem sp_up (f : Nat → Nat) (a : Nat) (h : a < 5) : sp (up f a) + co a (f a) = sp f + co a (f a + 1) := spn_up f a 5 h
theorem remn_up_no (f : Nat → Nat) (a : Nat) : ∀ n, n ≤ a → remn (up f a) n = remn f n
  | 0, _ => rfl
  | n + 1, h => by rw [remn, remn, remn_up_no f a n (by omega), up_no f (by omega)]
theorem remn_up (f : Nat → Nat) (a : Nat) (ha : f a < 12) : ∀ n, a < n → remn (up f a) n + 1 = remn f n
  | 0, h => by omega
  | n + 1, h => by
    by_cases e : a < n
    · have := remn_up f a ha n e
      rw [remn, remn, up_no f (show n ≠ a by omega)]
      omega
    · obtain rfl : a = n := by omega
      rw [remn, remn, remn_up_no f a a (Nat.le_refl _), up_at]
      omega
theorem rem_up (f : Nat → Nat) (a : Nat) (h : a < 5) (ha : f a < 12) : rem5 (up f a) + 1 = rem5 f := remn_up f a ha 5 h
theorem remn_zero (f : Nat → Nat) : ∀ n, remn f n = 0 → ∀ b, b < n → 12 ≤ f b
  | 0, _, b, hb => by omega
  | n + 1, h, b, hb => by
    rw [remn] at h
    by_cases e : b < n
    · exact remn_zero f n (by omega) b e
    · obtain rfl : b = n := by omega
      omega
theorem spn_le (f : Nat → Nat) (hf : ∀ b, b < 5 → f b ≤ 13) : ∀ n, n ≤ 5 → spn f n ≤ 64 * n
  | 0, _ => Nat.le_refl _
  | n + 1, h => by
    have h1 := spn_le f hf n (by omega)
    have h2 := co_le n (f n) (by omega) (hf n (by omega))
    rw [spn]; omega
theorem sp_le (f : Nat → Nat) (hf : ∀ b, b < 5 → f b ≤ 13) : sp f ≤ 320 := spn_le f hf 5 (Nat.le_refl _)
theorem spn_none : ∀ n, n ≤ 5 → spn (fun _ => 0) n = 0
  | 0, _ => rfl
  | n + 1, h => by rw [spn, spn_none n (by omega), co_zero n (by omega)]
theorem sp_none : sp (fun _ => 0) = 0 := spn_none 5 (Nat.le_refl _)

theorem may_iff {g : List Int} {f : Nat → Nat} {room : Int} {b : Nat} : mayB g f room b = true ↔ 0 < g.getD b 0 ∧ f b < mx b ∧ (sp (up f b) : Int) ≤ room := by
  unfold mayB; rw [decide_eq_true_eq]
theorem may_no {g : List Int} {f : Nat → Nat} {room : Int} {b : Nat} (h : ¬ (0 < g.getD b 0 ∧ f b < mx b ∧ (sp (up f b) : Int) ≤ room)) : mayB g f room b = false := decide_eq_false h

theorem bst_some {p : Nat → Bool} {w : Nat → Int} : ∀ {n a : Nat}, bst p w n = some a → a < n ∧ p a = true
  | 0, a, h => by cases h
  | n + 1, a, h => by
    rw [bst] at h
    by_cases hp : p n = true
    · rw [if_pos hp] at h
      cases hb : bst p w n with
      | none => rw [hb] at h; simp [bstep] at h; subst h; exact ⟨by omega, hp⟩
      | some c =>
        rw [hb] at h
        have hc := bst_some hb
        simp only [bstep] at h
        split at h
        · cases h; exact ⟨by omega, hp⟩
        · cases h; exact ⟨by omega, hc.2⟩
    · rw [if_neg hp] at h
      have := bst_some h
      exact ⟨by omega, this.2⟩
theorem bstep_some (w : Nat → Int) (o : Option Nat) (b : Nat) : ∃ a, bstep w o b = some a := by
  cases o with
  | none => exact ⟨b, rfl⟩
  | some a => simp only [bstep]; split <;> exact ⟨_, rfl⟩
theorem bst_none {p : Nat → Bool} {w : Nat → Int} : ∀ {n : Nat}, bst p w n = none → ∀ b, b < n → p b = false
  | 0, _, b, hb => by omega
  | n + 1, h, b, hb => by
    rw [bst] at h
    by_cases hp : p n = true
    · rw [if_pos hp] at h
      obtain ⟨a, ha⟩ := bstep_some w (bst p w n) n
      rw [ha] at h; cases h
    · rw [if_neg hp] at h
      by_cases e : b < n
      · exact bst_none h b e
      · obtain rfl : b = n := by omega
        simpa using hp
theorem bds_succ (p : Nat → Bool) (n : Nat) : bds p (n + 1) = if p n = true then bds p n ++ [n] else bds p n := by
  unfold bds
  rw [List.range_succ, List.filter_append]
  by_cases h : p n = true
  · simp [h]
  · simp [h]
theorem bsl_snoc (w : Nat → Int) (l : List Nat) (b : Nat) : bsl w (l ++ [b]) = bstep w (bsl w l) b := by
  unfold bsl; rw [List.foldl_append]; rfl
theorem bsl_bds (p : Nat → Bool) (w : Nat → Int) : ∀ n, bsl w (bds p n) = bst p w n
  | 0 => rfl
  | n + 1 => by
    rw [bds_succ, bst]
    by_cases h : p n = true
    · rw [if_pos h, if_pos h, bsl_snoc, bsl_bds p w n]
    · rw [if_neg h, if_neg h, bsl_bds p w n]
theorem bds_mem {p : Nat → Bool} {n : Nat} : ∀ b ∈ bds p n, b < n ∧ p b = true := fun b hb => by
  unfold bds at hb
  rw [List.mem_filter, List.mem_range] at hb
  exact hb
theorem bds_len (p : Nat → Bool) (n : Nat) : (bds p n).length ≤ n := by
  unfold bds
  have := List.length_filter_le p (List.range n)
  simpa using this
theorem bsl_take (w : Nat → Int) (l : List Nat) (i : Nat) (h : i < l.length) : bsl w (l.take (i + 1)) = bstep w (bsl w (l.take i)) (l.getD i 0) := by
  rw [← bsl_snoc]
  congr 1
  rw [List.take_add_one, List.getD_eq_getElem?_getD, List.getElem?_eq_getElem h]; rfl
theorem bsl_all (w : Nat → Int) (l : List Nat) : bsl w (l.take l.length) = bsl w l := by rw [List.take_length]
theorem bsl_nil {w : Nat → Int} {l : List Nat} (h : bsl w l = none) : l = [] := by
  cases l with
  | nil => rfl
  | cons a l =>
    exfalso
    have : ∀ (l : List Nat) (a : Nat), ∃ c, l.foldl (bstep w) (some a) = some c := by
      intro l
      induction l with
      | nil => intro a; exact ⟨a, rfl⟩
      | cons b l ih =>
        intro a
        rw [List.foldl_cons]
        obtain ⟨c, hc⟩ := bstep_some w (some a) b
        rw [hc]; exact ih c
    obtain ⟨c, hc⟩ := this l a
    have h2 : bsl w (a :: l) = some c := hc
    rw [h2] at h; cases h

/-- All pulses given, one by one, at most t times. -/
def fin5 (g : List Int) (room : Int) : Nat → (Nat → Nat) → (Nat → Nat)
  | 0, f => f
  | t + 1, f => match bst (mayB g f room) (wor g f) 5 with
    | none => f
    | some a => fin5 g room t (up f a)
def endF (g : List Int) (room : Int) (f : Nat → Nat) : Nat → Nat := fin5 g room (rem5 f) f
theorem endF_none {g : List Int} {room : Int} {f : Nat → Nat} (h : bst (mayB g f room) (wor g f) 5 = none) : endF g room f = f := by
  unfold endF
  generalize rem5 f = t
  cases t with
  | zero => rfl
  | succ t => rw [fin5, h]
theorem may_lt {g : List Int} {f : Nat → Nat} {room : Int} {b : Nat} (h : mayB g f room b = true) : f b < 12 := by
  have h1 := (may_iff.1 h).2.1
  have h2 := mx_le b
  omega
theorem endF_some {g : List Int} {room : Int} {f : Nat → Nat} {a : Nat} (h : bst (mayB g f room) (wor g f) 5 = some a) : endF g room f = endF g room (up f a) := by
  obtain ⟨h1, h2⟩ := bst_some h
  unfold endF
  rw [← rem_up f a h1 (may_lt h2), fin5, h]
/-- The pulses of a channel. -/
def chan (g : List Int) (room : Int) : Nat → Nat := endF g room fun _ => 0
/-- Pulses that may be. -/
structure Okf (g : List Int) (room : Int) (f : Nat → Nat) : Prop where
  most : ∀ b, b < 5 → f b ≤ mx b
  cost : (sp f : Int) ≤ room
  none : ∀ b, b < 5 → g.getD b 0 ≤ 0 → f b = 0
theorem Okf.start (g : List Int) {room : Int} (h : 0 ≤ room) : Okf g room fun _ => 0 := ⟨fun _ _ => Nat.zero_le _, by rw [sp_none]; exact h, fun _ _ _ => rfl⟩
theorem Okf.le {g : List Int} {room : Int} {f : Nat → Nat} (h : Okf g room f) (b : Nat) (hb : b < 5) : f b ≤ 12 := Nat.le_trans (h.most b hb) (mx_le b)
theorem Okf.up {g : List Int} {room : Int} {f : Nat → Nat} (h : Okf g room f) {a : Nat} (ha : mayB g f room a = true) : Okf g room (up f a) := by
  obtain ⟨h1, h2, h3⟩ := may_iff.1 ha
  refine ⟨fun b hb => ?_, h3, fun b hb hg => ?_⟩
  · by_cases e : b = a
    · subst e; rw [up_at]; exact h2
    · rw [up_no f e]; exact h.most b hb
  · by_cases e : b = a
    · subst e; omega
    · rw [up_no f e]; exact h.none b hb hg
theorem fin_ok {g : List Int} {room : Int} : ∀ (t : Nat) (f : Nat → Nat), Okf g room f → rem5 f ≤ t → Okf g room (fin5 g room t f) ∧ ∀ b, b < 5 → mayB g (fin5 g room t f) room b = false
  | 0, f, h, hr => ⟨h, fun b hb => may_no fun hh => by
      have h1 := remn_zero f 5 (show remn f 5 = 0 by unfold rem5 at hr; omega) b hb
      have h2 := mx_le b
      have h3 : f b < mx b := hh.2.1
      omega⟩
  | t + 1, f, h, hr => by
    rw [fin5]
    cases hb : bst (mayB g f room) (wor g f) 5 with
    | none => exact ⟨h, bst_none hb⟩
    | some a =>
      obtain ⟨h1, h2⟩ := bst_some hb
      have := rem_up f a h1 (may_lt h2)
      exact fin_ok t (Go.Proofs.YtidppkbphkcmeaaGreat.up f a) (h.up h2) (by omega)
theorem chan_ok (g : List Int) {room : Int} (h : 0 ≤ room) : Okf g room (chan g room) ∧ ∀ b, b < 5 → mayB g (chan g room) room b = false := fin_ok _ _ (Okf.start g h) (Nat.le_refl _)
theorem chan_silent {g : List Int} {room : Int} (h : ∀ b, b < 5 → g.getD b 0 = 0) : chan g room = fun _ => 0 := by
  unfold chan
  apply endF_none
  have hp : ∀ b, b < 5 → mayB g (fun _ => 0) room b = false := fun b hb => may_no fun hh => by have := h b hb; omega
  cases hb : bst (mayB g (fun _ => 0) room) (wor g fun _ => 0) 5 with
  | none => rfl
  | some a =>
    obtain ⟨h1, h2⟩ := bst_some hb
    rw [hp a h1] at h2; cases h2

/-- Pulses as memory has them. -/
def pls (f : Nat → Nat) : List Int := tab 5 fun i => (f i : Int)
theorem pls_len (f : Nat → Nat) : (pls f).length = 5 := tab_len _ _
theorem pls_at (f : Nat → Nat) (b : Nat) (h : b < 5) : (pls f).getD b 0 = (f b : Int) := tab_at _ _ _ h
theorem pls_set (f : Nat → Nat) (a : Nat) (h : a < 5) : (pls f).set a ((f a : Int) + 1) = pls (up f a) := by
  unfold pls
  rw [tab_set _ _ _ _ h]
  apply tab_congr
  intro i hi
  by_cases e : i = a
  · subst e; simp [up]
  · simp [up, e]
theorem pls_zero : (tab 5 fun _ => 0) = pls fun _ => 0 := rfl

/-! ### Shapes, rooms -/
/-- May packets have that shape? -/
def rtB (n c : Int) : Bool := (decide (c = 1) && decide (11 ≤ n ∧ n ≤ 60)) || (decide (c = 2) && decide (17 ≤ n ∧ n ≤ 60))
/-- The room. -/
def rmI (n c : Int) : Int := if rtB n c = true then (if c = 1 then 8 * n - 86 else (8 * n - 131) / 2) else 0
theorem rt_parts {n c : Int} (h : rtB n c = true) : (c = 1 ∧ 11 ≤ n ∧ n ≤ 60) ∨ (c = 2 ∧ 17 ≤ n ∧ n ≤ 60) := by
  unfold rtB at h
  simp only [Bool.or_eq_true, Bool.and_eq_true, decide_eq_true_eq] at h
  exact h
theorem rt_of {n c : Int} (h : (c = 1 ∧ 11 ≤ n ∧ n ≤ 60) ∨ (c = 2 ∧ 17 ≤ n ∧ n ≤ 60)) : rtB n c = true := by
  unfold rtB
  simp only [Bool.or_eq_true, Bool.and_eq_true, decide_eq_true_eq]
  exact h
theorem rt_no {n c : Int} (h : ¬ ((c = 1 ∧ 11 ≤ n ∧ n ≤ 60) ∨ (c = 2 ∧ 17 ≤ n ∧ n ≤ 60))) : rtB n c = false := by
  cases hb : rtB n c
  · rfl
  · exact absurd (rt_parts hb) h
theorem rm_bd (n c : Int) : 0 ≤ rmI n c ∧ rmI n c ≤ 394 := by
  unfold rmI
  by_cases h : rtB n c = true
  · rw [if_pos h]
    have := rt_parts h
    split <;> omega
  · rw [if_neg h]; omega
theorem rm_no {n c : Int} (h : rtB n c = false) : rmI n c = 0 := by unfold rmI; rw [h]; rfl
theorem room_one {n : Int} (h : rtB n 1 = true) : rmI n 1 = 8 * n - 86 := by unfold rmI; rw [if_pos h]; rfl
theorem room_two {n : Int} (h : rtB n 2 = true) : rmI n 2 = (8 * n - 131) / 2 := by unfold rmI; rw [if_pos h]; rfl
theorem e_k1 : pls (chan [9, 0, 0, 0, 0] 2) = [1, 0, 0, 0, 0] := by decide +kernel
theorem e_k2 : pls (chan [0, 0, 9, 0, 0] 2) = [0, 0, 1, 0, 0] := by decide +kernel
end Go.Proofs.YtidppkbphkcmeaaGreat
/- Contracts of the small functions: which of two is greater, how many pulses a band may have, what they cost, shapes and rooms, by the program and by the document. -/
namespace Go.Proofs.YtidppkbphkcmeaaGreat
open Go.RowKit
set_option linter.unusedVariables false
set_option linter.unusedSimpArgs false

theorem nan_any (x : Int) (w : World) : Calls Tryz.prog 119 #[.int .i64 x] w fun e w' => e = .returned (.bool false) ∧ w' = w := by
  go_enter Tryz.func119, Tryz.ntmps119
  go_wp2
  go_ret
  exact ⟨rfl, rfl⟩
/-- Which of two is greater. -/
def cmpI (x y : Int) : Int := if x < y then -1 else if y < x then 1 else 0
theorem compare_any (x y : Int) (w : World) : Calls Tryz.prog 114 #[.int .i64 x, .int .i64 y] w fun e w' => e = .returned (.int .i64 (cmpI x y)) ∧ w' = w := by
  have hn := fun x w => nan_any x w
  by_cases h1 : x < y
  · have hc : cmpI x y = -1 := by unfold cmpI; rw [if_pos h1]
    rw [hc]
    go_enter Tryz.func114, Tryz.ntmps114
    go_wp2_with (go_at_call 119; refine (hn _ _).mono ?_; rintro e w9 ⟨rfl, h9⟩; have h9 := h9.symm; subst h9)
    go_ret
    exact ⟨rfl, rfl⟩
  · by_cases h2 : y < x
    · have hc : cmpI x y = 1 := by unfold cmpI; rw [if_neg h1, if_pos h2]
      rw [hc]
      go_enter Tryz.func114, Tryz.ntmps114
      go_wp2_with (go_at_call 119; refine (hn _ _).mono ?_; rintro e w9 ⟨rfl, h9⟩; have h9 := h9.symm; subst h9)
      go_ret
      exact ⟨rfl, rfl⟩
    · have hc : cmpI x y = 0 := by unfold cmpI; rw [if_neg h1, if_neg h2]
      rw [hc]
      go_enter Tryz.func114, Tryz.ntmps114
      go_wp2_with (go_at_call 119; refine (hn _ _).mono ?_; rintro e w9 ⟨rfl, h9⟩; have h9 := h9.symm; subst h9)
      go_ret
      exact ⟨rfl, rfl⟩
theorem cmp_pos (x y : Int) : decide (0 < cmpI x y) = decide (y < x) := by
  unfold cmpI
  by_cases h1 : x < y
  · rw [if_pos h1, decide_eq_false (by omega), decide_eq_false (by omega)]
  · rw [if_neg h1]
    by_cases h2 : y < x
    · rw [if_pos h2, decide_eq_true (by omega), decide_eq_true h2]
    · rw [if_neg h2, decide_eq_false (by omega), decide_eq_false h2]

theorem width_b (b : Nat) (hb : b < 5) (w : World) : Calls Tryz.prog 74 #[.int .i64 (b : Nat)] w fun e w' => e = .returned (.int .i64 (wd b : Nat)) ∧ w' = w := by
  have := width_any (b : Int) w
  rw [wdI_nat hb] at this
  exact this
theorem rwidth_b (b : Nat) (hb : b < 5) (w : World) : Calls Tryz.prog 27 #[.int .i64 (b : Nat)] w fun e w' => e = .returned (.int .i64 (wd b : Nat)) ∧ w' = w := by
  have := rwidth_any (b : Int) w
  rw [wdI_nat hb] at this
  exact this
theorem cost_b (b k : Nat) (hb : b < 5) (hk : k ≤ 12) (w : World) : Calls Tryz.prog 118 #[.int .i64 (wd b : Nat), .int .i64 (k : Nat)] w fun e w' => e = .returned (.tuple #[.int .i64 (co b k : Nat), .int .i64 0]) ∧ Below w.heap.size w w' :=
  cost_of bits_counts (fun x w h => len_any (x : Int) (by omega) (by omega) w) (wd b) k w (wd_pos hb).1 (wd_pos hb).2 hk
theorem rcost_b (b k : Nat) (hb : b < 5) (hk : k ≤ 12) (w : World) : Calls Tryz.prog 117 #[.int .i64 (wd b : Nat), .int .i64 (k : Nat)] w fun e w' => e = .returned (.int .i64 (co b k : Nat)) ∧ Below w.heap.size w w' :=
  rcost_of bits_counts (wd b) k w (wd_pos hb).1 (wd_pos hb).2 hk
theorem most_b (b : Nat) (hb : b < 5) (w : World) : Calls Tryz.prog 110 #[.int .i64 (b : Nat)] w fun e w' => e = .returned (.int .i64 (mx b : Nat)) ∧ w' = w := by
  have hw := fun w => width_b b hb w
  by_cases h : wd b = 1
  · have hm : mx b = 1 := by unfold mx; rw [if_pos h]
    rw [h] at hw
    rw [hm]
    clear hb h hm
    generalize (b : Int) = B at *
    go_enter Tryz.func110, Tryz.ntmps110
    go_wp2_with (go_at_call 74; refine (hw _).mono ?_; rintro e w9 ⟨rfl, h9⟩; have h9 := h9.symm; subst h9)
    go_ret
    exact ⟨rfl, rfl⟩
  · have hm : mx b = 12 := by unfold mx; rw [if_neg h]
    have hn : (((wd b : Nat) : Int) == 1) = false := by simp; omega
    rw [hm]
    clear hb h hm
    generalize ((wd b : Nat) : Int) = D at *
    generalize (b : Int) = B at *
    go_enter Tryz.func110, Tryz.ntmps110
    go_wp2_with (go_at_call 74; refine (hw _).mono ?_; rintro e w9 ⟨rfl, h9⟩; have h9 := h9.symm; subst h9)
    go_ret
    exact ⟨rfl, rfl⟩

/-! ### Shapes and rooms -/
theorem aright_any (n c : Int) (w : World) : Calls Tryz.prog 37 #[.int .i64 n, .int .i64 c] w fun e w' => e = .returned (.bool (rtB n c)) ∧ w' = w := by
  by_cases h1 : c = 1
  · subst h1
    by_cases h2 : 11 ≤ n
    · by_cases h3 : n ≤ 60
      · rw [rt_of (.inl ⟨rfl, h2, h3⟩)]
        go_enter Tryz.func37, Tryz.ntmps37
        go_wp2
        go_ret
        exact ⟨rfl, rfl⟩
      · rw [rt_no (by omega)]
        go_enter Tryz.func37, Tryz.ntmps37
        go_wp2
        go_ret
        exact ⟨rfl, rfl⟩
    · rw [rt_no (by omega)]
      go_enter Tryz.func37, Tryz.ntmps37
      go_wp2
      go_ret
      exact ⟨rfl, rfl⟩
  · by_cases h4 : c = 2
    · subst h4
      clear h1
      by_cases h2 : 17 ≤ n
      · by_cases h3 : n ≤ 60
        · rw [rt_of (.inr ⟨rfl, h2, h3⟩)]
          go_enter Tryz.func37, Tryz.ntmps37
          go_wp2
          go_ret
          exact ⟨rfl, rfl⟩
        · rw [rt_no (by omega)]
          go_enter Tryz.func37, Tryz.ntmps37
          go_wp2
          go_ret
          exact ⟨rfl, rfl⟩
      · rw [rt_no (by omega)]
        go_enter Tryz.func37, Tryz.ntmps37
        go_wp2
        go_ret
        exact ⟨rfl, rfl⟩
    · rw [rt_no (by omega)]
      have e1 : (c == 1) = false := neq_of h1
      have e2 : (c == 2) = false := neq_of h4
      clear h1 h4
      go_enter Tryz.func37, Tryz.ntmps37
      go_wp2
      go_ret
      exact ⟨rfl, rfl⟩
theorem rsright_any (n c : Int) (w : World) : Calls Tryz.prog 25 #[.int .i64 n, .int .i64 c] w fun e w' => e = .returned (.bool (rtB n c)) ∧ w' = w := by
  by_cases h3 : n ≤ 60
  · by_cases h1 : c = 1
    · subst h1
      by_cases h2 : 11 ≤ n
      · rw [rt_of (.inl ⟨rfl, h2, h3⟩)]
        go_enter Tryz.func25, Tryz.ntmps25
        go_wp2
        go_ret
        exact ⟨rfl, rfl⟩
      · rw [rt_no (by omega)]
        have h2' : decide (11 ≤ n) = false := decide_eq_false h2
        go_enter Tryz.func25, Tryz.ntmps25
        go_wp2
        go_ret
        exact ⟨rfl, rfl⟩
    · by_cases h4 : c = 2
      · subst h4
        clear h1
        by_cases h2 : 17 ≤ n
        · rw [rt_of (.inr ⟨rfl, h2, h3⟩)]
          go_enter Tryz.func25, Tryz.ntmps25
          go_wp2
          go_ret
          exact ⟨rfl, rfl⟩
        · rw [rt_no (by omega)]
          go_enter Tryz.func25, Tryz.ntmps25
          go_wp2
          go_ret
          exact ⟨by first | rfl | (apply ret_bool; simp; omega), rfl⟩
      · rw [rt_no (by omega)]
        have e1 : (c == 1) = false := neq_of h1
        have e2 : (c == 2) = false := neq_of h4
        clear h1 h4
        go_enter Tryz.func25, Tryz.ntmps25
        go_wp2
        go_ret
        exact ⟨rfl, rfl⟩
  · rw [rt_no (by omega)]
    go_enter Tryz.func25, Tryz.ntmps25
    go_wp2
    go_ret
    exact ⟨rfl, rfl⟩
theorem room_any (n c : Int) (w : World) : Calls Tryz.prog 73 #[.int .i64 n, .int .i64 c] w fun e w' => e = .returned (.int .i64 (rmI n c)) ∧ w' = w := by
  have hr := fun w => aright_any n c w
  have hm := fun w => most_any false w
  rw [show ((mostB false : Nat) : Int) = 45 from rfl] at hm
  by_cases h : rtB n c = true
  · rcases rt_parts h with ⟨rfl, h1, h2⟩ | ⟨rfl, h1, h2⟩
    · rw [h] at hr
      rw [room_one h]
      clear h
      go_enter Tryz.func73, Tryz.ntmps73
      go_wp2_with (first | (go_at_call 37; refine (hr _).mono ?_; rintro e w9 ⟨rfl, h9⟩; have h9 := h9.symm; subst h9) | (go_at_call 102; refine (hm _).mono ?_; rintro e w8 ⟨rfl, h8⟩; have h8 := h8.symm; subst h8))
      go_ret
      exact ⟨ret_int (by omega), rfl⟩
    · rw [h] at hr
      rw [room_two h]
      clear h
      have e1 : (8 * n - 131).tdiv 2 = (8 * n - 131) / 2 := by rw [Int.tdiv_eq_ediv_of_nonneg (by omega)]
      go_enter Tryz.func73, Tryz.ntmps73
      go_wp2_with (first | (go_at_call 37; refine (hr _).mono ?_; rintro e w9 ⟨rfl, h9⟩; have h9 := h9.symm; subst h9) | (go_at_call 102; refine (hm _).mono ?_; rintro e w8 ⟨rfl, h8⟩; have h8 := h8.symm; subst h8))
      go_ret
      exact ⟨ret_int (by omega), rfl⟩
  · have h : rtB n c = false := by simpa using h
    rw [h] at hr
    rw [rm_no h]
    clear h
    go_enter Tryz.func73, Tryz.ntmps73
    go_wp2_with (go_at_call 37; refine (hr _).mono ?_; rintro e w9 ⟨rfl, h9⟩; have h9 := h9.symm; subst h9)
    go_ret
    exact ⟨rfl, rfl⟩
theorem rroom_any (n c : Int) (w : World) : Calls Tryz.prog 60 #[.int .i64 n, .int .i64 c] w fun e w' => e = .returned (.int .i64 (rmI n c)) ∧ w' = w := by
  have hr := fun w => rsright_any n c w
  by_cases h : rtB n c = true
  · rcases rt_parts h with ⟨rfl, h1, h2⟩ | ⟨rfl, h1, h2⟩
    · rw [h] at hr
      rw [room_one h]
      clear h
      go_enter Tryz.func60, Tryz.ntmps60
      go_wp2_with (go_at_call 25; refine (hr _).mono ?_; rintro e w9 ⟨rfl, h9⟩; have h9 := h9.symm; subst h9)
      go_ret
      exact ⟨ret_int (by omega), rfl⟩
    · rw [h] at hr
      rw [room_two h]
      clear h
      have e1 : (8 * n - 131).tdiv 2 = (8 * n - 131) / 2 := by rw [Int.tdiv_eq_ediv_of_nonneg (by omega)]
      go_enter Tryz.func60, Tryz.ntmps60
      go_wp2_with (go_at_call 25; refine (hr _).mono ?_; rintro e w9 ⟨rfl, h9⟩; have h9 := h9.symm; subst h9)
      go_ret
      exact ⟨ret_int (by omega), rfl⟩
  · have h : rtB n c = false := by simpa using h
    rw [h] at hr
    rw [rm_no h]
    clear h
    go_enter Tryz.func60, Tryz.ntmps60
    go_wp2_with (go_at_call 25; refine (hr _).mono ?_; rintro e w9 ⟨rfl, h9⟩; have h9 := h9.symm; subst h9)
    go_ret
    exact ⟨rfl, rfl⟩
end Go.Proofs.YtidppkbphkcmeaaGreat
/- Contracts of the program's share: what one pulse more costs, and is worth, whether a band may have one, that it gets one. -/
namespace Go.Proofs.YtidppkbphkcmeaaGreat
open Go.RowKit
set_option linter.unusedVariables false
set_option linter.unusedSimpArgs false

/-- A channel's share in memory: its struct s, its gains, its pulses in the block p. -/
structure Sh (W : World) (s p gb go gc : Nat) (g : List Int) (f : Nat → Nat) (left : Int) : Prop where
  box : B3 W s (.slice (some ⟨gb, go, none⟩) 5 gc) (.slice (some ⟨p, 0, none⟩) 5 5) (.int .i64 left)
  ga : ∀ i, i < 5 → W.cell? ⟨gb, go + i, none⟩ = some (.int .i64 (g.getD i 0))
  gl : gb < W.heap.size
  pu : Blk .i64 3 W p (pls f)
  n1 : s ≠ p
  n2 : s ≠ gb
  n3 : p ≠ gb
theorem Sh.below {W w' : World} {s p gb go gc : Nat} {g : List Int} {f : Nat → Nat} {left : Int} (h : Sh W s p gb go gc g f left) (hb : Below W.heap.size W w') : Sh w' s p gb go gc g f left :=
  ⟨h.box.below hb, fun i hi => ((bcell hb).1 _ _ h.gl).trans (h.ga i hi), Nat.lt_of_lt_of_le h.gl hb.size, h.pu.below hb, h.n1, h.n2, h.n3⟩
theorem Sh.drewN {W : World} {s p gb go gc : Nat} {g : List Int} {f : Nat → Nat} {left : Int} (h : Sh W s p gb go gc g f left) (n : Nat) : Sh (W.drewN n) s p gb go gc g f left := h.below (drewN_below (Below.refl _ _) n)
theorem Sh.pat {W : World} {s p gb go gc : Nat} {g : List Int} {f : Nat → Nat} {left : Int} (h : Sh W s p gb go gc g f left) (b : Nat) (hb : b < 5) : W.cell? ⟨p, b, none⟩ = some (.int .i64 (f b : Nat)) := by
  have := h.pu.cell b (by rw [pls_len]; exact hb)
  rw [pls_at _ _ hb] at this
  exact this
theorem Sh.held {W w' : World} {s p gb go gc b : Nat} {g : List Int} {f : Nat → Nat} {left : Int} (hb : Below W.heap.size W w') (h : Sh W s p gb go gc g f left) (h5 : b < 5) : w'.cell? ⟨s, 1, none⟩ = some (.slice (some ⟨p, 0, none⟩) 5 5) ∧ w'.cell? ⟨p, b, none⟩ = some (.int .i64 (f b : Nat)) :=
  ⟨(h.below hb).box.c1, (h.below hb).pat b h5⟩

set_option maxRecDepth 10000 in
set_option maxHeartbeats 1000000 in
theorem worth_any (s p gb go gc b : Nat) (g : List Int) (f : Nat → Nat) (left : Int) (W : World) (H : Sh W s p gb go gc g f left) (hb : b < 5) (hf : f b ≤ 12) (hg : gokB g = true) : Calls Tryz.prog 115 #[.pointer (some ⟨s, 0, none⟩), .int .i64 (b : Nat)] W fun e w' => e = .returned (.int .i64 (wor g f b)) ∧ ∃ n, w' = W.drewN n := by
  have hwd := fun w => width_b b hb w
  have c0 := H.box.c0
  have c1 := H.box.c1
  have d0 := H.ga b hb
  have d1 := H.pat b hb
  obtain ⟨g1, g2⟩ := gok_bd hg b hb
  obtain ⟨w1, w2⟩ := wd_pos hb
  have i1 : (0 : Int) ≤ (b : Int) := by omega
  have i2 : (b : Int) < 5 := by omega
  have i3 : IntKind.i64.wrap (b : Int) = b := wraps_i64 _ (by omega) (by omega)
  have hq : 16 * f b / wd b ≤ 192 := Nat.le_trans (Nat.div_le_self _ _) (by omega)
  have HR : Hid (wor g f b = 8 * g.getD b 0 - ((16 * f b / wd b : Nat) : Int)) := rfl
  have t1 : (16 * (f b : Int)).tdiv (wd b : Nat) = ((16 * f b / wd b : Nat) : Int) := by
    rw [Int.tdiv_eq_ediv_of_nonneg (by omega)]; simp
  have t2 : (((wd b : Nat) : Int) == 0) = false := by simp; omega
  generalize wor g f b = R at *
  generalize 16 * f b / wd b = q at *
  generalize g.getD b 0 = x at *
  generalize f b = k at *
  obtain ⟨d, hd⟩ : ∃ d : Int, ((wd b : Nat) : Int) = d := ⟨_, rfl⟩
  rw [hd] at hwd t1 t2
  have hd1 : 1 ≤ d := by omega
  have hd2 : d ≤ 16 := by omega
  clear H hd w1 w2 hg
  go_enter Tryz.func115, Tryz.ntmps115
  go_wp2
  go_quiet (first | (go_at_call 74; exact Calls.quiet_of_same (hwd _)))
  go_wp2
  go_ret
  exact ⟨ret_int (by rw [HR.out]), _, rfl⟩

set_option maxRecDepth 10000 in
set_option maxHeartbeats 1000000 in
theorem price_any (s p gb go gc b : Nat) (g : List Int) (f : Nat → Nat) (left : Int) (W : World) (H : Sh W s p gb go gc g f left) (hb : b < 5) (hf : f b ≤ 11) : Calls Tryz.prog 111 #[.pointer (some ⟨s, 0, none⟩), .int .i64 (b : Nat)] W fun e w' => e = .returned (.int .i64 ((co b (f b + 1) : Int) - co b (f b))) ∧ Below W.heap.size W w' := by
  have hwd := fun w => width_b b hb w
  have hc1 := fun w => cost_b b (f b) hb (by omega) w
  have hc2 := fun w => cost_b b (f b + 1) hb (by omega) w
  have l1 := co_le b (f b) hb (by omega)
  have l2 := co_le b (f b + 1) hb (by omega)
  have HH := hid H
  have HB := hid hb
  have hk : f b ≤ 11 := hf
  rw [show ((f b + 1 : Nat) : Int) = (f b : Int) + 1 by omega] at hc2
  have i1 : (0 : Int) ≤ (b : Int) := by omega
  have i2 : (b : Int) < 5 := by omega
  have i3 : IntKind.i64.wrap (b : Int) = b := wraps_i64 _ (by omega) (by omega)
  have i4 : IntKind.i64.wrap ((f b : Int) + 1) = (f b : Int) + 1 := wraps_i64 _ (by omega) (by omega)
  have hK : ∀ w', Below W.heap.size W w' → w'.cell? ⟨s, 1, none⟩ = some (.slice (some ⟨p, 0, none⟩) 5 5) ∧ w'.cell? ⟨p, b, none⟩ = some (.int .i64 (f b : Nat)) := fun w' h => H.held h hb
  generalize co b (f b + 1) = A at *
  generalize co b (f b) = B at *
  generalize hkk : f b = k at *
  generalize hdd : ((wd b : Nat) : Int) = d at *
  clear hkk hdd H hb hf
  go_enter Tryz.func111, Tryz.ntmps111
  go_wp2
  go_region_held3 (fun w' => w'.cell? ⟨s, 1, none⟩ = some (.slice (some ⟨p, 0, none⟩) 5 5) ∧ w'.cell? ⟨p, b, none⟩ = some (.int .i64 k)) (exact hK _ (by first | exact hy1 | exact (Below.refl _ _).drew | exact Below.refl _ _)) (first | (go_at_call 74; refine (hwd _).mono ?_; rintro e w9 ⟨rfl, h9⟩; have h9 := h9.symm; subst h9) | (go_at_call 118; refine (hc1 _).mono ?_; rintro e y1 ⟨rfl, e1⟩; have hy1 : Below W.heap.size W y1 := (by first | exact drew_below e1 | exact e1)))
  go_wp2
  have hK2 : ∀ w', Below y1.heap.size y1 w' → w'.cell? ⟨s, 1, none⟩ = some (.slice (some ⟨p, 0, none⟩) 5 5) ∧ w'.cell? ⟨p, b, none⟩ = some (.int .i64 k) := fun w' h => hK w' (bthen' hy1 h)
  have HY1 := hid hy1
  clear hK e1 hy1 hc1 h9
  go_region_held3 (fun w' => w'.cell? ⟨s, 1, none⟩ = some (.slice (some ⟨p, 0, none⟩) 5 5) ∧ w'.cell? ⟨p, b, none⟩ = some (.int .i64 k)) (exact hK2 _ (by first | exact hy2 | exact (Below.refl _ _).drew | exact Below.refl _ _)) (first | (go_at_call 74; refine (hwd _).mono ?_; rintro e w9 ⟨rfl, h9⟩; have h9 := h9.symm; subst h9) | (go_at_call 118; refine (hc2 _).mono ?_; rintro e y2 ⟨rfl, e2⟩; have hy2 : Below y1.heap.size y1 y2 := (by first | exact drew_below e2 | exact e2)))
  go_wp2
  go_ret
  exact ⟨rfl, bthen' HY1.out hy2⟩

theorem Sh.held5 {W w' : World} {s p gb go gc b : Nat} {g : List Int} {f : Nat → Nat} {left : Int} (hb : Below W.heap.size W w') (h : Sh W s p gb go gc g f left) (h5 : b < 5) :
    w'.cell? ⟨s, 0, none⟩ = some (.slice (some ⟨gb, go, none⟩) 5 gc) ∧ w'.cell? ⟨s, 1, none⟩ = some (.slice (some ⟨p, 0, none⟩) 5 5) ∧ w'.cell? ⟨s, 2, none⟩ = some (.int .i64 left) ∧ w'.cell? ⟨gb, go + b, none⟩ = some (.int .i64 (g.getD b 0)) ∧ w'.cell? ⟨p, b, none⟩ = some (.int .i64 (f b : Nat)) :=
  ⟨(h.below hb).box.c0, (h.below hb).box.c1, (h.below hb).box.c2, (h.below hb).ga b h5, (h.below hb).pat b h5⟩
/-- What is left of the room. -/
theorem may_left {g : List Int} {f : Nat → Nat} {room : Int} {b : Nat} (hb : b < 5) : mayB g f room b = decide (0 < g.getD b 0 ∧ f b < mx b ∧ (co b (f b + 1) : Int) - co b (f b) ≤ room - sp f) := by
  have := sp_up f b hb
  unfold mayB
  apply decide_eq_decide.2
  constructor
  · rintro ⟨h1, h2, h3⟩; exact ⟨h1, h2, by omega⟩
  · rintro ⟨h1, h2, h3⟩; exact ⟨h1, h2, by omega⟩

set_option maxRecDepth 10000 in
set_option maxHeartbeats 4000000 in
theorem mayAdd_any (s p gb go gc b : Nat) (g : List Int) (f : Nat → Nat) (room : Int) (W : World) (H : Sh W s p gb go gc g f (room - sp f)) (hb : b < 5) (hf : f b ≤ 12) : Calls Tryz.prog 98 #[.pointer (some ⟨s, 0, none⟩), .int .i64 (b : Nat)] W fun e w' => e = .returned (.bool (mayB g f room b)) ∧ Below W.heap.size W w' := by
  have hm := fun w => most_b b hb w
  have hmx := mx_le b
  have hp := fun (h : f b ≤ 11) (w : World) (hw : Below W.heap.size W w) => price_any s p gb go gc b g f _ w (H.below hw) hb h
  have hK := fun w' h => Sh.held5 (w' := w') h H hb
  have i1 : (0 : Int) ≤ (b : Int) := by omega
  have i2 : (b : Int) < 5 := by omega
  have i3 : IntKind.i64.wrap (b : Int) = b := wraps_i64 _ (by omega) (by omega)
  rw [may_left hb]
  generalize room - (sp f : Int) = left at *
  generalize (co b (f b + 1) : Int) - co b (f b) = P at *
  generalize g.getD b 0 = x at *
  generalize mx b = m at *
  generalize f b = k at *
  clear H hb
  by_cases h1 : 0 < x
  · by_cases h2 : k < m
    · have hp2 := hp (by omega)
      have h2' : (k : Int) < (m : Int) := by omega
      by_cases h3 : P ≤ left
      · rw [decide_eq_true ⟨h1, h2, h3⟩]
        clear hp h2 hf hmx
        generalize (m : Int) = M at *
        generalize (k : Int) = K at *
        go_enter Tryz.func98, Tryz.ntmps98
        go_wp2
        go_region_held3 (fun w' => w'.cell? ⟨s, 0, none⟩ = some (.slice (some ⟨gb, go, none⟩) 5 gc) ∧ w'.cell? ⟨s, 1, none⟩ = some (.slice (some ⟨p, 0, none⟩) 5 5) ∧ w'.cell? ⟨s, 2, none⟩ = some (.int .i64 left) ∧ w'.cell? ⟨gb, go + b, none⟩ = some (.int .i64 x) ∧ w'.cell? ⟨p, b, none⟩ = some (.int .i64 K)) (exact hK _ (by first | exact hy1 | exact (Below.refl _ _).drew | exact Below.refl _ _)) (first | (go_at_call 110; refine (hm _).mono ?_; rintro e w9 ⟨rfl, h9⟩; have h9 := h9.symm; subst h9) | (go_at_call 111; refine (hp2 _ (by first | exact hy1 | exact (Below.refl _ _).drew | exact Below.refl _ _)).mono ?_; rintro e y1 ⟨rfl, e1⟩; have hy1 : Below W.heap.size W y1 := (by first | exact drew_below e1 | exact e1)))
        go_wp2
        go_ret
        exact ⟨rfl, hy1⟩
      · rw [decide_eq_false (fun h => h3 h.2.2)]
        have h3' : decide (P ≤ left) = false := decide_eq_false h3
        clear hp h2 hf hmx h3
        generalize (m : Int) = M at *
        generalize (k : Int) = K at *
        go_enter Tryz.func98, Tryz.ntmps98
        go_wp2
        go_region_held3 (fun w' => w'.cell? ⟨s, 0, none⟩ = some (.slice (some ⟨gb, go, none⟩) 5 gc) ∧ w'.cell? ⟨s, 1, none⟩ = some (.slice (some ⟨p, 0, none⟩) 5 5) ∧ w'.cell? ⟨s, 2, none⟩ = some (.int .i64 left) ∧ w'.cell? ⟨gb, go + b, none⟩ = some (.int .i64 x) ∧ w'.cell? ⟨p, b, none⟩ = some (.int .i64 K)) (exact hK _ (by first | exact hy1 | exact (Below.refl _ _).drew | exact Below.refl _ _)) (first | (go_at_call 110; refine (hm _).mono ?_; rintro e w9 ⟨rfl, h9⟩; have h9 := h9.symm; subst h9) | (go_at_call 111; refine (hp2 _ (by first | exact hy1 | exact (Below.refl _ _).drew | exact Below.refl _ _)).mono ?_; rintro e y1 ⟨rfl, e1⟩; have hy1 : Below W.heap.size W y1 := (by first | exact drew_below e1 | exact e1)))
        go_wp2
        go_ret
        exact ⟨rfl, hy1⟩
    · rw [decide_eq_false (fun h => h2 h.2.1)]
      have h2' : decide ((k : Int) < (m : Int)) = false := decide_eq_false (by omega)
      clear hp h2 hf hmx
      generalize (m : Int) = M at *
      generalize (k : Int) = K at *
      go_enter Tryz.func98, Tryz.ntmps98
      go_wp2
      obtain ⟨c0, c1, c2, c3, c4⟩ := hK W (Below.refl _ _)
      go_quiet (first | (go_at_call 110; exact Calls.quiet_of_same (hm _)))
      go_wp2
      go_ret
      exact ⟨rfl, drewN_below (Below.refl _ _) _⟩
  · rw [decide_eq_false (fun h => h1 h.1)]
    have h1' : decide (0 < x) = false := decide_eq_false h1
    clear hp hf hmx h1
    generalize (m : Int) = M at *
    generalize (k : Int) = K at *
    go_enter Tryz.func98, Tryz.ntmps98
    go_wp2
    obtain ⟨c0, c1, c2, c3, c4⟩ := hK W (Below.refl _ _)
    go_quiet (first | (go_at_call 110; exact Calls.quiet_of_same (hm _)))
    go_wp2
    go_ret
    exact ⟨rfl, drewN_below (Below.refl _ _) _⟩
end Go.Proofs.YtidppkbphkcmeaaGreat
/- Contract of the program's add: one pulse more of a band. -/
namespace Go.Proofs.YtidppkbphkcmeaaGreat
open Go.RowKit
set_option linter.unusedVariables false
set_option linter.unusedSimpArgs false

/-- All blocks but two stay as they are. -/
def But (W w' : World) (s p : Nat) : Prop := ∀ q, q < W.heap.size → q ≠ s → q ≠ p → w'.heap[q]? = W.heap[q]?
theorem But.cell {W w' : World} {s p q o : Nat} {v : Value} (h : But W w' s p) (hc : W.cell? ⟨q, o, none⟩ = some v) (h1 : q ≠ s) (h2 : q ≠ p) : w'.cell? ⟨q, o, none⟩ = some v := (World.cell?_of_block (w := W) (h q (block_of_cell hc) h1 h2)).trans hc
theorem But.below {W w' : World} {s p : Nat} (h : Below W.heap.size W w') : But W w' s p := fun q hq _ _ => h.block q hq
theorem But.set1 {W w' : World} {s p : Nat} (h : But W w' s p) (o : Nat) (v : Value) : But W (w'.setCell ⟨s, o, none⟩ v) s p := fun q hq h1 h2 => (heap_setCell_other _ _ _ _ h1).trans (h q hq h1 h2)
theorem But.set2 {W w' : World} {s p : Nat} (h : But W w' s p) (o : Nat) (v : Value) : But W (w'.setCell ⟨p, o, none⟩ v) s p := fun q hq h1 h2 => (heap_setCell_other _ _ _ _ h2).trans (h q hq h1 h2)
theorem Sh.left {W : World} {s p gb go gc : Nat} {g : List Int} {f : Nat → Nat} {left : Int} (h : Sh W s p gb go gc g f left) (left2 : Int) : Sh (W.setCell ⟨s, 2, none⟩ (.int .i64 left2)) s p gb go gc g f left2 :=
  ⟨h.box.set2 _, fun i hi => (World.cell?_of_block (w := W) (Below.heap_setCell W ⟨s, 2, none⟩ _ gb (Ne.symm h.n2))).trans (h.ga i hi), by simpa [World.setCell] using h.gl, h.pu.other s 2 _ (Ne.symm h.n1), h.n1, h.n2, h.n3⟩
theorem Sh.more {W : World} {s p gb go gc : Nat} {g : List Int} {f : Nat → Nat} {left : Int} (h : Sh W s p gb go gc g f left) (b : Nat) (hb : b < 5) : Sh (W.setCell ⟨p, b, none⟩ (.int .i64 ((f b : Int) + 1))) s p gb go gc g (up f b) left := by
  refine ⟨h.box.other p b _ h.n1, fun i hi => (World.cell?_of_block (w := W) (Below.heap_setCell W ⟨p, b, none⟩ _ gb (Ne.symm h.n3))).trans (h.ga i hi), by simpa [World.setCell] using h.gl, ?_, h.n1, h.n2, h.n3⟩
  rw [← pls_set f b hb]
  exact h.pu.set b _
theorem Sh.drew {W : World} {s p gb go gc : Nat} {g : List Int} {f : Nat → Nat} {left : Int} (h : Sh W s p gb go gc g f left) : Sh W.drew s p gb go gc g f left := h.below (Below.refl _ _).drew

set_option maxRecDepth 10000 in
set_option maxHeartbeats 2000000 in
theorem add_any (s p gb go gc b B : Nat) (g : List Int) (f : Nat → Nat) (room : Int) (W : World) (H : Sh W s p gb go gc g f (room - sp f)) (hb : b < 5) (hf : f b ≤ 11) (h1 : -1000 ≤ room - sp f) (h2 : room - sp f ≤ 1000) (hs : B ≤ s) (hp : B ≤ p) : Calls Tryz.prog 100 #[.pointer (some ⟨s, 0, none⟩), .int .i64 (b : Nat)] W fun e w' => e = .returned (.tuple #[]) ∧ Sh w' s p gb go gc g (up f b) (room - sp (up f b)) ∧ Below B W w' ∧ But W w' s p := by
  have hpr := fun (w : World) (hw : Below W.heap.size W w) => price_any s p gb go gc b g f _ w (H.below hw) hb hf
  have l1 := co_le b (f b) hb (by omega)
  have l2 := co_le b (f b + 1) hb (by omega)
  have hup := sp_up f b hb
  have hset := hid (pls_set f b hb)
  have hK := fun w' h => Sh.held5 (w' := w') h H hb
  have HH := hid H
  have HU : Hid (room - sp f - ((co b (f b + 1) : Int) - co b (f b)) = room - sp (up f b)) := by unfold Hid; omega
  have hf1 := H.box.f2
  have i1 : (0 : Int) ≤ (b : Int) := by omega
  have i2 : (b : Int) < 5 := by omega
  have i3 : IntKind.i64.wrap (b : Int) = b := wraps_i64 _ (by omega) (by omega)
  have HL := hid (pls_len f)
  have HB := hid hb
  generalize room - (sp (up f b) : Int) = left2 at *
  generalize hLL : room - (sp f : Int) = left at *
  have hP1 : -64 ≤ (co b (f b + 1) : Int) - co b (f b) := by omega
  have hP2 : (co b (f b + 1) : Int) - co b (f b) ≤ 64 := by omega
  generalize (co b (f b + 1) : Int) - co b (f b) = P at *
  generalize hkk : f b = k at *
  have HKK := hid hkk
  clear H hup l1 l2 hLL hkk hb
  go_enter Tryz.func100, Tryz.ntmps100
  go_wp2
  have HBW : Hid (B ≤ W.heap.size) := by have := HH.out.box.z; unfold Hid; omega
  have e2 : IntKind.i64.wrap (left - P) = left2 := by rw [← HU.out]; exact wraps_i64 _ (by omega) (by omega)
  have i5 : IntKind.i64.wrap ((k : Int) + 1) = (k : Int) + 1 := wraps_i64 _ (by omega) (by omega)
  go_cut [] (fun wz => Hid (Sh wz s p gb go gc g f left2 ∧ Below B W wz ∧ But W wz s p))
  case first =>
    have c2 := HH.out.box.c2
    go_region_with (first | (go_at_call 111; refine (hpr _ (by first | exact (Below.refl _ _).drew | exact Below.refl _ _)).mono ?_; rintro e y1 ⟨rfl, e1⟩; have hy1 : Below W.heap.size W y1 := (by first | exact drew_below e1 | exact e1); have HY1 := hid hy1; have c3 := (HH.out.below hy1).box.c2; have c4 := (HH.out.below hy1).box.f2))
    all_goals go_wp2
    all_goals go_meet
    all_goals exact ⟨(HH.out.below HY1.out).left left2, ((HY1.out.mono HBW.out).setCell (p := ⟨s, 2, none⟩) hs _), (But.below HY1.out).set1 2 _⟩
  case rest =>
    have HR := hid hcut.out.1
    have HBB := hid hcut.out.2.1
    have HBT := hid hcut.out.2.2
    clear hcut
    have c1 := HR.out.box.c1
    have d1 := HR.out.pat b HB.out
    have f1 := HR.out.pu.free b (by rw [pls_len]; exact HB.out)
    rw [HKK.out] at d1
    go_wp2
    refine bodyPost_end (results_none rfl _ _ _) rfl ⟨rfl, ?_, ?_, HBT.out.set2 b _⟩
    · have := HR.out.more b HB.out
      rw [HKK.out] at this
      exact this
    · exact HBB.out.setCell (p := ⟨p, b, none⟩) hp _
end Go.Proofs.YtidppkbphkcmeaaGreat
/- Contracts: the bands that may have more, the worthiest of them, by the program. -/
namespace Go.Proofs.YtidppkbphkcmeaaGreat
open Go.RowKit
set_option linter.unusedVariables false
set_option linter.unusedSimpArgs false

/-- Bands as memory has them. -/
def bdv (l : List Nat) : List Int := l.map fun b : Nat => (b : Int)
theorem bdv_len (l : List Nat) : (bdv l).length = l.length := by simp [bdv]
theorem bdv_at (l : List Nat) (i : Nat) (h : i < l.length) : (bdv l).getD i 0 = (l.getD i 0 : Nat) := by simp [bdv, h]
theorem bdv_snoc (l : List Nat) (b : Nat) : (bdv (l ++ [b])).map (Value.int .i64) = (bdv l).map (Value.int .i64) ++ [.int .i64 (b : Nat)] := by simp [bdv]

set_option maxRecDepth 10000 in
set_option maxHeartbeats 2000000 in
theorem bands_any (s p gb go gc : Nat) (g : List Int) (f : Nat → Nat) (room : Int) (W : World) (H : Sh W s p gb go gc g f (room - sp f)) (hf : ∀ b, b < 5 → f b ≤ 12) : Calls Tryz.prog 99 #[.agg #[.func (.func 98) #[.pointer (some ⟨s, 0, none⟩)] #[]]] W fun e w' => ∃ v, e = .returned v ∧ w'.ownsRow W.heap.size 3 1 v (bds (mayB g f room) 5).length ((bdv (bds (mayB g f room) 5)).map (Value.int .i64)) ∧ Below W.heap.size W w' := by
  obtain ⟨i0, hi, hz0, hz1, hz2⟩ := info_parts info_int_c
  have HM : Hid (∀ b, b < 5 → ∀ w, Below W.heap.size W w → Calls Tryz.prog 98 #[.pointer (some ⟨s, 0, none⟩), .int .i64 (b : Nat)] w fun e w' => e = .returned (.bool (mayB g f room b)) ∧ Below w.heap.size w w') := fun b hb w hw => mayAdd_any s p gb go gc b g f room w (H.below hw) hb (hf b hb)
  generalize mayB g f room = q at *
  clear H hf
  go_enter Tryz.func99, Tryz.ntmps99
  go_wp2
  have hw0 := below1 W (.cells #[.func (.func 98) #[.pointer (some ⟨s, 0, none⟩)] #[]] 150)
  have hc0 : (W.alloc (.cells #[.func (.func 98) #[.pointer (some ⟨s, 0, none⟩)] #[]] 150)).cell? ⟨W.heap.size, 0, none⟩ = some (.func (.func 98) #[.pointer (some ⟨s, 0, none⟩)] #[]) := by simp [go_sem]
  have hz : W.heap.size < (W.alloc (.cells #[.func (.func 98) #[.pointer (some ⟨s, 0, none⟩)] #[]] 150)).heap.size := by simp
  generalize W.alloc (.cells #[.func (.func 98) #[.pointer (some ⟨s, 0, none⟩)] #[]] 150) = W0 at *
  go_loopw [3, 5] (fun r i wr => ∃ n : Nat, n ≤ 5 ∧ i = .int .i64 n ∧ wr.ownsRow W0.heap.size 3 1 r (bds q n).length ((bdv (bds q n)).map (Value.int .i64)) ∧ Below W0.heap.size W0 wr) (fun _ i _ => 5 - (intOf i).toNat)
  case atStart => exact ⟨0, by omega, rfl, World.ownsRow_nil _ _ _ _, Below.refl _ _⟩
  case round =>
    obtain ⟨n, hn, rfl, hown, hbr⟩ := hrel
    have hc1 := ((bcell hbr).1 _ 0 hz).trans hc0
    by_cases h5 : n < 5
    · have hm := HM.out n h5
      have HOW := hid hown
      have HBR := hid hbr
      have hlen := bds_len q n
      have HWW := hid (bthen hw0 hbr hw0.size)
      by_cases hp : q n = true
      · rw [hp] at hm
        have HS : Hid (bds q (n + 1) = bds q n ++ [n]) := by unfold Hid; rw [bds_succ, if_pos hp]
        clear hown hbr
        go_wp2_with (first | (go_at_call 98; refine (hm _ HWW.out).mono ?_; rintro e y1 ⟨rfl, hy1⟩; have hown := owns_below HOW.out hy1; have hbr2 := bthen HBR.out hy1 HBR.out.size; have hsz := hbr2.size) | (at_builtin; refine wpList_append_own _ rfl _ _ 45 rfl W0.heap.size 3 i0 (.int .i64 0) 1 8 Tryz.underlying45 hi hz0 hz1 hz2 rfl (by decide) _ _ _ rfl (hown.alloc _) ⟨y1.heap.size, 0, none⟩ 1 1 [.int .i64 n] rfl rfl (cell_one_at rfl _ _) (one_cell _ _) ?c3 ?c4 ?c5 ?_))
        case c3 => unfold maxLen; omega
        case c4 => omega
        case c5 => simp; omega
        intro v' w2 hown' hgrow _
        have hb2 := bgrow hbr2 hown (Nat.le_refl _) hgrow
        go_wp2
        exact ⟨⟨n + 1, by omega, by go_num, by rw [HS.out, bdv_snoc, List.length_append]; exact hown', hb2⟩, by simp [intOf]; omega⟩
      · have hp' : q n = false := by simpa using hp
        rw [hp'] at hm
        have HS : Hid (bds q (n + 1) = bds q n) := by unfold Hid; rw [bds_succ, if_neg hp]
        clear hown hbr
        go_wp2_with (first | (go_at_call 98; refine (hm _ HWW.out).mono ?_; rintro e y1 ⟨rfl, hy1⟩; have hown := owns_below HOW.out hy1; have hbr2 := bthen HBR.out hy1 HBR.out.size))
        exact ⟨⟨n + 1, by omega, by go_num, by rw [HS.out]; exact hown, hbr2⟩, by simp [intOf]; omega⟩
    · obtain rfl : n = 5 := by omega
      go_wp2
      go_ret
      exact ⟨_, rfl, owns_base hown hw0.size, bthen hw0 hbr hw0.size⟩

set_option maxRecDepth 10000 in
set_option maxHeartbeats 1000000 in
theorem wcmp_any (s p gb go gc c a b : Nat) (g : List Int) (f : Nat → Nat) (left : Int) (W : World) (H : Sh W s p gb go gc g f left) (hc : W.cell? ⟨c, 0, none⟩ = some (.pointer (some ⟨s, 0, none⟩))) (ha : a < 5) (hb : b < 5) (hf : ∀ b, b < 5 → f b ≤ 12) (hg : gokB g = true) : Calls Tryz.prog 113 #[.int .i64 (a : Nat), .int .i64 (b : Nat), .pointer (some ⟨c, 0, none⟩)] W fun e w' => e = .returned (.int .i64 (cmpI (wor g f a) (wor g f b))) ∧ ∃ n, w' = W.drewN n := by
  have h1 := fun n => worth_any s p gb go gc a g f left (W.drewN n) (H.drewN n) ha (hf a ha) hg
  have h2 := fun n => worth_any s p gb go gc b g f left (W.drewN n) (H.drewN n) hb (hf b hb) hg
  have h3 := fun w => compare_any (wor g f a) (wor g f b) w
  generalize cmpI (wor g f a) (wor g f b) = R at *
  generalize wor g f a = P at *
  generalize wor g f b = Q at *
  clear H ha hb hf hg
  generalize (a : Int) = A at *
  generalize (b : Int) = B at *
  go_enter Tryz.func113, Tryz.ntmps113
  go_wp2
  go_quiet (first | (go_at_call_of 115 (Value.int .i64 A); exact Calls.quiet_of (h1 _)) | (go_at_call_of 115 (Value.int .i64 B); exact Calls.quiet_of (h2 _)) | (go_at_call 114; exact Calls.quiet_of_same (h3 _)))
  go_wp2
  go_ret
  exact ⟨rfl, _, rfl⟩
set_option maxRecDepth 10000 in
set_option maxHeartbeats 1000000 in
theorem maxf_any (s p gb go gc c : Nat) (g : List Int) (f : Nat → Nat) (left : Int) (a : Option Addr) (n cap : Nat) (l : List Nat) (W : World) (H : Sh W s p gb go gc g f left) (hc : W.cell? ⟨c, 0, none⟩ = some (.pointer (some ⟨s, 0, none⟩))) (hcl : c < W.heap.size) (hf : ∀ b, b < 5 → f b ≤ 12) (hg : gokB g = true) (hl : ∀ b ∈ l, b < 5) (hn : n = l.length) (h0 : 0 < n) (h5 : n ≤ 5) (hv : Rw .i64 W (.slice a n cap) (bdv l)) : Calls Tryz.prog 112 #[.slice a n cap, .func (.func 113) #[] #[.pointer (some ⟨c, 0, none⟩)]] W fun e w' => ∃ x, bsl (wor g f) l = some x ∧ e = .returned (.int .i64 (x : Nat)) ∧ ∃ n, w' = W.drewN n := by
  have HC : Hid (∀ x y m, x < 5 → y < 5 → Calls Tryz.prog 113 #[.int .i64 (x : Nat), .int .i64 (y : Nat), .pointer (some ⟨c, 0, none⟩)] (W.drewN m) fun e w' => e = .returned (.int .i64 (cmpI (wor g f x) (wor g f y))) ∧ ∃ n, w' = (W.drewN m).drewN n) := fun x y m hx hy => wcmp_any s p gb go gc c x y g f left (W.drewN m) (H.drewN m) (by simpa using hc) hx hy hf hg
  have hv2 := hv
  rw [show n = (bdv l).length by rw [bdv_len l]; exact hn] at hv2
  obtain ⟨b, off, rfl, hb, hd0⟩ := hv2.at 0 (by rw [bdv_len l]; omega)
  have HD : Hid (∀ i, i < n → W.cell? ⟨b, off + i, none⟩ = some (.int .i64 (l.getD i 0 : Nat))) := fun i hi => by
    obtain ⟨b', off', he, _, h⟩ := hv2.at i (by rw [bdv_len l]; omega)
    simp only [Option.some.injEq, Addr.mk.injEq, and_true] at he
    obtain ⟨rfl, rfl⟩ := he
    rw [bdv_at l i (by omega)] at h
    exact h
  have HL : Hid (∀ i, i < n → l.getD i 0 < 5) := fun i hi => by
    have h' : i < l.length := by omega
    refine hl _ ?_
    rw [List.getD_eq_getElem?_getD, List.getElem?_eq_getElem h']
    exact List.getElem_mem _
  have HT : Hid (∀ i, i < n → bsl (wor g f) (l.take (i + 1)) = bstep (wor g f) (bsl (wor g f) (l.take i)) (l.getD i 0)) := fun i hi => bsl_take (wor g f) l i (by omega)
  have HA : Hid (bsl (wor g f) (l.take n) = bsl (wor g f) l) := by unfold Hid; rw [hn, bsl_all]
  have d0 := HD.out 0 h0
  have HS : Hid (bsl (wor g f) (l.take 1) = some (l.getD 0 0)) := by unfold Hid; have := HT.out 0 h0; simpa [bsl, bstep] using this
  have hq : ((n : Int) < 1) = False := by simp; omega
  clear hv hv2 hd0 H hl hn hc hcl hf hg hb
  have hx0 := HL.out 0 h0
  generalize l.getD 0 0 = x0 at *
  rw [Nat.add_zero] at d0
  go_enter Tryz.func112, Tryz.ntmps112
  go_wp2
  go_loopw [5, 6] (fun v i wr => ∃ j x m : Nat, 1 ≤ j ∧ j ≤ n ∧ x < 5 ∧ i = .int .i64 j ∧ v = .int .i64 x ∧ Hid (bsl (wor g f) (l.take j) = some x) ∧ wr = W.drewN m) (fun _ i _ => n - (intOf i).toNat)
  case atStart => exact ⟨1, x0, 0, by omega, by omega, hx0, rfl, rfl, HS, rfl⟩
  case round =>
    obtain ⟨j, x, m, hj1, hj2, hx, rfl, rfl, HX, rfl⟩ := hrel
    clear d0 HS hx0
    by_cases hlt : j < n
    · have d1 := HD.out j hlt
      have hl5 := HL.out j hlt
      have HN : Hid (bsl (wor g f) (l.take (j + 1)) = bstep (wor g f) (some x) (l.getD j 0)) := by unfold Hid; rw [HT.out j hlt, HX.out]
      have hcall := HC.out (l.getD j 0) x m hl5 hx
      have hpos := cmp_pos (wor g f (l.getD j 0)) (wor g f x)
      have i1 : (0 : Int) ≤ (j : Int) := by omega
      have i2 : (j : Int) < (n : Int) := by omega
      have i3 : IntKind.i64.wrap (j : Int) = j := wraps_i64 _ (by omega) (by omega)
      have HLX := hid hl5
      have HXX := hid hx
      by_cases hw : wor g f x < wor g f (l.getD j 0)
      · rw [decide_eq_true hw] at hpos
        have HN2 : Hid (bsl (wor g f) (l.take (j + 1)) = some (l.getD j 0)) := by unfold Hid; rw [HN.out]; simp only [bstep]; rw [if_pos hw]
        clear hw HN hl5 hx
        generalize cmpI (wor g f (l.getD j 0)) (wor g f x) = R at *
        generalize l.getD j 0 = z at *
        go_wp2_with (go_at_call 113; refine hcall.mono ?_; rintro e y1 ⟨rfl, m2, rfl⟩)
        exact ⟨⟨j + 1, z, m + m2, by omega, by omega, HLX.out, by go_num, rfl, HN2, rfl⟩, by simp [intOf]; omega⟩
      · rw [decide_eq_false hw] at hpos
        have HN2 : Hid (bsl (wor g f) (l.take (j + 1)) = some x) := by unfold Hid; rw [HN.out]; simp only [bstep]; rw [if_neg hw]
        clear hw HN hl5 hx
        generalize cmpI (wor g f (l.getD j 0)) (wor g f x) = R at *
        generalize l.getD j 0 = z at *
        go_wp2_with (go_at_call 113; refine hcall.mono ?_; rintro e y1 ⟨rfl, m2, rfl⟩)
        exact ⟨⟨j + 1, x, m + m2, by omega, by omega, HXX.out, by go_num, rfl, HN2, rfl⟩, by simp [intOf]; omega⟩
    · obtain rfl : j = n := by omega
      have HR : Hid (bsl (wor g f) l = some x) := by unfold Hid; rw [← HA.out]; exact HX.out
      clear HA HX HT HC HD HL hlt
      go_wp2
      go_ret
      exact ⟨x, HR.out, rfl, m, rfl⟩
set_option maxRecDepth 10000 in
set_option maxHeartbeats 1000000 in
theorem worthiest_any (s p gb go gc : Nat) (g : List Int) (f : Nat → Nat) (left : Int) (a : Option Addr) (n cap : Nat) (l : List Nat) (W : World) (H : Sh W s p gb go gc g f left) (hf : ∀ b, b < 5 → f b ≤ 12) (hg : gokB g = true) (hl : ∀ b ∈ l, b < 5) (hn : n = l.length) (h0 : 0 < n) (h5 : n ≤ 5) (hv : Rw .i64 W (.slice a n cap) (bdv l)) : Calls Tryz.prog 101 #[.pointer (some ⟨s, 0, none⟩), .slice a n cap] W fun e w' => ∃ x, bsl (wor g f) l = some x ∧ e = .returned (.int .i64 (x : Nat)) ∧ Below W.heap.size W w' := by
  have hb := below1 W (.cells #[.pointer (some ⟨s, 0, none⟩)] 145)
  have hm := maxf_any s p gb go gc W.heap.size g f left a n cap l (W.alloc (.cells #[.pointer (some ⟨s, 0, none⟩)] 145)) (H.below hb) (by simp [go_sem]) (by simp) hf hg hl hn h0 h5 (hv.below hb)
  clear H hf hg hl hn h0 h5 hv
  go_enter Tryz.func101, Tryz.ntmps101
  go_wp2_with (go_at_call 112; refine hm.mono ?_; rintro e y1 ⟨x, hx, rfl, m, rfl⟩)
  go_ret
  exact ⟨x, hx, rfl, drewN_below hb m⟩
end Go.Proofs.YtidppkbphkcmeaaGreat
/- Contract: the program's pulses of a channel. -/
namespace Go.Proofs.YtidppkbphkcmeaaGreat
open Go.RowKit
set_option linter.unusedVariables false
set_option linter.unusedSimpArgs false

/-- The bands that may have more, in memory. -/
def Bv (w : World) (v : Value) (l : List Nat) : Prop := ∃ a n c, v = .slice a n c ∧ n = l.length ∧ Rw .i64 w (.slice a n c) (bdv l)
theorem Bv.of {w : World} {base : Nat} {t : TypeId} {v : Value} {l : List Nat} (h : w.ownsRow base t 1 v l.length ((bdv l).map (Value.int .i64))) : Bv w v l := by
  have hr := Rw.of_owns h
  obtain ⟨a, c, rfl, _⟩ := owns_open h
  exact ⟨a, _, c, rfl, rfl, hr⟩

set_option maxRecDepth 10000 in
set_option maxHeartbeats 4000000 in
theorem spend_any (a : Option Addr) (cap : Nat) (g : List Int) (room : Int) (w : World) (hg : gokB g = true) (hv : Rw .i64 w (.slice a 5 cap) g) (hr0 : 0 ≤ room) (hr1 : room ≤ 400) : Calls Tryz.prog 72 #[.slice a 5 cap, .int .i64 room] w fun e w' => ∃ p, e = .returned (.slice (some ⟨p, 0, none⟩) 5 5) ∧ w.heap.size ≤ p ∧ Blk .i64 3 w' p (pls (chan g room)) ∧ Below w.heap.size w w' := by
  obtain ⟨i0, hi, hz0, hz1, hz2⟩ := info_parts info_int_c
  have hlen := gok_len hg
  have hv2 := hv
  rw [show (5 : Nat) = g.length from hlen.symm] at hv2
  obtain ⟨gb, go, rfl, hgb, hd0⟩ := hv2.at 0 (by omega)
  have HG : Hid (∀ i, i < 5 → w.cell? ⟨gb, go + i, none⟩ = some (.int .i64 (g.getD i 0))) := fun i hi => by
    obtain ⟨b', off', he, _, h⟩ := hv2.at i (by omega)
    simp only [Option.some.injEq, Addr.mk.injEq, and_true] at he
    obtain ⟨rfl, rfl⟩ := he
    exact h
  clear hv hv2 hd0 hlen
  go_enter Tryz.func72, Tryz.ntmps72
  go_wp2_with (at_make; refine wpList_make_full _ rfl _ _ 45 rfl w.heap.size 3 i0 (.int .i64 0) 1 Tryz.underlying45 hi hz0 hz1 .i64 .i64 _ _ 5 rfl rfl (by omega) (by omega) (by rw [hz2]; omega) (by unfold maxLen; omega) (by simp) ?_)
  intro w5 hown5 hgrow5
  have hb5 := grown_of_none hgrow5
  have hblk5 : Blk .i64 3 w5 w.heap.size (pls fun _ => 0) := by have h : Blk .i64 3 w5 w.heap.size (tab 5 fun _ => 0) := Blk.made hown5; rw [← pls_zero]; exact h
  have hz5 := hblk5.lt
  have HB5 := hid hblk5
  have HBB5 := hid hb5
  clear hown5 hgrow5 hblk5 hb5
  have q1 : ((w5.alloc (.cells #[.slice (some ⟨gb, go, none⟩) 5 cap, .slice (some ⟨w.heap.size, 0, none⟩) 5 5, .int .i64 room] 147)).alloc (.cells #[.nilFunc] 150)).cell? ⟨w5.heap.size + 1, 0, none⟩ = some .nilFunc := by simp [go_sem]
  have q2 : ((w5.alloc (.cells #[.slice (some ⟨gb, go, none⟩) 5 cap, .slice (some ⟨w.heap.size, 0, none⟩) 5 5, .int .i64 room] 147)).alloc (.cells #[.nilFunc] 150)).frozen? ⟨w5.heap.size + 1, 0, none⟩ = false := by simp [go_sem]
  go_upto_region 3 with fail
  have hb6 := below2 w5 (.cells #[.slice (some ⟨gb, go, none⟩) 5 cap, .slice (some ⟨w.heap.size, 0, none⟩) 5 5, .int .i64 room] 147) (.cells #[.func (.func 98) #[.pointer (some ⟨w5.heap.size, 0, none⟩)] #[]] 150)
  have hbox := (B3.new w5 (.slice (some ⟨gb, go, none⟩) 5 cap) (.slice (some ⟨w.heap.size, 0, none⟩) 5 5) (.int .i64 room) 147).below (below1 _ (.cells #[.func (.func 98) #[.pointer (some ⟨w5.heap.size, 0, none⟩)] #[]] 150))
  have hop : ((w5.alloc (.cells #[.slice (some ⟨gb, go, none⟩) 5 cap, .slice (some ⟨w.heap.size, 0, none⟩) 5 5, .int .i64 room] 147)).alloc (.cells #[.func (.func 98) #[.pointer (some ⟨w5.heap.size, 0, none⟩)] #[]] 150)).cell? ⟨w5.heap.size + 1, 0, none⟩ = some (.func (.func 98) #[.pointer (some ⟨w5.heap.size, 0, none⟩)] #[]) := by simp [go_sem]
  clear q1 q2
  generalize (w5.alloc (.cells #[.slice (some ⟨gb, go, none⟩) 5 cap, .slice (some ⟨w.heap.size, 0, none⟩) 5 5, .int .i64 room] 147)).alloc (.cells #[.func (.func 98) #[.pointer (some ⟨w5.heap.size, 0, none⟩)] #[]] 150) = W1 at *
  have hW1 := bthen' HBB5.out hb6
  have HSH : Hid (Sh W1 w5.heap.size w.heap.size gb go cap g (fun _ => 0) (room - sp fun _ => 0)) := by
    refine ⟨?_, fun i hi => ((bcell hW1).1 _ _ hgb).trans (HG.out i hi), Nat.lt_of_lt_of_le hgb hW1.size, HB5.out.below hb6, by omega, by omega, by omega⟩
    rw [sp_none, show room - ((0 : Nat) : Int) = room by omega]
    exact hbox
  have HOK := hid (Okf.start g hr0)
  have hps : w.heap.size < w5.heap.size := hz5
  generalize w5.heap.size = s at *
  clear hb6 hbox HB5 HBB5 hz5
  have hbd := bands_any s w.heap.size gb go cap g (fun _ => 0) room W1 HSH.out (fun b hb => Nat.zero_le _)
  go_wp2_with (go_at_call 99; refine hbd.mono ?_; rintro e y1 ⟨v, rfl, hown, hy1⟩)
  have HV := hid (Bv.of hown)
  have HS1 := hid (HSH.out.below hy1)
  have hz1' : s < W1.heap.size := HSH.out.box.z
  have hopz := block_of_cell hop
  have HOP : Hid (y1.cell? ⟨s + 1, 0, none⟩ = some (.func (.func 98) #[.pointer (some ⟨s, 0, none⟩)] #[])) := ((bcell hy1).1 _ _ hopz).trans hop
  have HBL := hid (bthen' hW1 hy1)
  have HE : Hid (chan g room = endF g room fun _ => 0) := rfl
  clear hown hy1 hop HSH hW1 hbd hopz hz1'
  generalize (fun _ => 0 : Nat → Nat) = f0 at *
  go_loopg [7] (rem5 f0) (fun k u wr => ∃ f : Nat → Nat, k = rem5 f ∧ Hid (Okf g room f) ∧ Hid (chan g room = endF g room f) ∧ Hid (Sh wr s w.heap.size gb go cap g f (room - sp f)) ∧ Hid (Bv wr u (bds (mayB g f room) 5)) ∧ Hid (wr.cell? ⟨s + 1, 0, none⟩ = some (.func (.func 98) #[.pointer (some ⟨s, 0, none⟩)] #[])) ∧ Hid (Below w.heap.size w wr))
  case atStart => exact ⟨f0, rfl, HOK, HE, HS1, HV, HOP, HBL⟩
  case round =>
    clear HOK HE HS1 HV HOP HBL
    obtain ⟨f, rfl, HOK, HE, HSH, HV, HOP, HBL⟩ := hrel
    obtain ⟨a, n, c, rfl, hn, hrw⟩ := HV.out
    have hf12 := fun b hb => HOK.out.le b hb
    have hsp := sp_le f (fun b hb => Nat.le_trans (hf12 b hb) (by omega))
    have hcost := HOK.out.cost
    have hlen := bds_len (mayB g f room) 5
    have hmem := fun b (hb : b ∈ bds (mayB g f room) 5) => (bds_mem b hb).1
    have HBS := hid (bsl_bds (mayB g f room) (wor g f) 5)
    have HRW := hid hrw
    have hn5 : n ≤ 5 := by omega
    have HN := hid hn
    by_cases h0 : 0 < n
    · have hwt := worthiest_any s w.heap.size gb go cap g f _ a n c _ wr HSH.out hf12 hg hmem hn h0 hn5 hrw
      have h0' : ((0 : Int) < (n : Int)) := by omega
      have h3 : -1000 ≤ room - (sp f : Int) := by omega
      have h4 : room - (sp f : Int) ≤ 1000 := by omega
      have HF := hid hf12
      clear HV hrw hn hmem hlen hcost hsp hf12
      generalize hL : bds (mayB g f room) 5 = L at *
      go_wp2_with (first | (go_at_call 101; refine hwt.mono ?_; rintro e y2 ⟨x, hx, rfl, hy2⟩; have HBX := hid (hx.symm.trans HBS.out); clear hx; have hx5 := (bst_some HBX.out.symm).1; have HXM := hid (bst_some HBX.out.symm).2; have hx11 : f x ≤ 11 := Nat.le_of_lt_succ (may_lt HXM.out); have had := add_any s w.heap.size gb go cap x w.heap.size g f room y2 (HSH.out.below hy2) hx5 hx11 h3 h4 (Nat.le_of_lt hps) (Nat.le_refl _)) | (go_at_call 100; refine had.mono ?_; rintro e y3 ⟨rfl, hS3, hB3, hN3⟩; have HOK2 := hid (HOK.out.up HXM.out); have hbd := bands_any s w.heap.size gb go cap g (up f x) room y3 hS3 (fun b hb => HOK2.out.le b hb); have HOP3 := hid (hN3.cell (((bcell hy2).1 _ _ (block_of_cell HOP.out)).trans HOP.out) (Nat.succ_ne_self s) (Nat.ne_of_gt (Nat.lt_succ_of_lt hps))); have hop3 := HOP3.out) | (go_at_call 99; refine hbd.mono ?_; rintro e y4 ⟨v4, rfl, hown4, hy4⟩))
      have HE2 : Hid (chan g room = endF g room (up f x)) := by unfold Hid; rw [HE.out]; exact endF_some HBX.out.symm
      have hrem := rem_up f x hx5 (may_lt HXM.out)
      go_roundg (rem5 (up f x))
      case measure => omega
      case rel => exact ⟨up f x, rfl, HOK2, HE2, hS3.below hy4, Bv.of hown4, ((bcell hy4).1 _ _ (block_of_cell hop3)).trans hop3, bthen' ((bthen' HBL.out hy2).trans hB3) hy4⟩
    · have h0' : n = 0 := by omega
      have HR : Hid (chan g room = f) := by
        unfold Hid
        rw [HE.out]
        apply endF_none
        rw [← HBS.out, List.eq_nil_of_length_eq_zero (hn.symm.trans h0')]
        rfl
      have c1 := HSH.out.box.c1
      have HPU := hid HSH.out.pu
      clear hn HBS HV hrw hmem hlen hcost hsp hf12 h0 HN HRW HE HOP HOK
      subst h0'
      go_wp2
      go_ret
      exact ⟨_, rfl, Nat.le_refl _, by rw [HR.out]; exact HPU.out, HBL.out⟩
end Go.Proofs.YtidppkbphkcmeaaGreat
/- Contracts: gains for each channel, all channels' pulses, by the program. -/
namespace Go.Proofs.YtidppkbphkcmeaaGreat
open Go.RowKit
set_option linter.unusedVariables false
set_option linter.unusedSimpArgs false

/-- Are these gains for each channel? -/
def fairG (c : Int) (L : List (List Int)) : Bool := decide ((L.length : Int) = c) && (List.range L.length).all fun i => gokB (L.getD i [])
theorem fair_iff {c : Int} {L : List (List Int)} : fairG c L = true ↔ (L.length : Int) = c ∧ ∀ i, i < L.length → gokB (L.getD i []) = true := by
  unfold fairG
  rw [Bool.and_eq_true, decide_eq_true_eq, List.all_eq_true]
  constructor
  · exact fun h => ⟨h.1, fun i hi => h.2 i (List.mem_range.2 hi)⟩
  · exact fun h => ⟨h.1, fun i hi => h.2 i (List.mem_range.1 hi)⟩
theorem fair_no {c : Int} {L : List (List Int)} (h : ¬ ((L.length : Int) = c ∧ ∀ i, i < L.length → gokB (L.getD i []) = true)) : fairG c L = false := by
  cases hb : fairG c L
  · rfl
  · exact absurd (fair_iff.1 hb) h

set_option maxRecDepth 10000 in
set_option maxHeartbeats 1000000 in
theorem rgains_any {ok : Bool} (c : Int) (a : Option Addr) (n cap : Nat) (L : List (List Int)) (w : World) (hn : L.length = n) (hmax : n ≤ 9223372036854775807) (hv : Fr ok w (.slice a n cap) L) : Calls Tryz.prog 71 #[.int .i64 c, .slice a n cap] w fun e w' => e = .returned (.bool (fairG c L)) ∧ w' = w := by
  by_cases hc : (n : Int) = c
  · subst hc
    have HYES : Hid ((∀ i, i < n → gokB (L.getD i []) = true) → fairG n L = true) := fun h => fair_iff.2 ⟨by omega, fun i hi => h i (by omega)⟩
    have HNO : Hid (∀ i, i < n → gokB (L.getD i []) = false → fairG n L = false) := fun i hi h => fair_no fun hh => by have := hh.2 i (by omega); rw [h] at this; cases this
    have HAT : Hid (∀ i, i < n → ∃ b off, a = some ⟨b, off, none⟩ ∧ b < w.heap.size ∧ ∃ ra rc, w.cell? ⟨b, off + i, none⟩ = some (.slice ra (L.getD i []).length rc) ∧ (ok = true → (L.getD i []).length ≤ rc) ∧ Rw .i64 w (.slice ra (L.getD i []).length rc) (L.getD i [])) := fun i hi => hv.at i hi
    generalize fairG n L = R at *
    clear hn hv
    go_enter Tryz.func71, Tryz.ntmps71
    go_wp2
    go_loop [13] (fun i => ∃ k : Nat, k ≤ n ∧ i = .int .i64 (k : Nat) ∧ Hid (∀ j, j < k → gokB (L.getD j []) = true)) (fun i => n - (intOf i).toNat)
    case atStart => exact ⟨0, by omega, rfl, fun j hj => by omega⟩
    case round =>
      obtain ⟨k, hk, rfl, HP⟩ := hrel
      by_cases hlt : k < n
      · obtain ⟨b, off, rfl, hb, ra, rc, hc1, _, hrw⟩ := HAT.out k hlt
        have hr := right_any ra _ rc _ rfl w hrw
        have i1 : (0 : Int) ≤ (k : Int) := by omega
        have i2 : (k : Int) < (n : Int) := by omega
        have i3 : IntKind.i64.wrap (k : Int) = k := wraps_i64 _ (by omega) (by omega)
        by_cases hg : gokB (L.getD k []) = true
        · have HP2 : Hid (∀ j, j < k + 1 → gokB (L.getD j []) = true) := fun j hj => by
            by_cases e : j < k
            · exact HP.out j e
            · obtain rfl : j = k := by omega
              exact hg
          rw [hg] at hr
          clear hg HAT hrw
          generalize (L.getD k []).length = m at *
          go_wp2_with (go_at_call 51; refine hr.mono ?_; rintro e w9 ⟨rfl, h9⟩; have h9 := h9.symm; subst h9)
          exact ⟨⟨k + 1, by omega, by go_num, HP2⟩, by simp [intOf]; omega⟩
        · have hg' : gokB (L.getD k []) = false := by simpa using hg
          have HR := hid (HNO.out k hlt hg')
          rw [hg'] at hr
          clear hg hg' HAT hrw HNO HYES HP
          generalize (L.getD k []).length = m at *
          go_wp2_with (go_at_call 51; refine hr.mono ?_; rintro e w9 ⟨rfl, h9⟩; have h9 := h9.symm; subst h9)
          go_ret
          exact ⟨ret_bool HR.out.symm, rfl⟩
      · obtain rfl : k = n := by omega
        have HR := hid (HYES.out HP.out)
        clear HAT hlt HYES HNO HP
        go_wp2
        go_ret
        exact ⟨ret_bool HR.out.symm, rfl⟩
  · have hR : fairG c L = false := fair_no fun h => hc (by omega)
    have hc' : ((n : Int) != c) = true := by simp; exact hc
    rw [hR]
    clear hR hc hv hn
    go_enter Tryz.func71, Tryz.ntmps71
    go_wp2
    go_ret
    exact ⟨rfl, rfl⟩

/-- Pulses are told of no other shape and gains. -/
theorem pulses_no {ok : Bool} (n c : Int) (a : Option Addr) (m cap : Nat) (L : List (List Int)) (w : World) (hm : L.length = m) (hmax : m ≤ 9223372036854775807) (hv : Fr ok w (.slice a m cap) L) (h : (rtB n c && fairG c L) = false) : Calls Tryz.prog 41 #[.int .i64 n, .int .i64 c, .slice a m cap] w fun e w' => e = .returned (.tuple #[.slice none 0 0, .int .i64 1]) ∧ w' = w := by
  have hr := fun w => aright_any n c w
  have hg := rgains_any c a m cap L w hm hmax hv
  cases h1 : rtB n c
  · rw [h1] at hr
    clear h h1 hg hv hm
    go_enter Tryz.func41, Tryz.ntmps41
    go_wp2_with (go_at_call 37; refine (hr _).mono ?_; rintro e w9 ⟨rfl, h9⟩; have h9 := h9.symm; subst h9)
    go_ret2
    exact ⟨rfl, rfl⟩
  · rw [h1] at hr h
    rw [show fairG c L = false from h] at hg
    clear h h1 hv hm
    go_enter Tryz.func41, Tryz.ntmps41
    go_wp2_with (first | (go_at_call 37; refine (hr _).mono ?_; rintro e w9 ⟨rfl, h9⟩; have h9 := h9.symm; subst h9) | (go_at_call 71; refine hg.mono ?_; rintro e w8 ⟨rfl, h8⟩; have h8 := h8.symm; subst h8))
    go_ret2
    exact ⟨rfl, rfl⟩
/-- The pulses of a channel, as a list. -/
def pul (room : Int) (L : List (List Int)) (i : Nat) : List Int := pls (chan (L.getD i []) room)

set_option maxRecDepth 10000 in
set_option maxHeartbeats 4000000 in
theorem pulses_ok {ok : Bool} (n : Int) (c : Nat) (a : Option Addr) (cap : Nat) (L : List (List Int)) (w : World) (hv : Fr ok w (.slice a c cap) L) (h : rtB n c = true) (hf : fairG c L = true) : Calls Tryz.prog 41 #[.int .i64 n, .int .i64 c, .slice a c cap] w fun e w' => ∃ G, e = .returned (.tuple #[.slice (some ⟨G, 0, none⟩) c c, .int .i64 0]) ∧ Fr true w' (.slice (some ⟨G, 0, none⟩) c c) ((List.range c).map (pul (rmI n c) L)) ∧ Below w.heap.size w w' := by
  obtain ⟨i1, hi1, hy0, hy1, hy2⟩ := info_parts (show (Tryz.prog.info? 45).map (fun i => (i.zero, i.size, i.bytes)) = some (some (.slice none 0 0), 1, 24) by kernel_rfl)
  obtain ⟨hl, hall⟩ := fair_iff.1 hf
  have hl : L.length = c := by omega
  have hr := fun w => aright_any n c w
  have hg := fun w hv => rgains_any (ok := ok) c a c cap L w hl (by rcases rt_parts h with h | h <;> omega) hv
  have hro := fun w => room_any n c w
  rw [h] at hr
  rw [hf] at hg
  have hc12 : 1 ≤ c ∧ c ≤ 2 := by rcases rt_parts h with h | h <;> omega
  obtain ⟨c1, c2⟩ := hc12
  have hrm := rm_bd n c
  have HALL : Hid (∀ i, i < c → gokB (L.getD i []) = true) := fun i hi => hall i (by omega)
  have HP : Hid (∀ i, pul (rmI n c) L i = pls (chan (L.getD i []) (rmI n c))) := fun _ => rfl
  have HV := hid hv
  have hg1 := hg w hv
  generalize pul (rmI n c) L = fr at *
  generalize rmI n c = room at *
  clear h hf hl hall hg
  go_enter Tryz.func41, Tryz.ntmps41
  go_wp2_with (first | (go_at_call 37; refine (hr _).mono ?_; rintro e w9 ⟨rfl, h9⟩; have h9 := h9.symm; subst h9) | (go_at_call 71; refine hg1.mono ?_; rintro e w8 ⟨rfl, h8⟩; have h8 := h8.symm; subst h8) | (at_make; refine wpList_make_full _ rfl _ _ 22 rfl w.heap.size 45 i1 (.slice none 0 0) 1 Tryz.underlying22 hi1 hy0 hy1 .i64 .i64 _ _ c rfl rfl (by omega) (by omega) (by rw [hy2]; omega) (by unfold maxLen; omega) (by simp) ?_))
  intro w5 hown5 hgrow5
  have hb5 := grown_of_none hgrow5
  have HF0 : Hid (Fg 45 w5 w.heap.size c fr 0) := Fg.made hown5
  have HB5 := hid hb5
  clear hown5 hgrow5 hb5 hv hg1 hr
  go_wp2
  go_loopw [24] (fun p wr => ∃ i : Nat, i ≤ c ∧ p = .int .i64 i ∧ Hid (Fg 45 wr w.heap.size c fr i) ∧ Hid (Below w.heap.size w wr)) (fun p _ => c - (intOf p).toNat)
  case atStart => exact ⟨0, by omega, rfl, HF0, HB5⟩
  case round =>
    obtain ⟨i, hi2, rfl, HFG, HBW⟩ := hrel
    clear HF0 HB5
    by_cases hlt : i < c
    · obtain ⟨b, off, rfl, hb, ra, rc, hc1, _, hrw⟩ := (HV.out.below HBW.out).at i hlt
      have hlen := gok_len (HALL.out i hlt)
      rw [hlen] at hc1 hrw
      have hsp := fun w' (h : Below wr.heap.size wr w') => spend_any ra rc (L.getD i []) room w' (HALL.out i hlt) (hrw.below h) hrm.1 (by omega)
      have HFI : Hid (fr i = pls (chan (L.getD i []) room)) := HP.out i
      have HIC : Hid (i < c) := hlt
      have j1 : (0 : Int) ≤ (i : Int) := by omega
      have j2 : (i : Int) < (c : Int) := by omega
      have j3 : IntKind.i64.wrap (i : Int) = i := wraps_i64 _ (by omega) (by omega)
      rw [← HFI.out] at hsp
      clear hlen hrw
      generalize L.getD i [] = g at *
      go_wp2
      go_region_with (first | (go_at_call 73; refine (hro _).mono ?_; rintro e w9 ⟨rfl, h9⟩; have h9 := h9.symm; subst h9) | (go_at_call 72; refine (hsp _ (by first | exact (Below.refl _ _).drew | exact Below.refl _ _)).mono ?_; rintro e y1 ⟨G, rfl, hG, hB1, e1⟩; have hy1 : Below wr.heap.size wr y1 := (by first | exact drew_below e1 | exact e1); have HFG2 := hid (HFG.out.below hy1); obtain ⟨r2, hc2, hf2⟩ := HFG2.out.cell i HIC.out; have HB1 := hid hB1; have HY1 := hid hy1; have hG2 : wr.heap.size ≤ G := hG))
      all_goals go_wp2
      all_goals exact ⟨⟨i + 1, by omega, by go_num, HFG2.out.put HIC.out (Rx.of_blk HB1.out (by rw [HFI.out]; exact pls_len _) (Nat.le_refl _) (fun e => by have e2 := Option.some.inj e; have e3 := HFG.out.lt; omega)), bset1 (bthen' HBW.out HY1.out) w.heap.size i _ (Nat.le_refl _)⟩, by simp [intOf]; omega⟩
    · obtain rfl : i = c := by omega
      have HR := hid (Fg.fr (cc := i) HFG.out)
      clear hlt HFG HV
      go_wp2
      go_ret2
      exact ⟨_, rfl, HR.out, HBW.out⟩
end Go.Proofs.YtidppkbphkcmeaaGreat
/- Contracts: one pulse more, what pulses cost, whether a band may have one more, by the document. -/
namespace Go.Proofs.YtidppkbphkcmeaaGreat
open Go.RowKit
set_option linter.unusedVariables false
set_option linter.unusedSimpArgs false

theorem rw_pls {w : World} {a : Option Addr} {c : Nat} {f : Nat → Nat} (hv : Rw .i64 w (.slice a 5 c) (pls f)) : ∃ b off, a = some ⟨b, off, none⟩ ∧ b < w.heap.size ∧ ∀ i, i < 5 → w.cell? ⟨b, off + i, none⟩ = some (.int .i64 (f i : Nat)) := by
  have hl := pls_len f
  have hv2 := hv
  rw [← hl] at hv2
  obtain ⟨b, off, rfl, hb, -⟩ := hv2.at 0 (by omega)
  refine ⟨b, off, rfl, hb, fun i hi => ?_⟩
  obtain ⟨b', off', he, _, h⟩ := hv2.at i (by omega)
  simp only [Option.some.injEq, Addr.mk.injEq, and_true] at he
  obtain ⟨rfl, rfl⟩ := he
  rw [pls_at f i hi] at h
  exact h

set_option maxRecDepth 10000 in
set_option maxHeartbeats 1000000 in
theorem rmore_any (a : Option Addr) (cap b : Nat) (f : Nat → Nat) (w : World) (hv : Rw .i64 w (.slice a 5 cap) (pls f)) (hb : b < 5) (hf : f b ≤ 1000) : Calls Tryz.prog 93 #[.slice a 5 cap, .int .i64 (b : Nat)] w fun e w' => ∃ g c, e = .returned (.slice (some ⟨g, 0, none⟩) 5 c) ∧ w.heap.size ≤ g ∧ Hl .i64 3 w' g (pls (up f b)) ∧ Below w.heap.size w w' := by
  obtain ⟨i0, hi, hz0, hz1, hz2⟩ := info_parts info_int_c
  obtain ⟨b0, off, rfl, hb0, hc0⟩ := rw_pls hv
  have HV := hid hv
  have HX := hid (pls_len f)
  have HB := hid hb
  have HSET := hid (pls_set f b hb)
  have HAT := hid (pls_at f b hb)
  have i1 : (0 : Int) ≤ (b : Int) := by omega
  have i2 : (b : Int) < 5 := by omega
  have i3 : IntKind.i64.wrap (b : Int) = b := wraps_i64 _ (by omega) (by omega)
  have i4 : IntKind.i64.wrap ((f b : Int) + 1) = (f b : Int) + 1 := wraps_i64 _ (by omega) (by omega)
  clear hv hc0
  generalize pls f = x at *
  go_enter Tryz.func93, Tryz.ntmps93
  go_wp2_with (at_builtin; refine wpList_append_rw rfl _ _ _ rfl w.heap.size 3 i0 (.int .i64 0) 8 Tryz.underlying45 hi hz0 hz1 hz2 rfl .i64 _ 0 [] rfl (own_empty (Nat.le_refl _)) (some ⟨b0, off, none⟩) cap x (by rw [HX.out]; rfl) (by rw [HX.out]; exact HV.out.below (below1 _ _)) (by intro h; cases h) (by rw [HX.out]; unfold maxLen; omega) (by rw [HX.out]; omega) (by simp) ?_)
  intro v8 w5 hown8 hgrow8
  have hb8 : Below w.heap.size w w5 := ((Below.refl _ _).alloc (Nat.le_refl _) _).grown hgrow8 (by simp) (fun k hk => by simp [Value.ownBlock] at hk; omega)
  have hown8 : w5.ownsRow w.heap.size 3 1 v8 5 (x.map (Value.int .i64)) := by
    have h := hown8
    rw [HX.out] at h
    exact h
  obtain ⟨g, c, rfl, hg, hgc, hhl⟩ := Hl.of_owns hown8 (by omega)
  have HH := hid hhl
  have HB8 := hid hb8
  have q1 := hhl.cell b (by rw [HX.out]; exact hb)
  have q2 := hhl.free b
  rw [HAT.out] at q1
  clear hown8 hgrow8 hhl hb8
  go_wp2
  go_ret
  refine ⟨g, c, rfl, hg, ?_, HB8.out.setCell (p := ⟨g, b, none⟩) hg _⟩
  rw [← HSET.out]
  exact HH.out.set b _

set_option maxRecDepth 10000 in
set_option maxHeartbeats 1000000 in
theorem rspent_any (a : Option Addr) (cap : Nat) (f : Nat → Nat) (w : World) (hv : Rw .i64 w (.slice a 5 cap) (pls f)) (hf : ∀ b, b < 5 → f b ≤ 12) : Calls Tryz.prog 107 #[.slice a 5 cap] w fun e w' => e = .returned (.int .i64 (sp f : Nat)) ∧ Below w.heap.size w w' := by
  obtain ⟨b0, off, rfl, hb0, hc0⟩ := rw_pls hv
  have HC := hid hc0
  have HF := hid hf
  have HS : Hid (∀ j, spn f (j + 1) = spn f j + co j (f j)) := fun j => rfl
  have HLE : Hid (∀ j, j ≤ 5 → spn f j ≤ 64 * j) := fun j hj => spn_le f (fun b hb => Nat.le_trans (hf b hb) (by omega)) j hj
  have HCO : Hid (∀ j, j < 5 → co j (f j) ≤ 64) := fun j hj => co_le j (f j) hj (Nat.le_trans (hf j hj) (by omega))
  have HE : Hid (spn f 5 = sp f) := rfl
  have H0 : Hid (spn f 0 = 0) := rfl
  generalize spn f = q at *
  generalize sp f = R at *
  clear hv hc0 hf
  go_enter Tryz.func107, Tryz.ntmps107
  go_wp2
  go_loopw [3, 4] (fun n i wr => ∃ j : Nat, j ≤ 5 ∧ i = .int .i64 j ∧ n = .int .i64 (q j : Nat) ∧ Hid (Below w.heap.size w wr)) (fun _ i _ => 5 - (intOf i).toNat)
  case atStart => exact ⟨0, by omega, rfl, by rw [H0.out]; rfl, Below.refl _ _⟩
  case round =>
    obtain ⟨j, hj, rfl, rfl, HBR⟩ := hrel
    by_cases hlt : j < 5
    · have hk := HF.out j hlt
      have hwd := fun w => rwidth_b j hlt w
      have hco := fun w => rcost_b j (f j) hlt hk w
      have hK : ∀ w', Below wr.heap.size wr w' → w'.cell? ⟨b0, off + j, none⟩ = some (.int .i64 (f j : Nat)) := fun w' h => ((bcell (bthen' HBR.out h)).1 _ _ hb0).trans (HC.out j hlt)
      have HQ : Hid (q (j + 1) = q j + co j (f j)) := HS.out j
      have l1 := HLE.out j hj
      have l2 := HCO.out j hlt
      have i1 : (0 : Int) ≤ (j : Int) := by omega
      have i2 : (j : Int) < 5 := by omega
      have i3 : IntKind.i64.wrap (j : Int) = j := wraps_i64 _ (by omega) (by omega)
      have i4 : IntKind.i64.wrap ((q j : Int) + (co j (f j) : Int)) = (q j : Int) + (co j (f j) : Int) := wraps_i64 _ (by omega) (by omega)
      generalize co j (f j) = C at *
      generalize hD : ((wd j : Nat) : Int) = D at *
      generalize f j = K at *
      generalize hqj : q j = Q at *
      clear hD hk hqj
      go_wp2
      go_region_held3 (fun w' => w'.cell? ⟨b0, off + j, none⟩ = some (.int .i64 K)) (exact hK _ (by first | exact hy1 | exact (Below.refl _ _).drew | exact Below.refl _ _)) (first | (go_at_call 27; refine (hwd _).mono ?_; rintro e w9 ⟨rfl, h9⟩; have h9 := h9.symm; subst h9) | (go_at_call 117; refine (hco _).mono ?_; rintro e y1 ⟨rfl, e1⟩; have hy1 : Below wr.heap.size wr y1 := (by first | exact drew_below e1 | exact e1)))
      go_wp2
      exact ⟨⟨j + 1, by omega, by go_num, by rw [HQ.out]; go_num, bthen' HBR.out hy1⟩, by simp [intOf]; omega⟩
    · obtain rfl : j = 5 := by omega
      rw [HE.out]
      clear HS HLE HCO HF HC H0
      go_wp2
      go_ret
      exact ⟨rfl, HBR.out⟩
end Go.Proofs.YtidppkbphkcmeaaGreat
/- Contracts: may a band have one more, the pulses of a channel, by the document. -/
namespace Go.Proofs.YtidppkbphkcmeaaGreat
open Go.RowKit
set_option linter.unusedVariables false
set_option linter.unusedSimpArgs false

theorem may_split {g : List Int} {f : Nat → Nat} {room : Int} {b : Nat} (h1 : 0 < g.getD b 0) (h2 : f b < mx b) : mayB g f room b = decide ((sp (up f b) : Int) ≤ room) := by
  unfold mayB
  exact decide_eq_decide.2 ⟨fun h => h.2.2, fun h => ⟨h1, h2, h⟩⟩
theorem row_at5 {w : World} {a : Option Addr} {c : Nat} {g : List Int} (hl : g.length = 5) (hv : Rw .i64 w (.slice a 5 c) g) : ∃ b off, a = some ⟨b, off, none⟩ ∧ b < w.heap.size ∧ ∀ i, i < 5 → w.cell? ⟨b, off + i, none⟩ = some (.int .i64 (g.getD i 0)) := by
  have hv2 := hv
  rw [← hl] at hv2
  obtain ⟨b, off, rfl, hb, -⟩ := hv2.at 0 (by omega)
  refine ⟨b, off, rfl, hb, fun i hi => ?_⟩
  obtain ⟨b', off', he, _, h⟩ := hv2.at i (by omega)
  simp only [Option.some.injEq, Addr.mk.injEq, and_true] at he
  obtain ⟨rfl, rfl⟩ := he
  exact h

set_option maxRecDepth 10000 in
set_option maxHeartbeats 2000000 in
theorem rmay_any (a : Option Addr) (c : Nat) (a2 : Option Addr) (c2 b : Nat) (g : List Int) (f : Nat → Nat) (room : Int) (w : World) (hl : g.length = 5) (hv : Rw .i64 w (.slice a 5 c) g) (hv2 : Rw .i64 w (.slice a2 5 c2) (pls f)) (hb : b < 5) (hf : ∀ b, b < 5 → f b ≤ 12) : Calls Tryz.prog 92 #[.slice a 5 c, .slice a2 5 c2, .int .i64 (b : Nat), .int .i64 room] w fun e w' => e = .returned (.bool (mayB g f room b)) ∧ Below w.heap.size w w' := by
  obtain ⟨b0, off, rfl, hb0, hc0⟩ := row_at5 hl hv
  obtain ⟨b1, off1, rfl, hb1, hc1⟩ := rw_pls hv2
  have d0 := hc0 b hb
  have d1 := hc1 b hb
  have hwd := fun w => rwidth_b b hb w
  have hw1 := wd_pos hb
  have hmx : wd b = 1 ∧ mx b = 1 ∨ wd b ≠ 1 ∧ mx b = 12 := by unfold mx; split <;> omega
  have hfb := hf b hb
  have i1 : (0 : Int) ≤ (b : Int) := by omega
  have i2 : (b : Int) < 5 := by omega
  have i3 : IntKind.i64.wrap (b : Int) = b := wraps_i64 _ (by omega) (by omega)
  by_cases h1 : 0 < g.getD b 0
  · by_cases h2 : f b < mx b
    · have hmo := rmore_any (some ⟨b1, off1, none⟩) c2 b f w hv2 hb (by omega)
      have hup : ∀ i, i < 5 → up f b i ≤ 12 := fun i hi => by
        by_cases e : i = b
        · subst e; rw [up_at]; omega
        · rw [up_no f e]; exact hf i hi
      have HSP : Hid (∀ w1 g1 c1, Hl .i64 3 w1 g1 (pls (up f b)) → Calls Tryz.prog 107 #[.slice (some ⟨g1, 0, none⟩) 5 c1] w1 fun e w' => e = .returned (.int .i64 (sp (up f b) : Nat)) ∧ Below w1.heap.size w1 w') := fun w1 g1 c1 h => rspent_any _ _ _ w1 (h.rw (pls_len _)) hup
      rw [may_split h1 h2]
      generalize sp (up f b) = P at *
      generalize pls (up f b) = y at *
      generalize g.getD b 0 = x at *
      rcases hmx with ⟨e1, e2⟩ | ⟨e1, e2⟩
      · have h0 : f b = 0 := by omega
        rw [h0] at d1
        rw [e1] at hwd
        clear hc0 hc1 hv hv2 hf hfb h2 h0 e1 e2 hw1 hup
        have k1 : decide (x < 1) = false := decide_eq_false (by omega)
        clear h1
        go_enter Tryz.func92, Tryz.ntmps92
        go_wp2_with (first | (go_at_call 27; refine (hwd _).mono ?_; rintro e w9 ⟨rfl, h9⟩; have h9 := h9.symm; subst h9) | (go_at_call 93; refine hmo.mono ?_; rintro e y1 ⟨g1, c3, rfl, hg1, hh1, hy1⟩; have hsp := HSP.out y1 g1 c3 hh1) | (go_at_call 107; refine hsp.mono ?_; rintro e y2 ⟨rfl, hy2⟩))
        go_ret
        exact ⟨rfl, bthen' hy1 hy2⟩
      · have k1 : decide (x < 1) = false := decide_eq_false (by omega)
        have k2 : decide ((12 : Int) ≤ (f b : Int)) = false := decide_eq_false (by omega)
        have k3 : (((wd b : Nat) : Int) == 1) = false := by simp; omega
        generalize ((wd b : Nat) : Int) = D at *
        generalize (f b : Int) = K at *
        clear hc0 hc1 hv hv2 hf hfb h2 e1 e2 hw1 hup h1
        go_enter Tryz.func92, Tryz.ntmps92
        go_wp2_with (first | (go_at_call 27; refine (hwd _).mono ?_; rintro e w9 ⟨rfl, h9⟩; have h9 := h9.symm; subst h9) | (go_at_call 93; refine hmo.mono ?_; rintro e y1 ⟨g1, c3, rfl, hg1, hh1, hy1⟩; have hsp := HSP.out y1 g1 c3 hh1) | (go_at_call 107; refine hsp.mono ?_; rintro e y2 ⟨rfl, hy2⟩))
        go_ret
        exact ⟨rfl, bthen' hy1 hy2⟩
    · rw [may_no (fun h => h2 h.2.1)]
      generalize g.getD b 0 = x at *
      have k1 : decide (x < 1) = false := decide_eq_false (by omega)
      by_cases h3 : 12 ≤ f b
      · have k2 : decide ((12 : Int) ≤ (f b : Int)) = true := decide_eq_true (by omega)
        generalize (f b : Int) = K at *
        clear hmx hc0 hc1 hv hv2 hf hfb h2 h3 hw1 h1
        go_enter Tryz.func92, Tryz.ntmps92
        go_wp2_with fail
        go_ret
        exact ⟨rfl, Below.refl _ _⟩
      · have k2 : decide ((12 : Int) ≤ (f b : Int)) = false := decide_eq_false (by omega)
        have e1 : wd b = 1 := by omega
        have k3 : decide ((0 : Int) < (f b : Int)) = true := decide_eq_true (by omega)
        rw [e1] at hwd
        generalize (f b : Int) = K at *
        clear hmx hc0 hc1 hv hv2 hf hfb h2 h3 hw1 h1 e1
        go_enter Tryz.func92, Tryz.ntmps92
        go_wp2_with (go_at_call 27; refine (hwd _).mono ?_; rintro e w9 ⟨rfl, h9⟩; have h9 := h9.symm; subst h9)
        go_ret
        exact ⟨rfl, Below.refl _ _⟩
  · rw [may_no (fun h => h1 h.1)]
    generalize g.getD b 0 = x at *
    have k1 : decide (x < 1) = true := decide_eq_true (by omega)
    generalize (f b : Int) = K at *
    clear hmx hc0 hc1 hv hv2 hf hfb hw1 h1
    go_enter Tryz.func92, Tryz.ntmps92
    go_wp2_with fail
    go_ret
    exact ⟨rfl, Below.refl _ _⟩

/-- The best band so far, as the document's walk has it. -/
def atI : Option Nat → Int
  | none => -1
  | some a => (a : Nat)
def beI (w : Nat → Int) : Option Nat → Int
  | none => 0
  | some a => w a
theorem hlit5 (w : World) (x y z u v : Int) (t : TypeId) : Hl .i64 t (w.alloc (.cells #[.int .i64 x, .int .i64 y, .int .i64 z, .int .i64 u, .int .i64 v] t)) w.heap.size [x, y, z, u, v] := Hl.of_blk (heap_alloc_last w _)

set_option maxRecDepth 10000 in
set_option maxHeartbeats 4000000 in
theorem rchannel_any (a : Option Addr) (cap : Nat) (g : List Int) (room : Int) (w : World) (hg : gokB g = true) (hv : Rw .i64 w (.slice a 5 cap) g) (hr0 : 0 ≤ room) : Calls Tryz.prog 59 #[.slice a 5 cap, .int .i64 room] w fun e w' => ∃ p c, e = .returned (.slice (some ⟨p, 0, none⟩) 5 c) ∧ w.heap.size ≤ p ∧ Hl .i64 3 w' p (pls (chan g room)) ∧ Below w.heap.size w w' := by
  obtain ⟨b0, off, rfl, hb0, hc0⟩ := row_at5 (gok_len hg) hv
  have HC := hid hc0
  have HV := hid hv
  have HGL := hid (gok_len hg)
  clear hv hc0
  go_enter Tryz.func59, Tryz.ntmps59
  go_wp2
  have HL0 : Hid (Hl .i64 3 (w.alloc (.cells #[.int .i64 0, .int .i64 0, .int .i64 0, .int .i64 0, .int .i64 0] 3)) w.heap.size (pls fun _ => 0)) := hlit5 w 0 0 0 0 0 _
  have HB0 := hid (below1 w (.cells #[.int .i64 0, .int .i64 0, .int .i64 0, .int .i64 0, .int .i64 0] 3))
  generalize w.alloc (.cells #[.int .i64 0, .int .i64 0, .int .i64 0, .int .i64 0, .int .i64 0] 3) = w0 at *
  have HOK := hid (Okf.start g hr0)
  have HE : Hid (chan g room = endF g room fun _ => 0) := rfl
  generalize (fun _ => 0 : Nat → Nat) = f0 at *
  go_loopg [5] (rem5 f0) (fun k u wr => ∃ (f : Nat → Nat) (p c : Nat), k = rem5 f ∧ u = .slice (some ⟨p, 0, none⟩) 5 c ∧ w.heap.size ≤ p ∧ Hid (Okf g room f) ∧ Hid (chan g room = endF g room f) ∧ Hid (Hl .i64 3 wr p (pls f)) ∧ Hid (Below w.heap.size w wr))
  case atStart => exact ⟨f0, w.heap.size, 5, rfl, rfl, Nat.le_refl _, HOK, HE, HL0, HB0⟩
  case round =>
    clear HOK HE HL0 HB0
    obtain ⟨f, p, c, rfl, rfl, hp, HOK, HE, HL, HBW⟩ := hrel
    obtain ⟨W1, rfl⟩ : ∃ x, x = wr := ⟨wr, rfl⟩
    have hf12 := fun b hb => HOK.out.le b hb
    have HMAY : Hid (∀ b, b < 5 → ∀ w1, Below W1.heap.size W1 w1 → Calls Tryz.prog 92 #[.slice (some ⟨b0, off, none⟩) 5 cap, .slice (some ⟨p, 0, none⟩) 5 c, .int .i64 (b : Nat), .int .i64 room] w1 fun e w' => e = .returned (.bool (mayB g f room b)) ∧ Below w1.heap.size w1 w') := fun b hb w1 h => rmay_any _ _ _ _ b g f room w1 HGL.out (HV.out.below (bthen' HBW.out h)) ((HL.out.below h).rw (pls_len _)) hb hf12
    have HGC : Hid (∀ b, b < 5 → ∀ w1, Below W1.heap.size W1 w1 → w1.cell? ⟨b0, off + b, none⟩ = some (.int .i64 (g.getD b 0))) := fun b hb w1 h => ((bcell (bthen' HBW.out h)).1 _ _ hb0).trans (HC.out b hb)
    have HKC : Hid (∀ b, b < 5 → ∀ w1, Below W1.heap.size W1 w1 → w1.cell? ⟨p, b, none⟩ = some (.int .i64 (f b : Nat))) := fun b hb w1 h => by
      have := (HL.out.below h).cell b (by rw [pls_len]; exact hb)
      rw [pls_at f b hb] at this
      exact this
    have HF := hid hf12
    have HGB : Hid (∀ b, b < 5 → 0 ≤ g.getD b 0 ∧ g.getD b 0 ≤ 44) := fun b hb => gok_bd hg b hb
    have HST : Hid (∀ j, bst (mayB g f room) (wor g f) (j + 1) = if mayB g f room j = true then bstep (wor g f) (bst (mayB g f room) (wor g f) j) j else bst (mayB g f room) (wor g f) j) := fun j => rfl
    have HS0 : Hid (bst (mayB g f room) (wor g f) 0 = none) := rfl
    clear hf12
    go_wp2
    go_loopw [6, 7, 8] (fun x y i wr => ∃ j : Nat, j ≤ 5 ∧ i = .int .i64 j ∧ x = .int .i64 (atI (bst (mayB g f room) (wor g f) j)) ∧ y = .int .i64 (beI (wor g f) (bst (mayB g f room) (wor g f) j)) ∧ Hid (Below W1.heap.size W1 wr)) (fun _ _ i _ => 5 - (intOf i).toNat)
    case atStart => exact ⟨0, by omega, rfl, by rw [HS0.out]; rfl, by rw [HS0.out]; rfl, Below.refl _ _⟩
    case round =>
      obtain ⟨j, hj, rfl, rfl, rfl, HBR⟩ := hrel
      by_cases hlt : j < 5
      · have d0 := HGC.out j hlt wr HBR.out
        have d1 := HKC.out j hlt wr HBR.out
        have hwd := fun w => rwidth_b j hlt w
        have hfj := HF.out j hlt
        obtain ⟨g1, g2⟩ := HGB.out j hlt
        obtain ⟨w1, w2⟩ := wd_pos hlt
        have hmay := fun n => HMAY.out j hlt (wr.drewN n) (drewN_below HBR.out n)
        have hstj := HST.out j
        have i1 : (0 : Int) ≤ (j : Int) := by omega
        have i2 : (j : Int) < 5 := by omega
        have i3 : IntKind.i64.wrap (j : Int) = j := wraps_i64 _ (by omega) (by omega)
        have hq : 16 * f j / wd j ≤ 192 := Nat.le_trans (Nat.div_le_self _ _) (by omega)
        have hR : 8 * g.getD j 0 - ((16 * f j / wd j : Nat) : Int) = wor g f j := rfl
        have t1 : (16 * (f j : Int)).tdiv (wd j : Nat) = ((16 * f j / wd j : Nat) : Int) := by
          rw [Int.tdiv_eq_ediv_of_nonneg (by omega)]; simp
        have t2 : (((wd j : Nat) : Int) == 0) = false := by simp; omega
        generalize hO2 : bst (mayB g f room) (wor g f) (j + 1) = o2 at *
        generalize bst (mayB g f room) (wor g f) j = o at *
        generalize mayB g f room j = mj at *
        generalize wor g f = wo at *
        generalize hRj : wo j = R at *
        have HRJ := hid hRj
        have HO2 := hid hO2
        clear hRj hO2
        generalize hA : atI o = A at *
        generalize hB : beI wo o = B at *
        have HA := hid hA
        have HB := hid hB
        clear hA hB
        generalize 16 * f j / wd j = q at *
        generalize g.getD j 0 = x at *
        generalize f j = k at *
        obtain ⟨d, hd⟩ : ∃ d : Int, ((wd j : Nat) : Int) = d := ⟨_, rfl⟩
        rw [hd] at hwd t1 t2
        have hd1 : 1 ≤ d := by omega
        have hd2 : d ≤ 16 := by omega
        have r1 : -200 ≤ R := by omega
        have r2 : R ≤ 400 := by omega
        clear hd w1 w2
        cases mj with
        | false =>
          have HO : Hid (o2 = o) := by unfold Hid; rw [hstj]; rfl
          clear hstj
          go_wp2
          go_quiet (first | (go_at_call 27; exact Calls.quiet_of_same (hwd _)))
          go_wp2_with (go_at_call 92; refine (hmay _).mono ?_; rintro e y1 ⟨rfl, hy1⟩)
          exact ⟨⟨j + 1, by omega, by go_num, by rw [HO2.out, HO.out, HA.out], by rw [HO2.out, HO.out, HB.out], bthen' (drewN_below HBR.out _) hy1⟩, by simp [intOf]; omega⟩
        | true =>
          cases o with
          | none =>
            have HO : Hid (o2 = some j) := by unfold Hid; rw [hstj]; rfl
            have hA1 : A = -1 := HA.out.symm
            have k1 : decide (A < 0) = true := decide_eq_true (by omega)
            clear hstj hA1
            go_wp2
            go_quiet (first | (go_at_call 27; exact Calls.quiet_of_same (hwd _)))
            go_wp2_with (go_at_call 92; refine (hmay _).mono ?_; rintro e y1 ⟨rfl, hy1⟩)
            exact ⟨⟨j + 1, by omega, by go_num, by rw [HO2.out, HO.out]; rfl, by rw [HO2.out, HO.out, ← HRJ.out]; rfl, bthen' (drewN_below HBR.out _) hy1⟩, by simp [intOf]; omega⟩
          | some a2 =>
            have hA1 : A = (a2 : Nat) := HA.out.symm
            have k1 : decide (A < 0) = false := decide_eq_false (by omega)
            have hB1 : wo a2 = B := HB.out
            by_cases hlt2 : B < R
            · have HO : Hid (o2 = some j) := by unfold Hid; rw [hstj, if_pos rfl]; simp only [bstep]; rw [if_pos (by rw [hB1, HRJ.out]; exact hlt2)]
              have k2 : decide (B < R) = true := decide_eq_true hlt2
              clear hstj hA1 hB1 hlt2
              go_wp2
              go_quiet (first | (go_at_call 27; exact Calls.quiet_of_same (hwd _)))
              go_wp2_with (go_at_call 92; refine (hmay _).mono ?_; rintro e y1 ⟨rfl, hy1⟩)
              exact ⟨⟨j + 1, by omega, by go_num, by rw [HO2.out, HO.out]; rfl, by rw [HO2.out, HO.out, ← HRJ.out]; rfl, bthen' (drewN_below HBR.out _) hy1⟩, by simp [intOf]; omega⟩
            · have HO : Hid (o2 = some a2) := by unfold Hid; rw [hstj, if_pos rfl]; simp only [bstep]; rw [if_neg (by rw [hB1, HRJ.out]; exact hlt2)]
              have k2 : decide (B < R) = false := decide_eq_false hlt2
              clear hstj hA1 hB1 hlt2
              go_wp2
              go_quiet (first | (go_at_call 27; exact Calls.quiet_of_same (hwd _)))
              go_wp2_with (go_at_call 92; refine (hmay _).mono ?_; rintro e y1 ⟨rfl, hy1⟩)
              exact ⟨⟨j + 1, by omega, by go_num, by rw [HO2.out, HO.out, HA.out], by rw [HO2.out, HO.out, HB.out], bthen' (drewN_below HBR.out _) hy1⟩, by simp [intOf]; omega⟩
      · obtain rfl : j = 5 := by omega
        cases ho : bst (mayB g f room) (wor g f) 5 with
        | none =>
          have HR : Hid (chan g room = f) := by unfold Hid; rw [HE.out]; exact endF_none ho
          have k1 : atI none = -1 := rfl
          clear ho HST HS0 HMAY
          go_wp2
          go_ret
          exact ⟨p, c, rfl, hp, by rw [HR.out]; exact HL.out.below HBR.out, bthen' HBW.out HBR.out⟩
        | some x =>
          obtain ⟨hx5, hxm⟩ := bst_some ho
          have hx12 := may_lt hxm
          have HOK2 := hid (HOK.out.up hxm)
          have HE2 : Hid (chan g room = endF g room (up f x)) := by unfold Hid; rw [HE.out]; exact endF_some ho
          have hrem := rem_up f x hx5 hx12
          have hmo := rmore_any (some ⟨p, 0, none⟩) c x f wr ((HL.out.below HBR.out).rw (pls_len _)) hx5 (by omega)
          have k1 : atI (some x) = (x : Nat) := rfl
          clear ho HST HS0 HMAY
          go_wp2_with (go_at_call 93; refine hmo.mono ?_; rintro e y1 ⟨p2, c2, rfl, hp2, hl2, hy2⟩)
          go_roundg (rem5 (up f x))
          case measure => omega
          case rel => exact ⟨up f x, p2, c2, rfl, rfl, by have := HBR.out.size; have := HBW.out.size; omega, HOK2, HE2, hl2, bthen' (bthen' HBW.out HBR.out) hy2⟩
end Go.Proofs.YtidppkbphkcmeaaGreat
/- Contracts: all channels' pulses, gains for each channel, lists that are the same, more than is looked at, by the document. -/
namespace Go.Proofs.YtidppkbphkcmeaaGreat
open Go.RowKit
set_option linter.unusedVariables false
set_option linter.unusedSimpArgs false

theorem info_irow : (Tryz.prog.info? 45).map (fun i => (i.zero, i.size, i.bytes)) = some (some (.slice none 0 0), 1, 24) := by kernel_rfl

set_option maxRecDepth 10000 in
set_option maxHeartbeats 4000000 in
theorem rpulses12_any {ok : Bool} (n : Int) (c : Nat) (a : Option Addr) (cap : Nat) (L : List (List Int)) (w : World) (hv : Fr ok w (.slice a c cap) L) (h : rtB n c = true) (hf : fairG c L = true) : Calls Tryz.prog 26 #[.int .i64 n, .int .i64 c, .slice a c cap] w fun e w' => ∃ v, e = .returned v ∧ Fr false w' v ((List.range c).map (pul (rmI n c) L)) ∧ Below w.heap.size w w' := by
  obtain ⟨i0, hi, hz0, hz1, hz2⟩ := info_parts info_irow
  obtain ⟨hl, hall⟩ := fair_iff.1 hf
  have hl : L.length = c := by omega
  have hro := fun w => rroom_any n c w
  obtain ⟨c1, c2⟩ : 1 ≤ c ∧ c ≤ 2 := by rcases rt_parts h with h | h <;> omega
  have hrm := rm_bd n c
  have HALL : Hid (∀ i, i < c → gokB (L.getD i []) = true) := fun i hi => hall i (by omega)
  have HP : Hid (∀ i, pul (rmI n c) L i = pls (chan (L.getD i []) (rmI n c))) := fun _ => rfl
  have HV := hid hv
  generalize pul (rmI n c) L = fr at *
  generalize rmI n c = room at *
  clear h hf hl hall hv
  go_enter Tryz.func26, Tryz.ntmps26
  go_wp2
  go_loopw [7, 8] (fun u p wr => ∃ (i : Nat) (vs : List Value) (oa : Option Addr) (oc : Nat), i ≤ c ∧ p = .int .i64 i ∧ u = .slice oa i oc ∧ Hid (Fo 45 w.heap.size wr (.slice oa i oc) i vs fr) ∧ Hid (Below w.heap.size w wr)) (fun _ p _ => c - (intOf p).toNat)
  case atStart => exact ⟨0, [], none, 0, by omega, rfl, rfl, Fo.nil _ _ _, Below.refl _ _⟩
  case round =>
    obtain ⟨i, vs, oa, oc, hi2, rfl, rfl, HFO, HBW⟩ := hrel
    by_cases hlt : i < c
    · obtain ⟨b, off, rfl, hb, ra, rc, hc1, _, hrw⟩ := HV.out.at i hlt
      have hlen := gok_len (HALL.out i hlt)
      rw [hlen] at hc1 hrw
      have hch := fun w' (h : Below w.heap.size w w') => rchannel_any ra rc (L.getD i []) room w' (HALL.out i hlt) (hrw.below h) hrm.1
      have HFI : Hid (fr i = pls (chan (L.getD i []) room)) := HP.out i
      have hfl : (fr i).length = 5 := by rw [HFI.out]; exact pls_len _
      have HFL := hid hfl
      rw [← HFI.out] at hch
      have HIC : Hid (i < c) := hlt
      have j1 : (0 : Int) ≤ (i : Int) := by omega
      have j2 : (i : Int) < (c : Int) := by omega
      have j3 : IntKind.i64.wrap (i : Int) = i := wraps_i64 _ (by omega) (by omega)
      have m1 : i + 1 ≤ maxLen := by unfold maxLen; omega
      have m2 : (i + 1) * 24 ≤ 140737488355328 := by omega
      have z1 := HBW.out.size
      have hK : ∀ w', Below w.heap.size w w' → w'.cell? ⟨b, off + i, none⟩ = some (.slice ra 5 rc) := fun w' h => ((bcell h).1 _ _ hb).trans hc1
      clear hlen hrw hfl hc1
      generalize L.getD i [] = g at *
      go_wp2
      go_region_held3 (fun w' => w'.cell? ⟨b, off + i, none⟩ = some (.slice ra 5 rc)) (first | exact hK _ hy3 | exact hK _ (bthen' hyw (below1 _ _)) | exact hK _ hyw | exact hK _ HBW.out.drew | exact hK _ HBW.out) (first | (go_at_call 60; refine (hro _).mono ?_; rintro e w9 ⟨rfl, h9⟩; have h9 := h9.symm; subst h9) | (go_at_call 59; refine (hch _ (by first | exact HBW.out.drew | exact HBW.out)).mono ?_; rintro e y1 ⟨G, c3, rfl, hG, hH1, e1⟩; have hy1 : Below wr.heap.size wr y1 := (by first | exact drew_below e1 | exact e1); have hyw := bthen' HBW.out hy1; have hownN := owns_new (owns_below HFO.out.1 hy1) (.cells #[.slice (some ⟨G, 0, none⟩) 5 c3] 45); have hm3 : w.heap.size ≤ (y1.alloc (.cells #[.slice (some ⟨G, 0, none⟩) 5 c3] 45)).drew.heap.size := (by have := hy1.size; simp; omega)) | (refine step_append_lies _ (by rfl) (.tmp 15) (.tmp 24) 22 (by rfl) w.heap.size 45 i0 (.slice none 0 0) 1 24 Tryz.underlying22 hi hz0 hz1 hz2 rfl (by decide) (.slice oa i oc) i vs (by rfl) hownN ⟨y1.heap.size, 0, none⟩ 1 1 [.slice (some ⟨G, 0, none⟩) 5 c3] (by rfl) rfl (cell_one_drew y1 _ _) (one_slice _ _ _) (by decide) m1 m2 hm3 (y1.heap.size + 1) (by simp) ?_; intro g3 c4 w3 hown3 hgrow3 hat3 hlt3; have hy3 : Below w.heap.size w w3 := (hyw.alloc hyw.size _).grown hgrow3 hm3 (fun q hq => (HFO.out.1.lt q hq).1)))
      go_wp2
      have HR : Hid (RwF wr.heap.size .i64 y1 (.slice (some ⟨G, 0, none⟩) 5 c3) (fr i)) := by
        have h := hH1.lt
        refine ⟨_, c3, by rw [HFL.out], .inr ⟨G, 0, rfl, hG, h, fun q hq => by rw [Nat.zero_add]; exact hH1.cell q hq⟩⟩
      have HF3 := hid (HFO.out.push hy1 HR.out hown3 hgrow3 hat3)
      exact ⟨⟨i + 1, _, _, _, by omega, by go_num, rfl, HF3, hy3⟩, by simp [intOf]; omega⟩
    · obtain rfl : i = c := by omega
      have HR := hid HFO.out.fr
      go_wp2
      go_ret
      exact ⟨_, rfl, HR.out, HBW.out⟩

set_option maxRecDepth 10000 in
set_option maxHeartbeats 1000000 in
theorem rfair12_any {ok : Bool} (c : Int) (a : Option Addr) (n cap : Nat) (L : List (List Int)) (w : World) (hn : L.length = n) (hmax : n ≤ 20) (hsm : ∀ i, i < n → (L.getD i []).length ≤ 100) (hv : Fr ok w (.slice a n cap) L) : Calls Tryz.prog 10 #[.int .i64 c, .slice a n cap] w fun e w' => e = .returned (.bool (fairG c L)) ∧ w' = w := by
  by_cases hc : (n : Int) = c
  · subst hc
    have HYES : Hid ((∀ i, i < n → gokB (L.getD i []) = true) → fairG n L = true) := fun h => fair_iff.2 ⟨by omega, fun i hi => h i (by omega)⟩
    have HNO : Hid (∀ i, i < n → gokB (L.getD i []) = false → fairG n L = false) := fun i hi h => fair_no fun hh => by have := hh.2 i (by omega); rw [h] at this; cases this
    have HAT : Hid (∀ i, i < n → ∃ b off, a = some ⟨b, off, none⟩ ∧ b < w.heap.size ∧ ∃ ra rc, w.cell? ⟨b, off + i, none⟩ = some (.slice ra (L.getD i []).length rc) ∧ (ok = true → (L.getD i []).length ≤ rc) ∧ Rw .i64 w (.slice ra (L.getD i []).length rc) (L.getD i [])) := fun i hi => hv.at i hi
    have HSM := hid hsm
    generalize fairG n L = R at *
    clear hn hv hsm
    go_enter Tryz.func10, Tryz.ntmps10
    go_wp2
    go_loop [5] (fun i => ∃ k : Nat, k ≤ n ∧ i = .int .i64 (k : Nat) ∧ Hid (∀ j, j < k → gokB (L.getD j []) = true)) (fun i => n - (intOf i).toNat)
    case atStart => exact ⟨0, by omega, rfl, fun j hj => by omega⟩
    case round =>
      obtain ⟨k, hk, rfl, HP⟩ := hrel
      by_cases hlt : k < n
      · obtain ⟨b, off, rfl, hb, ra, rc, hc1, _, hrw⟩ := HAT.out k hlt
        have hr := rright_any ra _ rc _ rfl (HSM.out k hlt) w hrw
        have i1 : (0 : Int) ≤ (k : Int) := by omega
        have i2 : (k : Int) < (n : Int) := by omega
        have i3 : IntKind.i64.wrap (k : Int) = k := wraps_i64 _ (by omega) (by omega)
        by_cases hg : gokB (L.getD k []) = true
        · have HP2 : Hid (∀ j, j < k + 1 → gokB (L.getD j []) = true) := fun j hj => by
            by_cases e : j < k
            · exact HP.out j e
            · obtain rfl : j = k := by omega
              exact hg
          rw [hg] at hr
          clear hg HAT hrw
          generalize (L.getD k []).length = m at *
          go_wp2_with (go_at_call 29; refine hr.mono ?_; rintro e w9 ⟨rfl, h9⟩; have h9 := h9.symm; subst h9)
          exact ⟨⟨k + 1, by omega, by go_num, HP2⟩, by simp [intOf]; omega⟩
        · have hg' : gokB (L.getD k []) = false := by simpa using hg
          have HR := hid (HNO.out k hlt hg')
          rw [hg'] at hr
          clear hg hg' HAT hrw HNO HYES HP
          generalize (L.getD k []).length = m at *
          go_wp2_with (go_at_call 29; refine hr.mono ?_; rintro e w9 ⟨rfl, h9⟩; have h9 := h9.symm; subst h9)
          go_ret
          exact ⟨ret_bool HR.out.symm, rfl⟩
      · obtain rfl : k = n := by omega
        have HR := hid (HYES.out HP.out)
        clear HAT hlt HYES HNO HP
        go_wp2
        go_ret
        exact ⟨ret_bool HR.out.symm, rfl⟩
  · have hR : fairG c L = false := fair_no fun h => hc (by omega)
    have hc' : ((n : Int) != c) = true := by simp; exact hc
    rw [hR]
    clear hR hc hv hn hsm
    go_enter Tryz.func10, Tryz.ntmps10
    go_wp2
    go_ret
    exact ⟨rfl, rfl⟩

/-- More than is looked at? -/
def greatG (L : List (List Int)) : Bool := decide (20 < L.length) || (List.range L.length).any fun i => decide (100 < (L.getD i []).length)
theorem great_no {L : List (List Int)} (h : greatG L = false) : L.length ≤ 20 ∧ ∀ i, i < L.length → (L.getD i []).length ≤ 100 := by
  unfold greatG at h
  rw [Bool.or_eq_false_iff, decide_eq_false_iff_not] at h
  refine ⟨by omega, fun i hi => ?_⟩
  have := List.any_eq_false.1 h.2 i (List.mem_range.2 hi)
  simp only [decide_eq_true_eq] at this
  omega
theorem great_at {L : List (List Int)} {i : Nat} (hi : i < L.length) (h : 100 < (L.getD i []).length) : greatG L = true := by
  unfold greatG
  rw [Bool.or_eq_true]
  exact .inr (List.any_eq_true.2 ⟨i, List.mem_range.2 hi, decide_eq_true h⟩)
theorem great_len {L : List (List Int)} (h : ∀ i, i < L.length → (L.getD i []).length ≤ 100) : greatG L = decide (20 < L.length) := by
  unfold greatG
  have : ((List.range L.length).any fun i => decide (100 < (L.getD i []).length)) = false := by
    rw [List.any_eq_false]
    intro i hi
    have := h i (List.mem_range.1 hi)
    simp only [decide_eq_true_eq]
    omega
  rw [this, Bool.or_false]
end Go.Proofs.YtidppkbphkcmeaaGreat
/- Contracts: lists of lists that are the same, the examples at the end of all statements. -/
namespace Go.Proofs.YtidppkbphkcmeaaGreat
open Go.RowKit
set_option linter.unusedVariables false
set_option linter.unusedSimpArgs false

set_option maxRecDepth 10000 in
set_option maxHeartbeats 2000000 in
theorem sameG_yes (k1 k2 : Bool) (v1 v2 : Value) (L : List (List Int)) (w : World) (h1 : Fr k1 w v1 L) (h2 : Fr k2 w v2 L) (hl : L.length ≤ 500) (hr : ∀ i, i < L.length → (L.getD i []).length ≤ 100) : Calls Tryz.prog 16 #[v1, v2] w fun e w' => e = .returned (.bool true) ∧ Below w.heap.size w w' := by
  obtain ⟨a1, c1, rfl, ha1⟩ := id h1
  obtain ⟨a2, c2, rfl, ha2⟩ := id h2
  obtain ⟨n, hn⟩ : ∃ n, L.length = n := ⟨_, rfl⟩
  rw [hn] at h1 h2 hl hr ⊢
  have H1 := hid h1
  have H2 := hid h2
  have HR := hid hr
  clear hn ha1 ha2 h1 h2 hr
  go_enter Tryz.func16, Tryz.ntmps16
  go_wp2
  go_loopw [5] (fun i wr => ∃ k : Nat, k ≤ n ∧ i = .int .i64 k ∧ Hid (Below w.heap.size w wr)) (fun i _ => n - (intOf i).toNat)
  case atStart => exact ⟨0, by omega, rfl, Below.refl _ _⟩
  case round =>
    obtain ⟨k, hk, rfl, HNX⟩ := hrel
    by_cases hlt : k < n
    · obtain ⟨b1, o1, rfl, hb1, r1, rc1, g1, _, w1⟩ := H1.out.at k hlt
      obtain ⟨b2, o2, rfl, hb2, r2, rc2, g2, _, w2⟩ := H2.out.at k hlt
      have hm := HR.out k hlt
      have hs := fun w' (h : Below w.heap.size w w') => same_yes_c _ _ _ w' (w1.below h) (w2.below h) hm
      have hK : ∀ w', Below w.heap.size w w' → w'.cell? ⟨b1, o1 + k, none⟩ = some (.slice r1 (L.getD k []).length rc1) ∧ w'.cell? ⟨b2, o2 + k, none⟩ = some (.slice r2 (L.getD k []).length rc2) := fun w' h => ⟨((bcell h).1 _ _ hb1).trans g1, ((bcell h).1 _ _ hb2).trans g2⟩
      have i1 : (0 : Int) ≤ (k : Int) := by omega
      have i2 : (k : Int) < (n : Int) := by omega
      have i3 : IntKind.i64.wrap (k : Int) = k := wraps_i64 _ (by omega) (by omega)
      clear w1 w2 g1 g2
      generalize (L.getD k []).length = m at *
      go_wp2
      go_region_held3 (fun w' => w'.cell? ⟨b1, o1 + k, none⟩ = some (.slice r1 m rc1) ∧ w'.cell? ⟨b2, o2 + k, none⟩ = some (.slice r2 m rc2)) (first | exact hK _ hyw | exact hK _ HNX.out.drew | exact hK _ HNX.out) (first | (go_at_call 49; refine (hs _ (by first | exact HNX.out.drew | exact HNX.out)).mono ?_; rintro e y1 ⟨rfl, e1⟩; have hy1 : Below wr.heap.size wr y1 := (by first | exact drew_below e1 | exact e1); have hyw := bthen' HNX.out hy1))
      go_wp2
      exact ⟨⟨k + 1, by omega, by go_num, hyw⟩, by simp [intOf]; omega⟩
    · go_wp2
      go_ret
      exact ⟨rfl, HNX.out⟩

/-- One list of five numbers, in a list. -/
theorem gr1 (w : World) (x y z u v : Int) (t1 t2 : TypeId) : Fr true ((w.alloc (.cells #[.int .i64 x, .int .i64 y, .int .i64 z, .int .i64 u, .int .i64 v] t1)).alloc (.cells #[.slice (some ⟨w.heap.size, 0, none⟩) 5 5] t2)) (.slice (some ⟨w.heap.size + 1, 0, none⟩) 1 1) [[x, y, z, u, v]] := by
  refine ⟨_, 1, rfl, .inr ⟨w.heap.size + 1, 0, rfl, by simp, fun i hi => ?_⟩⟩
  have hi : i = 0 := by simpa using hi
  subst hi
  refine ⟨.slice (some ⟨w.heap.size, 0, none⟩) 5 5, by simp [go_sem], ?_⟩
  have h := (hlit5 w x y z u v t1).rw (n := 5) (c := 5) rfl
  exact (Rx.of (xs := [x, y, z, u, v]) (c := 5) h (Nat.le_refl _)).below (below1 _ _)
theorem e_r1 : rtB 11 1 = true := by decide
theorem e_r2 : rtB 17 2 = true := by decide
theorem e_r3 : rtB 16 2 = false := by decide
theorem e_m1 : rmI 11 1 = 2 := by decide
theorem e_l1 : (List.range 1).map (pul 2 [[9, 0, 0, 0, 0]]) = [[1, 0, 0, 0, 0]] := by
  show [pul 2 [[9, 0, 0, 0, 0]] 0] = _
  unfold pul
  rw [show ([[9, 0, 0, 0, 0]] : List (List Int)).getD 0 [] = [9, 0, 0, 0, 0] from rfl, e_k1]
theorem e_l2 : (List.range 1).map (pul 2 [[0, 0, 9, 0, 0]]) = [[0, 0, 1, 0, 0]] := by
  show [pul 2 [[0, 0, 9, 0, 0]] 0] = _
  unfold pul
  rw [show ([[0, 0, 9, 0, 0]] : List (List Int)).getD 0 [] = [0, 0, 9, 0, 0] from rfl, e_k2]
theorem k1 (w : World) : Calls Tryz.prog 41 #[.int .i64 11, .int .i64 1, .slice (some ⟨w.heap.size + 1, 0, none⟩) 1 1] ((w.alloc (.cells #[.int .i64 9, .int .i64 0, .int .i64 0, .int .i64 0, .int .i64 0] 3)).alloc (.cells #[.slice (some ⟨w.heap.size, 0, none⟩) 5 5] 45)) fun e w' => ∃ G, e = .returned (.tuple #[.slice (some ⟨G, 0, none⟩) 1 1, .int .i64 0]) ∧ Fr true w' (.slice (some ⟨G, 0, none⟩) 1 1) [[1, 0, 0, 0, 0]] ∧ Below w.heap.size w w' := by
  refine Calls.mono (pulses_ok 11 1 _ 1 [[9, 0, 0, 0, 0]] _ (gr1 w 9 0 0 0 0 _ _) e_r1 (by decide)) ?_
  rintro e w' ⟨G, rfl, h, hB⟩
  have e1 : rmI 11 ((1 : Nat) : Int) = 2 := e_m1
  rw [e1, e_l1] at h
  exact ⟨G, rfl, h, bthen' (below2 _ _ _) hB⟩
theorem k2 (w : World) : Calls Tryz.prog 41 #[.int .i64 11, .int .i64 1, .slice (some ⟨w.heap.size + 1, 0, none⟩) 1 1] ((w.alloc (.cells #[.int .i64 0, .int .i64 0, .int .i64 9, .int .i64 0, .int .i64 0] 3)).alloc (.cells #[.slice (some ⟨w.heap.size, 0, none⟩) 5 5] 45)) fun e w' => ∃ G, e = .returned (.tuple #[.slice (some ⟨G, 0, none⟩) 1 1, .int .i64 0]) ∧ Fr true w' (.slice (some ⟨G, 0, none⟩) 1 1) [[0, 0, 1, 0, 0]] ∧ Below w.heap.size w w' := by
  refine Calls.mono (pulses_ok 11 1 _ 1 [[0, 0, 9, 0, 0]] _ (gr1 w 0 0 9 0 0 _ _) e_r1 (by decide)) ?_
  rintro e w' ⟨G, rfl, h, hB⟩
  have e1 : rmI 11 ((1 : Nat) : Int) = 2 := e_m1
  rw [e1, e_l2] at h
  exact ⟨G, rfl, h, bthen' (below2 _ _ _) hB⟩
theorem s1 (w : World) (G : Nat) (x y z u v : Int) (h : Fr true w (.slice (some ⟨G, 0, none⟩) 1 1) [[x, y, z, u, v]]) : Calls Tryz.prog 16 #[.slice (some ⟨G, 0, none⟩) 1 1, .slice (some ⟨w.heap.size + 1, 0, none⟩) 1 1] ((w.alloc (.cells #[.int .i64 x, .int .i64 y, .int .i64 z, .int .i64 u, .int .i64 v] 3)).alloc (.cells #[.slice (some ⟨w.heap.size, 0, none⟩) 5 5] 45)) fun e w' => e = .returned (.bool true) ∧ Below w.heap.size w w' := by
  refine Calls.mono (sameG_yes true true _ _ _ _ (h.below (below2 _ _ _)) (gr1 w x y z u v _ _) (by simp) (fun i hi => by have hi : i = 0 := (by simpa using hi); subst hi; simp)) ?_
  rintro e w' ⟨rfl, hB⟩
  exact ⟨rfl, bthen' (below2 _ _ _) hB⟩

/-- The rows that are told have five numbers each. -/
theorem pul_rows (c : Nat) (room : Int) (L : List (List Int)) (i : Nat) (hi : i < ((List.range c).map (pul room L)).length) : (((List.range c).map (pul room L)).getD i []).length ≤ 100 := by
  have hi : i < c := by simpa using hi
  rw [List.getD_eq_getElem?_getD]
  simp [hi, pul, pls_len]
theorem pul_at (c : Nat) (room : Int) (L : List (List Int)) (i : Nat) (hi : i < c) : ((List.range c).map (pul room L)).getD i [] = pls (chan (L.getD i []) room) := by
  rw [List.getD_eq_getElem?_getD]
  simp [hi, pul]
end Go.Proofs.YtidppkbphkcmeaaGreat
/- A region that draws its order, whose operations only read, and whose callees at most make memory: what its walk in the text's order wants. -/
namespace Go.Proofs.YtidppkbphkcmeaaGreat
open Go.RowKit Go.Sort
set_option linter.unusedVariables false
set_option linter.unusedSimpArgs false

theorem cellQ {w : World} {a : Addr} {v : Value} (h : w.cell? a = some v) : ∀ d os, (grow (redrawn w d) os).cell? a = some v := cell_regrown h
theorem callQ {P : Program} {f : FuncId} {args : Array Value} {v : Value} {w : World} (h : ∀ w', Below w.heap.size w w' → Calls P f args w' fun e w'' => e = .returned v ∧ Below w'.heap.size w' w'') : ∀ d os, Calls P f args (grow (redrawn w d) os) fun e w'' => e = .returned v ∧ ∃ p : Regrown, w'' = grow (redrawn w p.d) p.os := fun d os => Calls.regrown_of (h _ (below_regrown w d os))
theorem sameQ {P : Program} {f : FuncId} {args : Array Value} {v : Value} {w : World} (h : ∀ w', Calls P f args w' fun e w'' => e = .returned v ∧ w'' = w') : ∀ d os, Calls P f args (grow (redrawn w d) os) fun e w'' => e = .returned v ∧ ∃ p : Regrown, w'' = grow (redrawn w p.d) p.os :=
  callQ fun w' _ => (h w').mono (by rintro e w'' ⟨rfl, rfl⟩; exact ⟨rfl, Below.refl _ _⟩)

/-- Two lists in a list. -/
theorem gr2 (w : World) (v1 v2 : Value) (x y : List Int) (t : TypeId) (h1 : Rw .i64 w v1 x) (h2 : Rw .i64 w v2 y) : Fr false (w.alloc (.cells #[v1, v2] t)) (.slice (some ⟨w.heap.size, 0, none⟩) 2 2) [x, y] := by
  refine ⟨_, 2, rfl, .inr ⟨w.heap.size, 0, rfl, by simp, fun i hi => ?_⟩⟩
  have hi : i = 0 ∨ i = 1 := by have : i < 2 := hi; omega
  rcases hi with rfl | rfl
  · exact ⟨v1, by simp [go_sem], (Rx.ofF h1.any (fun b e => by cases e)).below (below1 _ _)⟩
  · exact ⟨v2, by simp [go_sem], (Rx.ofF h2.any (fun b e => by cases e)).below (below1 _ _)⟩
theorem fair2 (x y : List Int) : fairG 2 [x, y] = (gokB x && gokB y) := by
  unfold fairG
  show (decide ((2 : Int) = 2) && ((List.range 2).all fun i => gokB ([x, y].getD i []))) = _
  simp [List.range_succ]
theorem p2_ok (n : Int) (v1 v2 : Value) (x y : List Int) (w : World) (hr : rtB n 2 = true) (hx : gokB x = true) (hy : gokB y = true) (h1 : Rw .i64 w v1 x) (h2 : Rw .i64 w v2 y) : Calls Tryz.prog 41 #[.int .i64 n, .int .i64 2, .slice (some ⟨w.heap.size, 0, none⟩) 2 2] (w.alloc (.cells #[v1, v2] 45)) fun e w' => ∃ (G : Nat) (ra rb : Option Addr) (rc rd : Nat), e = .returned (.tuple #[.slice (some ⟨G, 0, none⟩) 2 2, .int .i64 0]) ∧ G < w'.heap.size ∧ w'.cell? ⟨G, 0, none⟩ = some (.slice ra 5 rc) ∧ w'.cell? ⟨G, 1, none⟩ = some (.slice rb 5 rd) ∧ Rw .i64 w' (.slice ra 5 rc) (pls (chan x (rmI n 2))) ∧ Rw .i64 w' (.slice rb 5 rd) (pls (chan y (rmI n 2))) ∧ Below w.heap.size w w' := by
  refine Calls.mono (pulses_ok n 2 _ 2 [x, y] _ (gr2 w v1 v2 x y _ h1 h2) hr (by rw [show (((2 : Nat) : Int)) = 2 from rfl, fair2, hx, hy]; rfl)) ?_
  rintro e w' ⟨G, rfl, hf, hB⟩
  obtain ⟨b0, o0, e0, hb0, ra, rc, c0, _, r0⟩ := hf.at 0 (by omega)
  obtain ⟨b1, o1, e1, hb1, rb, rd, c1, _, r1⟩ := hf.at 1 (by omega)
  simp only [Option.some.injEq, Addr.mk.injEq, and_true] at e0 e1
  obtain ⟨rfl, rfl⟩ := e0
  obtain ⟨rfl, rfl⟩ := e1
  rw [pul_at 2 _ _ 0 (by omega), pls_len] at c0 r0
  rw [pul_at 2 _ _ 1 (by omega), pls_len] at c1 r1
  exact ⟨G, ra, rb, rc, rd, rfl, hb0, by simpa using c0, by simpa using c1, r0, r1, bthen' (below1 _ _) hB⟩
theorem p2_no (n : Int) (v1 v2 : Value) (x y : List Int) (w : World) (h : (rtB n 2 && (gokB x && gokB y)) = false) (h1 : Rw .i64 w v1 x) (h2 : Rw .i64 w v2 y) : Calls Tryz.prog 41 #[.int .i64 n, .int .i64 2, .slice (some ⟨w.heap.size, 0, none⟩) 2 2] (w.alloc (.cells #[v1, v2] 45)) fun e w' => e = .returned (.tuple #[.slice none 0 0, .int .i64 1]) ∧ Below w.heap.size w w' := by
  refine Calls.mono (pulses_no n 2 _ 2 2 [x, y] _ rfl (by omega) (gr2 w v1 v2 x y _ h1 h2) (by rw [fair2]; exact h)) ?_
  rintro e w' ⟨rfl, rfl⟩
  exact ⟨rfl, below1 _ _⟩
theorem p2_any (n : Int) (v1 v2 : Value) (x y : List Int) (w : World) (h1 : Rw .i64 w v1 x) (h2 : Rw .i64 w v2 y) : Calls Tryz.prog 41 #[.int .i64 n, .int .i64 2, .slice (some ⟨w.heap.size, 0, none⟩) 2 2] (w.alloc (.cells #[v1, v2] 45)) fun e w' => ∃ (a : Option Addr) (m c : Nat) (er : Int), e = .returned (.tuple #[.slice a m c, .int .i64 er]) ∧ Below w.heap.size w w' := by
  by_cases h : (rtB n 2 && (gokB x && gokB y)) = true
  · have h' := h
    rw [Bool.and_eq_true, Bool.and_eq_true] at h'
    refine Calls.mono (p2_ok n v1 v2 x y w h'.1 h'.2.1 h'.2.2 h1 h2) ?_
    rintro e w' ⟨G, ra, rb, rc, rd, rfl, _, _, _, _, _, hB⟩
    exact ⟨_, _, _, _, rfl, hB⟩
  · refine Calls.mono (p2_no n v1 v2 x y w (by simpa using h) h1 h2) ?_
    rintro e w' ⟨rfl, hB⟩
    exact ⟨_, _, _, _, rfl, hB⟩
end Go.Proofs.YtidppkbphkcmeaaGreat
