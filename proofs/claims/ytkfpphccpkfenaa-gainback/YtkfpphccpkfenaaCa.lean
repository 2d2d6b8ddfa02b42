/- Plain facts of a range coder: bytes as a number, the highest one first; shares of a range; an encoder as one number. Nothing of the program is imported. -/
import Derived.Test.YtkfpphccpkfenaaGrids
namespace Go.Proofs.Ytkfpphccpkfenaa
open Go.RowKit
set_option linter.unusedVariables false
set_option linter.unusedSimpArgs false

/-! ### Bytes as a number, the highest one first -/
def be : List Int → Nat
  | [] => 0
  | x :: l => x.toNat * 256 ^ l.length + be l
theorem be_append (l m : List Int) : be (l ++ m) = be l * 256 ^ m.length + be m := by
  induction l with
  | nil => simp [be]
  | cons x l ih =>
    simp only [List.cons_append, be, ih, List.length_append, Nat.pow_add, Nat.add_mul, Nat.mul_assoc]
    omega
theorem be_snoc (l : List Int) (x : Int) : be (l ++ [x]) = be l * 256 + x.toNat := by rw [be_append]; simp [be]
theorem be_lt {l : List Int} (h : Byts l) : be l < 256 ^ l.length := by
  induction l with
  | nil => simp [be]
  | cons x l ih =>
    obtain ⟨hx, hl⟩ := h.cons
    have := ih hl
    simp only [be, List.length_cons, Nat.pow_succ]
    have h2 : (x.toNat + 1) * 256 ^ l.length ≤ 256 * 256 ^ l.length := Nat.mul_le_mul_right _ (by omega)
    rw [Nat.add_mul] at h2
    omega
theorem be_set (l : List Int) (i : Nat) (y : Int) (hi : i < l.length) : be (l.set i y) + (l.getD i 0).toNat * 256 ^ (l.length - 1 - i) = be l + y.toNat * 256 ^ (l.length - 1 - i) := by
  induction l generalizing i with
  | nil => simp at hi
  | cons x l ih =>
    cases i with
    | zero => simp [be]; omega
    | succ i =>
      have hi' : i < l.length := by simpa using hi
      have := ih i hi'
      simp only [List.set_cons_succ, be, List.getD_cons_succ, List.length_set, List.length_cons]
      rw [show l.length + 1 - 1 - (i + 1) = l.length - 1 - i by omega]
      omega
theorem be_inj {l m : List Int} (hl : Byts l) (hm : Byts m) (he : l.length = m.length) (h : be l = be m) : l = m := by
  induction l generalizing m with
  | nil => cases m with
    | nil => rfl
    | cons y m => simp at he
  | cons x l ih => cases m with
    | nil => simp at he
    | cons y m =>
      obtain ⟨hx, hl⟩ := hl.cons
      obtain ⟨hy, hm⟩ := hm.cons
      have he' : l.length = m.length := by simpa using he
      have b1 := be_lt hl
      have b2 := be_lt hm
      simp only [be] at h
      rw [he'] at h b1
      have e : x.toNat = y.toNat := by
        have hp : 0 < 256 ^ m.length := Nat.pow_pos (by decide)
        have q1 : (x.toNat * 256 ^ m.length + be l) / 256 ^ m.length = x.toNat := by
          rw [Nat.mul_comm, Nat.mul_add_div hp, Nat.div_eq_of_lt b1]; rfl
        have q2 : (y.toNat * 256 ^ m.length + be m) / 256 ^ m.length = y.toNat := by
          rw [Nat.mul_comm, Nat.mul_add_div hp, Nat.div_eq_of_lt b2]; rfl
        rw [← q1, ← q2, h]
      rw [e] at h
      rw [show x = y by omega, ih hl hm he' (by omega)]
def beL : Nat → Nat → List Int
  | _, 0 => []
  | V, n + 1 => beL (V / 256) n ++ [((V % 256 : Nat) : Int)]
theorem beL_length (V n : Nat) : (beL V n).length = n := by
  induction n generalizing V with
  | zero => rfl
  | succ n ih => simp [beL, ih]
theorem beL_byts (V n : Nat) : Byts (beL V n) := by
  induction n generalizing V with
  | zero => exact Byts.nil
  | succ n ih => exact (ih _).append (fun x hx => by simp at hx; omega)
theorem be_beL (V n : Nat) : be (beL V n) = V % 256 ^ n := by
  induction n generalizing V with
  | zero => simp [beL, be, Nat.mod_one]
  | succ n ih =>
    rw [beL, be_snoc, ih, Nat.pow_succ, Nat.mul_comm (256 ^ n) 256, Nat.mod_mul]
    simp; omega
theorem beL_eq {l : List Int} (h : Byts l) {V n : Nat} (hn : l.length = n) (hv : be l = V) : l = beL V n := by
  subst hn
  refine be_inj h (beL_byts _ _) (by simp [beL_length]) ?_
  rw [be_beL, ← hv, Nat.mod_eq_of_lt (be_lt h)]
theorem beL_getD (V n i : Nat) (hi : i < n) : (beL V n).getD i 0 = ((V / 256 ^ (n - 1 - i) % 256 : Nat) : Int) := by
  induction n generalizing V with
  | zero => omega
  | succ n ih =>
    rw [beL, List.getD_eq_getElem?_getD]
    by_cases h : i < n
    · rw [List.getElem?_append_left (by rw [beL_length]; exact h), ← List.getD_eq_getElem?_getD, ih _ h, Nat.div_div_eq_div_mul]
      rw [show n + 1 - 1 - i = (n - 1 - i) + 1 by omega, Nat.pow_succ, Nat.mul_comm]
    · have : i = n := by omega
      subst this
      rw [List.getElem?_append_right (by rw [beL_length]; omega)]
      simp [beL_length]
theorem byts_nat {l : List Int} (h : Byts l) (i : Nat) : ∃ x : Nat, l.getD i 0 = (x : Int) ∧ x < 256 := by
  have := h.getD i
  exact ⟨(l.getD i 0).toNat, by omega, by omega⟩

/-! ### Shares of a range -/
def ahead (R lo tot : Nat) : Nat := R / tot * lo
def width (R lo hi tot : Nat) : Nat := if hi = tot then R - R / tot * lo else R / tot * (hi - lo)
def Rok (R : Nat) : Prop := 16777216 ≤ R ∧ R ≤ 4294967295
structure Fair (lo hi tot : Nat) : Prop where
  lt : lo < hi
  le : hi ≤ tot
  top : tot ≤ 65536
theorem unit_ge {R tot : Nat} (hR : Rok R) (h0 : 0 < tot) (ht : tot ≤ 65536) : 256 ≤ R / tot := by
  rw [Nat.le_div_iff_mul_le h0]
  have := hR.1
  omega
theorem unit_mul (R tot : Nat) : R / tot * tot ≤ R := Nat.div_mul_le_self R tot
theorem width_ge {R lo hi tot : Nat} (hf : Fair lo hi tot) : R / tot * (hi - lo) ≤ width R lo hi tot := by
  unfold width
  split
  · rename_i h
    subst h
    have := unit_mul R hi
    have e : R / hi * (hi - lo) + R / hi * lo = R / hi * hi := by rw [← Nat.mul_add, Nat.sub_add_cancel (by have := hf.lt; omega)]
    omega
  · exact Nat.le_refl _
theorem width_unit {R lo hi tot : Nat} (hf : Fair lo hi tot) : R / tot ≤ width R lo hi tot := by
  refine Nat.le_trans ?_ (width_ge hf)
  exact Nat.le_mul_of_pos_right _ (by have := hf.lt; omega)
theorem width_256 {R lo hi tot : Nat} (hR : Rok R) (hf : Fair lo hi tot) : 256 ≤ width R lo hi tot := by
  have h1 := hf.lt
  have h2 := hf.le
  exact Nat.le_trans (unit_ge hR (by omega) hf.top) (width_unit hf)
theorem ahead_width {R lo hi tot : Nat} (hf : Fair lo hi tot) : ahead R lo tot + width R lo hi tot ≤ R := by
  have h1 := hf.lt
  have h2 := hf.le
  have hm := unit_mul R tot
  have hl : R / tot * lo ≤ R / tot * tot := Nat.mul_le_mul_left _ (by omega)
  unfold ahead width
  split
  · omega
  · rw [← Nat.mul_add, show lo + (hi - lo) = hi by omega]
    exact Nat.le_trans (Nat.mul_le_mul_left _ h2) hm
def sh (W : Nat) : Nat := if W < 65536 then 2 else if W < 16777216 then 1 else 0
theorem sh_le (W : Nat) : sh W ≤ 2 := by unfold sh; split <;> (try split) <;> omega
theorem sh_cases (W : Nat) (h : 256 ≤ W) : (16777216 ≤ W ∧ sh W = 0) ∨ (65536 ≤ W ∧ W < 16777216 ∧ sh W = 1) ∨ (256 ≤ W ∧ W < 65536 ∧ sh W = 2) := by
  unfold sh
  split
  · exact .inr (.inr ⟨h, by omega, rfl⟩)
  · split
    · exact .inr (.inl ⟨by omega, by omega, rfl⟩)
    · exact .inl ⟨by omega, rfl⟩
theorem sh_ok {W : Nat} (h : 256 ≤ W) (h1 : W ≤ 4294967295) : Rok (W * 256 ^ sh W) := by
  unfold Rok
  rcases sh_cases W h with ⟨a, e⟩ | ⟨a, b, e⟩ | ⟨a, b, e⟩ <;> rw [e] <;> omega

/-! ### An encoder: its bytes and its Low as one number, how many bytes are told, its range -/
structure En where
  N : Nat
  m : Nat
  R : Nat
structure En.Ok (e : En) : Prop where
  lt : e.N < 256 ^ (e.m + 4)
  r : Rok e.R
  le : e.m ≤ 4000
def En.low (e : En) : Nat := e.N % 4294967296
def En.top (e : En) : Nat := e.N / 4294967296
def En.out (e : En) : List Int := beL e.top e.m
def En.all (e : En) : List Int := beL e.N (e.m + 4)
def En.new : En := ⟨0, 0, 4294967295⟩
theorem En.new_ok : En.new.Ok := ⟨by simp [En.new], ⟨by simp [En.new], by simp [En.new]⟩, by simp [En.new]⟩
theorem pow4 : (256 : Nat) ^ 4 = 4294967296 := by decide
theorem En.Ok.low_lt (e : En) : e.low < 4294967296 := Nat.mod_lt _ (by decide)
theorem En.Ok.top_lt {e : En} (h : e.Ok) : e.top < 256 ^ e.m := by
  have := h.lt
  rw [Nat.pow_add, pow4] at this
  unfold En.top
  rw [Nat.div_lt_iff_lt_mul (by decide)]
  exact this
theorem En.parts (e : En) : e.top * 4294967296 + e.low = e.N := by unfold En.top En.low; omega
theorem En.out_length (e : En) : e.out.length = e.m := beL_length _ _
theorem En.all_length (e : En) : e.all.length = e.m + 4 := beL_length _ _
theorem En.all_eq (e : En) : e.all = e.out ++ [((e.low / 16777216 : Nat) : Int), ((e.low / 65536 % 256 : Nat) : Int), ((e.low / 256 % 256 : Nat) : Int), ((e.low % 256 : Nat) : Int)] := by
  unfold En.all En.out En.top En.low
  simp only [beL, List.append_assoc, List.cons_append, List.nil_append, Nat.div_div_eq_div_mul]
  have e1 : e.N / (256 * 256 * 256) % 256 = e.N % 4294967296 / 16777216 := by omega
  have e2 : e.N / (256 * 256) % 256 = e.N % 4294967296 / 65536 % 256 := by omega
  have e3 : e.N / 256 % 256 = e.N % 4294967296 / 256 % 256 := by omega
  have e4 : e.N % 256 = e.N % 4294967296 % 256 := by omega
  rw [← e1, ← e2, ← e3, ← e4]
/-- The encoder of bytes and a Low. -/
def En.of (xs : List Int) (L R : Nat) : En := ⟨be xs * 4294967296 + L, xs.length, R⟩
theorem En.of_low (xs : List Int) (L R : Nat) (hL : L < 4294967296) : (En.of xs L R).low = L := by unfold En.of En.low; simp only; omega
theorem En.of_top (xs : List Int) (L R : Nat) (hL : L < 4294967296) : (En.of xs L R).top = be xs := by unfold En.of En.top; simp only; omega
theorem En.of_out {xs : List Int} (L R : Nat) (hx : Byts xs) (hL : L < 4294967296) : (En.of xs L R).out = xs := by
  unfold En.out
  rw [En.of_top _ _ _ hL]
  exact (beL_eq hx rfl rfl).symm
theorem En.of_ok {xs : List Int} {L R : Nat} (hx : Byts xs) (hL : L < 4294967296) (hR : Rok R) (hl : xs.length ≤ 4000) : (En.of xs L R).Ok := by
  refine ⟨?_, hR, hl⟩
  have := be_lt hx
  show be xs * 4294967296 + L < 256 ^ (xs.length + 4)
  rw [Nat.pow_add, pow4]
  omega

/-- A choice is put. -/
def En.put (e : En) (lo hi tot : Nat) : En :=
  ⟨(e.N + ahead e.R lo tot) % 256 ^ (e.m + 4) * 256 ^ sh (width e.R lo hi tot), e.m + sh (width e.R lo hi tot), width e.R lo hi tot * 256 ^ sh (width e.R lo hi tot)⟩
theorem En.put_ok {e : En} (h : e.Ok) {lo hi tot : Nat} (hf : Fair lo hi tot) (hm : e.m < 3996) : (e.put lo hi tot).Ok := by
  have h1 := width_256 h.r hf
  have h2 := ahead_width (R := e.R) hf
  have h3 := h.r
  refine ⟨?_, ?_, ?_⟩
  · unfold En.put
    simp only
    rw [show e.m + sh (width e.R lo hi tot) + 4 = (e.m + 4) + sh (width e.R lo hi tot) by omega, Nat.pow_add 256 (e.m + 4)]
    exact Nat.mul_lt_mul_of_pos_right (Nat.mod_lt _ (Nat.pow_pos (by decide))) (Nat.pow_pos (by decide))
  · unfold Rok at h3
    exact sh_ok h1 (by omega)
  · have := sh_le (width e.R lo hi tot)
    show e.m + _ ≤ 4000
    omega

def fairB (lo hi tot : Int) : Bool := decide (0 ≤ lo ∧ lo < hi ∧ hi ≤ tot ∧ tot ≤ 65536)
theorem fair_of {lo hi tot : Int} (h : fairB lo hi tot = true) : ∃ l h' t : Nat, lo = l ∧ hi = h' ∧ tot = t ∧ Fair l h' t := by
  unfold fairB at h
  rw [decide_eq_true_eq] at h
  exact ⟨lo.toNat, hi.toNat, tot.toNat, by omega, by omega, by omega, ⟨by omega, by omega, by omega⟩⟩
theorem fair_nat {lo hi tot : Nat} (h : Fair lo hi tot) : fairB lo hi tot = true := by
  unfold fairB
  rw [decide_eq_true_eq]
  have := h.lt
  have := h.le
  have := h.top
  omega
end Go.Proofs.Ytkfpphccpkfenaa
