/- Plain facts of a range coder: bytes as a number, the highest one first; shares of a range; an encoder as one number. Nothing of the program is imported. -/
import Derived.Test.YtidppkbphkcmeaaGreatZa
import Derived.Test.YtidppkbphkcmeaaGreatRows
import Derived.Deep.RegionHeld3
import Derived.WalkMore
import Derived.Deep.RegionLaw
import Derived.Deep.DeepCutAuto
import Derived.OneCell
import Derived.Deep.QuietTactic
import Derived.BigQuiet
import Derived.Deep.SlicePairs
import Derived.Deep.CutRange
import Derived.Deep.RegionWith
namespace Go.Proofs.YtidppkbphkcmeaaGreat
open Go.RowKit
set_option linter.unusedVariables false
set_option linter.unusedSimpArgs false

/-! ### Bytes as a number, the highest one first -/
def be : List Int → Nat
  | [] => 0
  | x :: l => x.toNat * 256 ^ l.length + be l
theorem be_append (l m : List Int) : be (l ++ m) = be l * 256 ^ m.length + be m := by
  induction l with
  | nil => simp [be]
  | cons x l ih =>
    simp only [List.cons_append, be, ih, List.length_append, Nat.pow_add, Nat.add_mul, Nat.mul_assoc]
    omega
theorem be_snoc (l : List Int) (x : Int) : be (l ++ [x]) = be l * 256 + x.toNat := by rw [be_append]; simp [be]
theorem be_lt {l : List Int} (h : Byts l) : be l < 256 ^ l.length := by
  induction l with
  | nil => simp [be]
  | cons x l ih =>
    obtain ⟨hx, hl⟩ := h.cons
    have := ih hl
    simp only [be, List.length_cons, Nat.pow_succ]
    have h2 : (x.toNat + 1) * 256 ^ l.length ≤ 256 * 256 ^ l.length := Nat.mul_le_mul_right _ (by omega)
    rw [Nat.add_mul] at h2
    omega
theorem be_set (l : List Int) (i : Nat) (y : Int) (hi : i < l.length) : be (l.set i y) + (l.getD i 0).toNat * 256 ^ (l.length - 1 - i) = be l + y.toNat * 256 ^ (l.length - 1 - i) := by
  induction l generalizing i with
  | nil => simp at hi
  | cons x l ih =>
    cases i with
    | zero => simp [be]; omega
    | succ i =>
      have hi' : i < l.length := by simpa using hi
      have := ih i hi'
      simp only [List.set_cons_succ, be, List.getD_cons_succ, List.length_set, List.length_cons]
      rw [show l.length + 1 - 1 - (i + 1) = l.length - 1 - i by omega]
      omega
theorem be_inj {l m : List Int} (hl : Byts l) (hm : Byts m) (he : l.length = m.length) (h : be l = be m) : l = m := by
  induction l generalizing m with
  | nil => cases m with
    | nil => rfl
    | cons y m => simp at he
  | cons x l ih => cases m with
    | nil => simp at he
    | cons y m =>
      obtain ⟨hx, hl⟩ := hl.cons
      obtain ⟨hy, hm⟩ := hm.cons
      have he' : l.length = m.length := by simpa using he
      have b1 := be_lt hl
      have b2 := be_lt hm
      simp only [be] at h
      rw [he'] at h b1
      have e : x.toNat = y.toNat := by
        have hp : 0 < 256 ^ m.length := Nat.pow_pos (by decide)
        have q1 : (x.toNat * 256 ^ m.length + be l) / 256 ^ m.length = x.toNat := by
          rw [Nat.mul_comm, Nat.mul_add_div hp, Nat.div_eq_of_lt b1]; rfl
        have q2 : (y.toNat * 256 ^ m.length + be m) / 256 ^ m.length = y.toNat := by
          rw [Nat.mul_comm, Nat.mul_add_div hp, Nat.div_eq_of_lt b2]; rfl
        rw [← q1, ← q2, h]
      rw [e] at h
      rw [show x = y by omega, ih hl hm he' (by omega)]
def beL : Nat → Nat → List Int
  | _, 0 => []
  | V, n + 1 => beL (V / 256) n ++ [((V % 256 : Nat) : Int)]
theorem beL_length (V n : Nat) : (beL V n).length = n := by
  induction n generalizing V with
  | zero => rfl
  | succ n ih => simp [beL, ih]
theorem beL_byts (V n : Nat) : Byts (beL V n) := by
  induction n generalizing V with
  | zero => exact Byts.nil
  | succ n ih => exact (ih _).append (fun x hx => by simp at hx; omega)
theorem be_beL (V n : Nat) : be (beL V n) = V % 256 ^ n := by
  induction n generalizing V with
  | zero => simp [beL, be, Nat.mod_one]
  | succ n ih =>
    rw [beL, be_snoc, ih, Nat.pow_succ, Nat.mul_comm (256 ^ n) 256, Nat.mod_mul]
    simp; omega
theorem beL_eq {l : List Int} (h : Byts l) {V n : Nat} (hn : l.length = n) (hv : be l = V) : l = beL V n := by
  subst hn
  refine be_inj h (beL_byts _ _) (by simp [beL_length]) ?_
  rw [be_beL, ← hv, Nat.mod_eq_of_lt (be_lt h)]
theorem beL_getD (V n i : Nat) (hi : i < n) : (beL V n).getD i 0 = ((V / 256 ^ (n - 1 - i) % 256 : Nat) : Int) := by
  induction n generalizing V with
  | zero => omega
  | succ n ih =>
    rw [beL, List.getD_eq_getElem?_getD]
    by_cases h : i < n
    · rw [List.getElem?_append_left (by rw [beL_length]; exact h), ← List.getD_eq_getElem?_getD, ih _ h, Nat.div_div_eq_div_mul]
      rw [show n + 1 - 1 - i = (n - 1 - i) + 1 by omega, Nat.pow_succ, Nat.mul_comm]
    · have : i = n := by omega
      subst this
      rw [List.getElem?_append_right (by rw [beL_length]; omega)]
      simp [beL_length]
theorem byts_nat {l : List Int} (h : Byts l) (i : Nat) : ∃ x : Nat, l.getD i 0 = (x : Int) ∧ x < 256 := by
  have := h.getD i
  exact ⟨(l.getD i 0).toNat, by omega, by omega⟩

/-! ### Shares of a range -/
def ahead (R lo tot : Nat) : Nat := R / tot * lo
def width (R lo hi tot : Nat) : Nat := if hi = tot then R - R / tot * lo else R / tot * (hi - lo)
def Rok (R : Nat) : Prop := 16777216 ≤ R ∧ R ≤ 4294967295
structure Fair (lo hi tot : Nat) : Prop where
  lt : lo < hi
  le : hi ≤ tot
  top : tot ≤ 65536
theorem unit_ge {R tot : Nat} (hR : Rok R) (h0 : 0 < tot) (ht : tot ≤ 65536) : 256 ≤ R / tot := by
  rw [Nat.le_div_iff_mul_le h0]
  have := hR.1
  omega
theorem unit_mul (R tot : Nat) : R / tot * tot ≤ R := Nat.div_mul_le_self R tot
theorem width_ge {R lo hi tot : Nat} (hf : Fair lo hi tot) : R / tot * (hi - lo) ≤ width R lo hi tot := by
  unfold width
  split
  · rename_i h
    subst h
    have := unit_mul R hi
    have e : R / hi * (hi - lo) + R / hi * lo = R / hi * hi := by rw [← Nat.mul_add, Nat.sub_add_cancel (by have := hf.lt; omega)]
    omega
  · exact Nat.le_refl _
theorem width_unit {R lo hi tot : Nat} (hf : Fair lo hi tot) : R / tot ≤ width R lo hi tot := by
  refine Nat.le_trans ?_ (width_ge hf)
  exact Nat.le_mul_of_pos_right _ (by have := hf.lt; omega)
theorem width_256 {R lo hi tot : Nat} (hR : Rok R) (hf : Fair lo hi tot) : 256 ≤ width R lo hi tot := by
  have h1 := hf.lt
  have h2 := hf.le
  exact Nat.le_trans (unit_ge hR (by omega) hf.top) (width_unit hf)
theorem ahead_width {R lo hi tot : Nat} (hf : Fair lo hi tot) : ahead R lo tot + width R lo hi tot ≤ R := by
  have h1 := hf.lt
  have h2 := hf.le
  have hm := unit_mul R tot
  have hl : R / tot * lo ≤ R / tot * tot := Nat.mul_le_mul_left _ (by omega)
  unfold ahead width
  split
  · omega
  · rw [← Nat.mul_add, show lo + (hi - lo) = hi by omega]
    exact Nat.le_trans (Nat.mul_le_mul_left _ h2) hm
def sh (W : Nat) : Nat := if W < 65536 then 2 else if W < 16777216 then 1 else 0
theorem sh_le (W : Nat) : sh W ≤ 2 := by unfold sh; split <;> (try split) <;> omega
theorem sh_cases (W : Nat) (h : 256 ≤ W) : (16777216 ≤ W ∧ sh W = 0) ∨ (65536 ≤ W ∧ W < 16777216 ∧ sh W = 1) ∨ (256 ≤ W ∧ W < 65536 ∧ sh W = 2) := by
  unfold sh
  split
  · exact .inr (.inr ⟨h, by omega, rfl⟩)
  · split
    · exact .inr (.inl ⟨by omega, by omega, rfl⟩)
    · exact .inl ⟨by omega, rfl⟩
theorem sh_ok {W : Nat} (h : 256 ≤ W) (h1 : W ≤ 4294967295) : Rok (W * 256 ^ sh W) := by
  unfold Rok
  rcases sh_cases W h with ⟨a, e⟩ | ⟨a, b, e⟩ | ⟨a, b, e⟩ <;> rw [e] <;> omega

/-! ### An encoder: its bytes and its Low as one number, how many bytes are told, its range -/
structure En where
  N : Nat
  m : Nat
  R : Nat
structure En.Ok (e : En) : Prop where
  lt : e.N < 256 ^ (e.m + 4)
  r : Rok e.R
  le : e.m ≤ 4000
def En.low (e : En) : Nat := e.N % 4294967296
def En.top (e : En) : Nat := e.N / 4294967296
def En.out (e : En) : List Int := beL e.top e.m
def En.all (e : En) : List Int := beL e.N (e.m + 4)
def En.new : En := ⟨0, 0, 4294967295⟩
theorem En.new_ok : En.new.Ok := ⟨by simp [En.new], ⟨by simp [En.new], by simp [En.new]⟩, by simp [En.new]⟩
theorem pow4 : (256 : Nat) ^ 4 = 4294967296 := by decide
theorem En.Ok.low_lt (e : En) : e.low < 4294967296 := Nat.mod_lt _ (by decide)
theorem En.Ok.top_lt {e : En} (h : e.Ok) : e.top < 256 ^ e.m := by
  have := h.lt
  rw [Nat.pow_add, pow4] at this
  unfold En.top
  rw [Nat.div_lt_iff_lt_mul (by decide)]
  exact this
theorem En.parts (e : En) : e.top * 4294967296 + e.low = e.N := by unfold En.top En.low; omega
theorem En.out_length (e : En) : e.out.length = e.m := beL_length _ _
theorem En.all_length (e : En) : e.all.length = e.m + 4 := beL_length _ _
theorem En.all_eq (e : En) : e.all = e.out ++ [((e.low / 16777216 : Nat) : Int), ((e.low / 65536 % 256 : Nat) : Int), ((e.low / 256 % 256 : Nat) : Int), ((e.low % 256 : Nat) : Int)] := by
  unfold En.all En.out En.top En.low
  simp only [beL, List.append_assoc, List.cons_append, List.nil_append, Nat.div_div_eq_div_mul]
  have e1 : e.N / (256 * 256 * 256) % 256 = e.N % 4294967296 / 16777216 := by omega
  have e2 : e.N / (256 * 256) % 256 = e.N % 4294967296 / 65536 % 256 := by omega
  have e3 : e.N / 256 % 256 = e.N % 4294967296 / 256 % 256 := by omega
  have e4 : e.N % 256 = e.N % 4294967296 % 256 := by omega
  rw [← e1, ← e2, ← e3, ← e4]
/-- The encoder of bytes and a Low. -/
def En.of (xs : List Int) (L R : Nat) : En := ⟨be xs * 4294967296 + L, xs.length, R⟩
theorem En.of_low (xs : List Int) (L R : Nat) (hL : L < 4294967296) : (En.of xs L R).low = L := by unfold En.of En.low; simp only; omega
theorem En.of_top (xs : List Int) (L R : Nat) (hL : L < 4294967296) : (En.of xs L R).top = be xs := by unfold En.of En.top; simp only; omega
theorem En.of_out {xs : List Int} (L R : Nat) (hx : Byts xs) (hL : L < 4294967296) : (En.of xs L R).out = xs := by
  unfold En.out
  rw [En.of_top _ _ _ hL]
  exact (beL_eq hx rfl rfl).symm
theorem En.of_ok {xs : List Int} {L R : Nat} (hx : Byts xs) (hL : L < 4294967296) (hR : Rok R) (hl : xs.length ≤ 4000) : (En.of xs L R).Ok := by
  refine ⟨?_, hR, hl⟩
  have := be_lt hx
  show be xs * 4294967296 + L < 256 ^ (xs.length + 4)
  rw [Nat.pow_add, pow4]
  omega

/-- A choice is put. -/
def En.put (e : En) (lo hi tot : Nat) : En :=
  ⟨(e.N + ahead e.R lo tot) % 256 ^ (e.m + 4) * 256 ^ sh (width e.R lo hi tot), e.m + sh (width e.R lo hi tot), width e.R lo hi tot * 256 ^ sh (width e.R lo hi tot)⟩
theorem En.put_ok {e : En} (h : e.Ok) {lo hi tot : Nat} (hf : Fair lo hi tot) (hm : e.m < 3996) : (e.put lo hi tot).Ok := by
  have h1 := width_256 h.r hf
  have h2 := ahead_width (R := e.R) hf
  have h3 := h.r
  refine ⟨?_, ?_, ?_⟩
  · unfold En.put
    simp only
    rw [show e.m + sh (width e.R lo hi tot) + 4 = (e.m + 4) + sh (width e.R lo hi tot) by omega, Nat.pow_add 256 (e.m + 4)]
    exact Nat.mul_lt_mul_of_pos_right (Nat.mod_lt _ (Nat.pow_pos (by decide))) (Nat.pow_pos (by decide))
  · unfold Rok at h3
    exact sh_ok h1 (by omega)
  · have := sh_le (width e.R lo hi tot)
    show e.m + _ ≤ 4000
    omega

def fairB (lo hi tot : Int) : Bool := decide (0 ≤ lo ∧ lo < hi ∧ hi ≤ tot ∧ tot ≤ 65536)
theorem fair_of {lo hi tot : Int} (h : fairB lo hi tot = true) : ∃ l h' t : Nat, lo = l ∧ hi = h' ∧ tot = t ∧ Fair l h' t := by
  unfold fairB at h
  rw [decide_eq_true_eq] at h
  exact ⟨lo.toNat, hi.toNat, tot.toNat, by omega, by omega, by omega, ⟨by omega, by omega, by omega⟩⟩
theorem fair_nat {lo hi tot : Nat} (h : Fair lo hi tot) : fairB lo hi tot = true := by
  unfold fairB
  rw [decide_eq_true_eq]
  have := h.lt
  have := h.le
  have := h.top
  omega
end Go.Proofs.YtidppkbphkcmeaaGreat
/- Contracts of the small functions: which choices, encoders and decoders are right; shares of a range; a new encoder. -/
namespace Go.Proofs.YtidppkbphkcmeaaGreat
open Go.RowKit
set_option linter.unusedVariables false
set_option linter.unusedSimpArgs false

theorem fair_any (lo hi tot : Int) (w : World) : Calls Tryz.prog 78 #[.int .i64 lo, .int .i64 hi, .int .i64 tot] w fun e w' => e = .returned (.bool (fairB lo hi tot)) ∧ w' = w := by
  by_cases h0 : 0 ≤ lo
  · by_cases h1 : lo < hi
    · by_cases h2 : hi ≤ tot
      · by_cases h3 : tot ≤ 65536
        · have e : fairB lo hi tot = true := by unfold fairB; rw [decide_eq_true_eq]; exact ⟨h0, h1, h2, h3⟩
          rw [e]
          go_enter Tryz.func78, Tryz.ntmps78
          go_wp2
          go_ret; exact ⟨rfl, rfl⟩
        · have e : fairB lo hi tot = false := by unfold fairB; rw [decide_eq_false_iff_not]; omega
          rw [e]
          go_enter Tryz.func78, Tryz.ntmps78
          go_wp2
          go_ret; exact ⟨rfl, rfl⟩
      · have e : fairB lo hi tot = false := by unfold fairB; rw [decide_eq_false_iff_not]; omega
        rw [e]
        go_enter Tryz.func78, Tryz.ntmps78
        go_wp2
        go_ret; exact ⟨rfl, rfl⟩
    · have e : fairB lo hi tot = false := by unfold fairB; rw [decide_eq_false_iff_not]; omega
      rw [e]
      go_enter Tryz.func78, Tryz.ntmps78
      go_wp2
      go_ret; exact ⟨rfl, rfl⟩
  · have e : fairB lo hi tot = false := by unfold fairB; rw [decide_eq_false_iff_not]; omega
    rw [e]
    go_enter Tryz.func78, Tryz.ntmps78
    go_wp2
    go_ret; exact ⟨rfl, rfl⟩

theorem rfair_any (lo hi tot : Int) (w : World) : Calls Tryz.prog 62 #[.int .i64 lo, .int .i64 hi, .int .i64 tot] w fun e w' => e = .returned (.bool (fairB lo hi tot)) ∧ w' = w := by
  by_cases h0 : 0 ≤ lo
  · by_cases h1 : lo < hi
    · by_cases h2 : hi ≤ tot
      · by_cases h3 : tot ≤ 65536
        · have e : fairB lo hi tot = true := by unfold fairB; rw [decide_eq_true_eq]; exact ⟨h0, h1, h2, h3⟩
          rw [e]
          go_enter Tryz.func62, Tryz.ntmps62
          go_wp2
          go_ret; exact ⟨rfl, rfl⟩
        · have e : fairB lo hi tot = false := by unfold fairB; rw [decide_eq_false_iff_not]; omega
          rw [e]
          go_enter Tryz.func62, Tryz.ntmps62
          go_wp2
          go_ret; exact ⟨rfl, rfl⟩
      · have e : fairB lo hi tot = false := by unfold fairB; rw [decide_eq_false_iff_not]; omega
        rw [e]
        go_enter Tryz.func62, Tryz.ntmps62
        go_wp2
        go_ret; exact ⟨rfl, rfl⟩
    · have e : fairB lo hi tot = false := by unfold fairB; rw [decide_eq_false_iff_not]; omega
      rw [e]
      go_enter Tryz.func62, Tryz.ntmps62
      go_wp2
      go_ret; exact ⟨rfl, rfl⟩
  · have e : fairB lo hi tot = false := by unfold fairB; rw [decide_eq_false_iff_not]; omega
    rw [e]
    go_enter Tryz.func62, Tryz.ntmps62
    go_wp2
    go_ret; exact ⟨rfl, rfl⟩

/-- What a share's walk wants of its numbers. -/
theorem share_facts {R lo hi tot : Nat} (hR : Rok R) (hf : Fair lo hi tot) : ∃ q A B : Nat, R / tot = q ∧ q * lo = A ∧ q * (hi - lo) = B ∧ 256 ≤ q ∧ q ≤ R ∧ A + B ≤ R ∧ ahead R lo tot = A ∧ (hi = tot → width R lo hi tot = R - A) ∧ (hi ≠ tot → width R lo hi tot = B) := by
  have hm := unit_mul R tot
  have h1 := hf.lt
  have h2 := hf.le
  refine ⟨R / tot, R / tot * lo, R / tot * (hi - lo), rfl, rfl, rfl, unit_ge hR (by omega) hf.top, Nat.div_le_self _ _, ?_, rfl, fun h => by unfold width; rw [if_pos h], fun h => by unfold width; rw [if_neg h]⟩
  rw [← Nat.mul_add, show lo + (hi - lo) = hi by omega]
  exact Nat.le_trans (Nat.mul_le_mul_left _ h2) hm

set_option maxHeartbeats 400000 in
theorem share_any (R lo hi tot : Nat) (w : World) (hR : Rok R) (hf : Fair lo hi tot) : Calls Tryz.prog 79 #[.int .u32 R, .int .i64 lo, .int .i64 hi, .int .i64 tot] w fun e w' => e = .returned (.tuple #[.int .u64 (ahead R lo tot : Nat), .int .u32 (width R lo hi tot : Nat)]) ∧ w' = w := by
  obtain ⟨q, A, B, hq, hA, hB, hq1, hq2, hAB, eA, eW1, eW2⟩ := share_facts hR hf
  obtain ⟨hR1, hR2⟩ := hR
  obtain ⟨h1, h2, h3⟩ := hf
  have k1 : ((R : Int).tdiv (tot : Int)) = (q : Int) := by rw [← hq]; rfl
  have k2 : ((q : Int) * (lo : Int)) = (A : Int) := by rw [← hA]; simp
  have k3 : ((q : Int) * ((hi : Int) - (lo : Int))) = (B : Int) := by rw [← hB, show ((hi : Int) - (lo : Int)) = ((hi - lo : Nat) : Int) by omega]; simp
  have t0 : ((tot : Int) == 0) = false := by simp; omega
  rw [eA]
  have E1 : Hid _ := eW1
  have E2 : Hid _ := eW2
  clear eW1 eW2 hq hA hB eA
  by_cases hh : hi = tot
  · have := E1.out hh
    rw [this]
    clear this E1 E2
    subst hh
    rw [show ((R - A : Nat) : Int) = (R : Int) - A by omega]
    go_enter Tryz.func79, Tryz.ntmps79
    go_wp2
    exact bodyPost_ret (v := .tuple #[_, _]) (by simp [results, Tryz.results79, go_sem]) rfl ⟨rfl, rfl⟩
  · have := E2.out hh
    rw [this]
    clear this E1 E2
    have hh' : ((hi : Int) == (tot : Int)) = false := by simp; omega
    go_enter Tryz.func79, Tryz.ntmps79
    go_wp2
    exact bodyPost_ret (v := .tuple #[_, _]) (by simp [results, Tryz.results79, go_sem]) rfl ⟨rfl, rfl⟩

set_option maxHeartbeats 400000 in
theorem part_any (R lo hi tot : Nat) (w : World) (hR : Rok R) (hf : Fair lo hi tot) : Calls Tryz.prog 63 #[.int .u64 R, .int .i64 lo, .int .i64 hi, .int .i64 tot] w fun e w' => e = .returned (.tuple #[.int .u64 (width R lo hi tot : Nat), .int .u64 (ahead R lo tot : Nat)]) ∧ w' = w := by
  obtain ⟨q, A, B, hq, hA, hB, hq1, hq2, hAB, eA, eW1, eW2⟩ := share_facts hR hf
  obtain ⟨hR1, hR2⟩ := hR
  obtain ⟨h1, h2, h3⟩ := hf
  have k1 : ((R : Int).tdiv (tot : Int)) = (q : Int) := by rw [← hq]; rfl
  have k2 : ((q : Int) * (lo : Int)) = (A : Int) := by rw [← hA]; simp
  have k3 : ((q : Int) * ((hi : Int) - (lo : Int))) = (B : Int) := by rw [← hB, show ((hi : Int) - (lo : Int)) = ((hi - lo : Nat) : Int) by omega]; simp
  have t0 : ((tot : Int) == 0) = false := by simp; omega
  rw [eA]
  have E1 : Hid _ := eW1
  have E2 : Hid _ := eW2
  clear eW1 eW2 hq hA hB eA
  by_cases hh : hi = tot
  · have := E1.out hh
    rw [this]
    clear this E1 E2
    subst hh
    rw [show ((R - A : Nat) : Int) = (R : Int) - A by omega]
    go_enter Tryz.func63, Tryz.ntmps63
    go_wp2
    exact bodyPost_ret (v := .tuple #[_, _]) (by simp [results, Tryz.results63, go_sem]) rfl ⟨rfl, rfl⟩
  · have := E2.out hh
    rw [this]
    clear this E1 E2
    have hh' : ((hi : Int) == (tot : Int)) = false := by simp; omega
    go_enter Tryz.func63, Tryz.ntmps63
    go_wp2
    exact bodyPost_ret (v := .tuple #[_, _]) (by simp [results, Tryz.results63, go_sem]) rfl ⟨rfl, rfl⟩

/-! ### Which encoders and decoders are right -/
def encB (L R : Int) (n : Nat) : Bool := decide (L ≤ 4294967295 ∧ 16777216 ≤ R ∧ n ≤ 4000)
def decB (C R : Int) (A : Int) : Bool := decide (C ≤ 4294967295 ∧ 16777216 ≤ R ∧ 0 ≤ A)
theorem rightEnc_any (L R : Int) (a : Option Addr) (n cap : Nat) (w : World) : Calls Tryz.prog 91 #[.agg #[.int .u64 L, .int .u32 R, .slice a n cap]] w fun e w' => e = .returned (.bool (encB L R n)) ∧ Below w.heap.size w w' := by
  by_cases h0 : L ≤ 4294967295
  · by_cases h1 : 16777216 ≤ R
    · by_cases h2 : (n : Int) ≤ 4000
      · have e : encB L R n = true := by unfold encB; rw [decide_eq_true_eq]; omega
        rw [e]
        go_enter Tryz.func91, Tryz.ntmps91
        go_wp2
        go_ret; exact ⟨rfl, below1 _ _⟩
      · have e : encB L R n = false := by unfold encB; rw [decide_eq_false_iff_not]; omega
        rw [e]
        go_enter Tryz.func91, Tryz.ntmps91
        go_wp2
        go_ret; exact ⟨rfl, below1 _ _⟩
    · have e : encB L R n = false := by unfold encB; rw [decide_eq_false_iff_not]; omega
      rw [e]
      go_enter Tryz.func91, Tryz.ntmps91
      go_wp2
      go_ret; exact ⟨rfl, below1 _ _⟩
  · have e : encB L R n = false := by unfold encB; rw [decide_eq_false_iff_not]; omega
    rw [e]
    go_enter Tryz.func91, Tryz.ntmps91
    go_wp2
    go_ret; exact ⟨rfl, below1 _ _⟩
theorem rightDec_any (C R : Int) (a : Option Addr) (n cap : Nat) (A : Int) (w : World) : Calls Tryz.prog 108 #[.agg #[.int .u64 C, .int .u32 R, .slice a n cap, .int .i64 A]] w fun e w' => e = .returned (.bool (decB C R A)) ∧ Below w.heap.size w w' := by
  by_cases h0 : C ≤ 4294967295
  · by_cases h1 : 16777216 ≤ R
    · by_cases h2 : 0 ≤ A
      · have e : decB C R A = true := by unfold decB; rw [decide_eq_true_eq]; exact ⟨h0, h1, h2⟩
        rw [e]
        go_enter Tryz.func108, Tryz.ntmps108
        go_wp2
        go_ret; exact ⟨rfl, below1 _ _⟩
      · have e : decB C R A = false := by unfold decB; rw [decide_eq_false_iff_not]; omega
        rw [e]
        go_enter Tryz.func108, Tryz.ntmps108
        go_wp2
        go_ret; exact ⟨rfl, below1 _ _⟩
    · have e : decB C R A = false := by unfold decB; rw [decide_eq_false_iff_not]; omega
      rw [e]
      go_enter Tryz.func108, Tryz.ntmps108
      go_wp2
      go_ret; exact ⟨rfl, below1 _ _⟩
  · have e : decB C R A = false := by unfold decB; rw [decide_eq_false_iff_not]; omega
    rw [e]
    go_enter Tryz.func108, Tryz.ntmps108
    go_wp2
    go_ret; exact ⟨rfl, below1 _ _⟩
theorem new_any (w : World) : Calls Tryz.prog 20 #[] w fun e w' => e = .returned (.agg #[.int .u64 0, .int .u32 4294967295, .slice none 0 0]) ∧ Below w.heap.size w w' := by
  go_enter Tryz.func20, Tryz.ntmps20
  go_wp2
  refine bodyPost_ret (v := .agg #[.int .u64 0, .int .u32 4294967295, .slice none 0 0]) (by simp [results, Tryz.results20, go_sem]) rfl ⟨rfl, ?_⟩
  exact below1 _ _
end Go.Proofs.YtidppkbphkcmeaaGreat
/- Structs of a call's own in memory; a decoder: the next byte, and what opens it. -/
namespace Go.Proofs.YtidppkbphkcmeaaGreat
open Go.RowKit
set_option linter.unusedVariables false
set_option linter.unusedSimpArgs false

/-! ### The next byte -/
def bAt (B : List Int) (A : Nat) : Nat := (B.getD A 0).toNat
def aAt (B : List Int) (A : Nat) : Nat := if A < B.length then A + 1 else A
theorem bAt_lt {B : List Int} (h : Byts B) (A : Nat) : bAt B A < 256 := by have := h.getD A; unfold bAt; omega
theorem bAt_get {B : List Int} (h : Byts B) (A : Nat) : B.getD A 0 = (bAt B A : Int) := by have := h.getD A; unfold bAt; omega
theorem bAt_past {B : List Int} {A : Nat} (h : B.length ≤ A) : bAt B A = 0 := by unfold bAt; rw [List.getD_eq_getElem?_getD, List.getElem?_eq_none h]; rfl
theorem and24 (C : Nat) (h : C < 2 ^ 64) : bits .and .u64 (C : Int) 16777215 = ((C % 16777216 : Nat) : Int) := by
  have := bits_mask .u64 64 (by decide) wraps_u64 24 (by decide) (C : Int) (by omega) (by omega)
  simpa using this
theorem or8 (c y : Nat) (hc : c < 16777216) (hy : y < 256) : bits .or .u64 ((c * 256 : Nat) : Int) (y : Int) = ((c * 256 + y : Nat) : Int) := by
  rw [bits_join .u64 64 (by decide) wraps_u64 8 _ _ (by omega) (by omega) (by omega) (by omega) (by omega) (by omega)]
  simp

set_option maxHeartbeats 1000000 in
theorem nextByte_any (C R A : Nat) (a : Option Addr) (cap : Nat) (B : List Int) (w : World) (hv : Rw .u8 w (.slice a B.length cap) B) (hB : Byts B) (hl : B.length ≤ 5000) (hC : C < 4294967296) (hA : A < 9223372036854775808) :
    Calls Tryz.prog 69 #[.agg #[.int .u64 C, .int .u32 R, .slice a B.length cap, .int .i64 A]] w fun e w' => e = .returned (.agg #[.int .u64 ((C % 16777216 * 256 + bAt B A : Nat) : Int), .int .u32 R, .slice a B.length cap, .int .i64 (aAt B A : Nat)]) ∧ Below w.heap.size w w' := by
  have h24 := and24 C (by omega)
  have hc : C % 16777216 < 16777216 := Nat.mod_lt _ (by decide)
  have h8 := or8 (C % 16777216) (bAt B A) hc (bAt_lt hB A)
  have hb8 := bAt_lt hB A
  have hg := bAt_get hB A
  generalize C % 16777216 = c at h24 hc h8 ⊢
  have hmul : ((c : Int) * 2 ^ 8) = ((c * 256 : Nat) : Int) := by simp
  have hW := below2 w (.cells #[.int .u64 C, .int .u32 R, .slice a B.length cap, .int .i64 A] 75) (.cells #[.int .u64 0, .int .u32 0, .slice none 0 0, .int .i64 0] 75)
  by_cases h : A < B.length
  · have hA' : aAt B A = A + 1 := by unfold aAt; rw [if_pos h]
    rw [hA', show ((A + 1 : Nat) : Int) = (A : Int) + 1 by omega]
    obtain ⟨b, off, rfl, hb, hcell⟩ := hv.at A h
    rw [hg] at hcell
    generalize bAt B A = y at *
    have i0 : (0 : Int) ≤ (A : Int) := by omega
    have i1 : (A : Int) < (B.length : Int) := by omega
    have i2 : IntKind.i64.wrap (A : Int) = A := wraps_i64 _ (by omega) (by omega)
    have i3 : IntKind.u64.wrap (y : Int) = y := nat_u64 _ (by omega)
    have hbs : b ≠ w.heap.size := by omega
    rw [show ((c * 256 : Nat) : Int) = (c : Int) * 256 by omega] at h8
    go_enter Tryz.func69, Tryz.ntmps69
    go_wp2
    have hcell2 : ((w.alloc (.cells #[.int .u64 ((c : Int) * 256), .int .u32 R, .slice (some ⟨b, off, none⟩) B.length cap, .int .i64 A] 75)).alloc (.cells #[.int .u64 0, .int .u32 0, .slice none 0 0, .int .i64 0] 75)).cell? ⟨b, off + A, none⟩ = some (.int .u8 y) := ((bcell (below2 w _ _)).1 b _ hb).trans hcell
    go_region
    go_wp2
    exact bodyPost_ret (v := .agg #[.int .u64 ((c * 256 + y : Nat) : Int), .int .u32 R, .slice (some ⟨b, off, none⟩) B.length cap, .int .i64 ((A : Int) + 1)]) (by simp [results, Tryz.results69, go_sem]) rfl ⟨rfl, (below2 _ _ _).drew⟩
  · have hA' : aAt B A = A := by unfold aAt; rw [if_neg h]
    have hy : bAt B A = 0 := bAt_past (by omega)
    rw [hA', hy, Nat.add_zero]
    clear h8 hg hb8 hA' hy
    go_enter Tryz.func69, Tryz.ntmps69
    go_wp2
    exact bodyPost_ret (v := .agg #[.int .u64 ((c : Int) * 256), .int .u32 R, .slice a B.length cap, .int .i64 A]) (by simp [results, Tryz.results69, go_sem]) rfl ⟨by rw [show ((c : Int) * 256) = ((c * 256 : Nat) : Int) by omega], below2 _ _ _⟩
end Go.Proofs.YtidppkbphkcmeaaGreat
/- A decoder: what opens it, the one that stands for it, where a choice lies, what becomes of it by one. The program and the document. -/
namespace Go.Proofs.YtidppkbphkcmeaaGreat
open Go.RowKit
set_option linter.unusedVariables false
set_option linter.unusedSimpArgs false

/-! ### A decoder, as plain numbers -/
structure De where
  C : Nat
  R : Nat
  A : Nat
  B : List Int
structure De.Ok (d : De) : Prop where
  c : d.C < 4294967296
  r : Rok d.R
  a : d.A < 9223372036854775808
  b : Byts d.B
  l : d.B.length ≤ 5000
def openC (B : List Int) : Nat → Nat
  | 0 => 0
  | k + 1 => openC B k * 256 + bAt B k
theorem openC_lt {B : List Int} (h : Byts B) (k : Nat) : openC B k < 256 ^ k := by
  induction k with
  | zero => simp [openC]
  | succ k ih => have := bAt_lt h k; rw [openC, Nat.pow_succ]; omega
def De.open (B : List Int) : De := ⟨openC B 4, 4294967295, 4, B⟩
theorem De.open_ok {B : List Int} (h : Byts B) (hl : B.length ≤ 5000) : (De.open B).Ok := by
  have := openC_lt h 4
  exact ⟨this, ⟨by show 16777216 ≤ 4294967295; omega, by show 4294967295 ≤ 4294967295; omega⟩, by show 4 < _; omega, h, hl⟩
theorem De.open_nil : De.open [] = ⟨0, 4294967295, 4, []⟩ := by simp [De.open, openC, bAt]
def De.step (d : De) : De := ⟨d.C % 16777216 * 256 + bAt d.B d.A, d.R * 256, aAt d.B d.A, d.B⟩
def De.steps : Nat → De → De
  | 0, d => d
  | k + 1, d => De.steps k d.step
def De.norm (d : De) : De := De.steps (sh d.R) d
theorem De.norm_done (d : De) (h : 16777216 ≤ d.R) : d.norm = d := by
  have : sh d.R = 0 := by unfold sh; rw [if_neg (by omega), if_neg (by omega)]
  unfold De.norm; rw [this]; rfl
theorem sh_step (R : Nat) (h0 : 256 ≤ R) (h : R < 16777216) : sh R = sh (R * 256) + 1 := by
  unfold sh; split
  · rw [if_neg (by omega), if_pos (by omega)]
  · rw [if_neg (by omega), if_neg (by omega)]
theorem De.norm_step (d : De) (h0 : 256 ≤ d.R) (h : d.R < 16777216) : d.norm = d.step.norm := by
  unfold De.norm
  rw [sh_step d.R h0 h]
  rfl
def De.take (d : De) (lo hi tot : Nat) : De := De.norm ⟨d.C - min d.C (ahead d.R lo tot), width d.R lo hi tot, d.A, d.B⟩
/-- What holds of a decoder on the way. -/
structure De.Mid (d : De) : Prop where
  c : d.C < 4294967296
  r0 : 256 ≤ d.R
  r1 : d.R ≤ 4294967295
  a : d.A < 9223372036854775808
  b : Byts d.B
  l : d.B.length ≤ 5000
theorem aAt_lt {B : List Int} {A : Nat} (h : A < 9223372036854775808) (hl : B.length ≤ 5000) : aAt B A < 9223372036854775808 := by unfold aAt; split <;> omega
theorem De.Mid.step {d : De} (h : d.Mid) (hr : d.R < 16777216) : d.step.Mid := by
  have := bAt_lt h.b d.A
  have := h.r0
  exact ⟨by show _ % _ * 256 + _ < _; omega, by show 256 ≤ d.R * 256; omega, by show d.R * 256 ≤ _; omega, aAt_lt h.a h.l, h.b, h.l⟩
theorem De.Mid.done {d : De} (h : d.Mid) (hr : 16777216 ≤ d.R) : d.Ok := ⟨h.c, ⟨hr, h.r1⟩, h.a, h.b, h.l⟩
theorem De.Mid.norm {d : De} (h : d.Mid) : d.norm.Ok := by
  by_cases h1 : 16777216 ≤ d.R
  · rw [De.norm_done d h1]; exact h.done h1
  · rw [De.norm_step d h.r0 (by omega)]
    have m1 := h.step (by omega)
    by_cases h2 : 16777216 ≤ d.step.R
    · rw [De.norm_done _ h2]; exact m1.done h2
    · rw [De.norm_step _ m1.r0 (by omega)]
      have m2 := m1.step (by omega)
      have : 16777216 ≤ d.step.step.R := by show 16777216 ≤ d.R * 256 * 256; have := h.r0; omega
      rw [De.norm_done _ this]; exact m2.done this
theorem De.Ok.mid {d : De} (h : d.Ok) {lo hi tot : Nat} (hf : Fair lo hi tot) : (De.mk (d.C - min d.C (ahead d.R lo tot)) (width d.R lo hi tot) d.A d.B).Mid := by
  have h1 := width_256 h.r hf
  have h2 := ahead_width (R := d.R) hf
  have h3 := h.r.2
  have h4 := h.c
  exact ⟨by show d.C - _ < _; omega, h1, by show width _ _ _ _ ≤ _; omega, h.a, h.b, h.l⟩
theorem De.Ok.take {d : De} (h : d.Ok) {lo hi tot : Nat} (hf : Fair lo hi tot) : (d.take lo hi tot).Ok := (h.mid hf).norm
theorem De.norm_B (d : De) : d.norm.B = d.B := by
  unfold De.norm
  generalize sh d.R = k
  induction k generalizing d with
  | zero => rfl
  | succ k ih => exact ih d.step
theorem De.take_B (d : De) (lo hi tot : Nat) : (d.take lo hi tot).B = d.B := De.norm_B _
def De.get (d : De) (tot : Nat) : Nat := min (d.C / (d.R / tot)) (tot - 1)

/-- The values of a decoder: the program's, the document's. -/
def decV (a : Option Addr) (cap : Nat) (d : De) : Value := .agg #[.int .u64 d.C, .int .u32 d.R, .slice a d.B.length cap, .int .i64 d.A]
def decW (a : Option Addr) (cap : Nat) (d : De) : Value := .agg #[.int .u64 d.C, .int .u64 d.R, .slice a d.B.length cap, .int .i64 d.A]

/-! ### Open -/
def mn (B : List Int) (k : Nat) : Nat := min k B.length
theorem mn_byte (B : List Int) (k : Nat) : bAt B (mn B k) = bAt B k := by
  unfold mn
  by_cases h : k ≤ B.length
  · rw [Nat.min_eq_left h]
  · rw [Nat.min_eq_right (by omega), bAt_past (Nat.le_refl _), bAt_past (by omega)]
theorem mn_next (B : List Int) (k : Nat) : aAt B (mn B k) = mn B (k + 1) := by unfold aAt mn; split <;> omega
theorem openC_small {B : List Int} (hB : Byts B) {k : Nat} (hk : k < 4) : openC B k < 16777216 := by
  have h1 := openC_lt hB k
  have h2 : (256 : Nat) ^ k ≤ 256 ^ 3 := Nat.pow_le_pow_right (by decide) (by omega)
  omega
set_option maxHeartbeats 1000000 in
theorem open_any (a : Option Addr) (cap : Nat) (B : List Int) (w : World) (hv : Rw .u8 w (.slice a B.length cap) B) (hB : Byts B) (hl : B.length ≤ 5000) :
    Calls Tryz.prog 39 #[.slice a B.length cap] w fun e w' => e = .returned (decV a cap (De.open B)) ∧ Below w.heap.size w w' := by
  unfold decV De.open
  simp only
  go_enter Tryz.func39, Tryz.ntmps39
  go_wp2
  go_loopw [6] (fun i wr => ∃ k : Nat, k ≤ 4 ∧ i = .int .i64 k ∧ B4 wr w.heap.size (.int .u64 0) (.int .u32 0) (.slice none 0 0) (.int .i64 0) ∧ B4 wr (w.heap.size + 1) (.int .u64 (openC B k : Nat)) (.int .u32 4294967295) (.slice a B.length cap) (.int .i64 (mn B k : Nat)) ∧ Below w.heap.size w wr) (fun i _ => 4 - (intOf i).toNat)
  case atStart =>
    refine ⟨0, by omega, rfl, (B4.new w _ _ _ _ _).below (below1 _ _), ?_, below2 _ _ _⟩
    have : mn B 0 = 0 := by simp [mn]
    rw [this]
    exact B4.new2 _ _ _ _ _ _ _
  case round =>
    obtain ⟨k, hk, rfl, hr4, hb4, hb⟩ := hrel
    by_cases hlt : k < 4
    · obtain ⟨z, c0, c1, c2, c3, f0, f1, f2, f3⟩ := id hb4
      have hsmall := openC_small hB hlt
      have hcall := nextByte_any (openC B k) 4294967295 (mn B k) a cap B wr (hv.below hb) hB hl (by omega) (by unfold mn; omega)
      rw [mn_byte, mn_next, Nat.mod_eq_of_lt hsmall] at hcall
      have hO : openC B k * 256 + bAt B k = openC B (k + 1) := rfl
      rw [hO] at hcall
      clear hO
      go_wp2_with (go_at_call 69; refine hcall.mono ?_; rintro e w' ⟨rfl, hb1⟩; obtain ⟨z', c0', c1', c2', c3', f0', f1', f2', f3'⟩ := hb4.below hb1)
      go_roundw
      case rel => exact ⟨k + 1, by omega, by go_num, ((((hr4.below hb1).other _ _ _ (by omega)).other _ _ _ (by omega)).other _ _ _ (by omega)).other _ _ _ (by omega), (hb4.below hb1).set _ _ _ _, bset4 (bthen hb hb1 hb.size) _ _ _ _ _ (by omega)⟩
      case measure => simp [intOf]; omega
    · have hk4 : k = 4 := by omega
      subst hk4
      obtain ⟨z, c0, c1, c2, c3, f0, f1, f2, f3⟩ := id hb4
      obtain ⟨rz, r0, r1, r2, r3, p0, p1, p2, p3⟩ := id hr4
      go_wp2
      refine bodyPost_ret (v := .agg #[.int .u64 (openC B 4 : Nat), .int .u32 4294967295, .slice a B.length cap, .int .i64 4]) (by simp [results, Tryz.results39, go_sem, c0, c1, c2, c3, r0, r1, r2, r3, p0, p1, p2, p3]) rfl ⟨rfl, ?_⟩
      exact bset4 (bset1 hb _ _ _ (by omega)) _ _ _ _ _ (by omega)

/-! ### The document's next, Open -/
theorem rnext_any (a : Option Addr) (cap : Nat) (B : List Int) (A : Nat) (w : World) (hv : Rw .u8 w (.slice a B.length cap) B) (hB : Byts B) (hl : B.length ≤ 5000) (hA : A < 9223372036854775808) :
    Calls Tryz.prog 76 #[.slice a B.length cap, .int .i64 A] w fun e w' => e = .returned (.tuple #[.int .u64 (bAt B A : Nat), .int .i64 (aAt B A : Nat)]) ∧ w' = w := by
  by_cases h : A < B.length
  · have hA' : aAt B A = A + 1 := by unfold aAt; rw [if_pos h]
    rw [hA', show ((A + 1 : Nat) : Int) = (A : Int) + 1 by omega]
    obtain ⟨b, off, rfl, hb, hcell⟩ := hv.at A h
    rw [bAt_get hB] at hcell
    have hy := bAt_lt hB A
    generalize bAt B A = y at *
    go_enter Tryz.func76, Tryz.ntmps76
    go_wp2
    exact bodyPost_ret (v := .tuple #[_, _]) (by simp [results, Tryz.results76, go_sem]) rfl ⟨rfl, rfl⟩
  · have hA' : aAt B A = A := by unfold aAt; rw [if_neg h]
    rw [hA', bAt_past (by omega)]
    go_enter Tryz.func76, Tryz.ntmps76
    go_wp2
    exact bodyPost_ret (v := .tuple #[_, _]) (by simp [results, Tryz.results76, go_sem]) rfl ⟨rfl, rfl⟩

set_option maxHeartbeats 1000000 in
theorem ropen_any (a : Option Addr) (cap : Nat) (B : List Int) (w : World) (hv : Rw .u8 w (.slice a B.length cap) B) (hB : Byts B) (hl : B.length ≤ 5000) :
    Calls Tryz.prog 43 #[.slice a B.length cap] w fun e w' => e = .returned (decW a cap (De.open B)) ∧ Below w.heap.size w w' := by
  unfold decW De.open
  simp only
  go_enter Tryz.func43, Tryz.ntmps43
  go_wp2
  go_loopw [4, 5] (fun at_ i wr => ∃ k : Nat, k ≤ 4 ∧ i = .int .i64 k ∧ at_ = .int .i64 (mn B k : Nat) ∧ B4 wr w.heap.size (.int .u64 0) (.int .u64 0) (.slice none 0 0) (.int .i64 0) ∧ B4 wr (w.heap.size + 1) (.int .u64 (openC B k : Nat)) (.int .u64 4294967295) (.slice a B.length cap) (.int .i64 4) ∧ Below w.heap.size w wr) (fun _ i _ => 4 - (intOf i).toNat)
  case atStart =>
    refine ⟨0, by omega, rfl, ?_, (B4.new w _ _ _ _ _).below (below1 _ _), B4.new2 _ _ _ _ _ _ _, below2 _ _ _⟩
    have : mn B 0 = 0 := by simp [mn]
    rw [this]; rfl
  case round =>
    obtain ⟨k, hk, rfl, rfl, hr4, hb4, hb⟩ := hrel
    by_cases hlt : k < 4
    · obtain ⟨z, c0, c1, c2, c3, f0, f1, f2, f3⟩ := id hb4
      have hsmall := openC_small hB hlt
      have hb8 := bAt_lt hB k
      have hcall := rnext_any a cap B (mn B k) wr (hv.below hb) hB hl (by unfold mn; omega)
      rw [mn_byte, mn_next] at hcall
      have hO : ((openC B (k + 1) : Nat) : Int) = (openC B k : Int) * 256 + (bAt B k : Int) := by simp [openC]
      have HO : Hid _ := hO
      clear hO
      go_wp2_with (go_at_call 76; refine hcall.mono ?_; rintro e w' ⟨rfl, rfl⟩)
      go_roundw
      case rel => exact ⟨k + 1, by omega, by go_num, rfl, hr4.other _ _ _ (by omega), by rw [HO.out]; exact hb4.set0 _, bset1 hb _ _ _ (by omega)⟩
      case measure => simp [intOf]; omega
    · have hk4 : k = 4 := by omega
      subst hk4
      obtain ⟨z, c0, c1, c2, c3, f0, f1, f2, f3⟩ := id hb4
      obtain ⟨rz, r0, r1, r2, r3, p0, p1, p2, p3⟩ := id hr4
      go_wp2
      refine bodyPost_ret (v := .agg #[.int .u64 (openC B 4 : Nat), .int .u64 4294967295, .slice a B.length cap, .int .i64 4]) (by simp [results, Tryz.results43, go_sem, c0, c1, c2, c3, r0, r1, r2, r3, p0, p1, p2, p3]) rfl ⟨rfl, ?_⟩
      exact bset4 hb _ _ _ _ _ (by omega)
end Go.Proofs.YtidppkbphkcmeaaGreat
/- The decoder that stands for one; where a choice lies; what becomes of a decoder by a choice: the program, the document. -/
namespace Go.Proofs.YtidppkbphkcmeaaGreat
open Go.RowKit
set_option linter.unusedVariables false
set_option linter.unusedSimpArgs false

/-- A decoder that was handed in, and the one that stands for it. -/
def DvOf (w : World) (C R : Int) (a : Option Addr) (n cap : Nat) (A : Int) (d : De) : Prop :=
  d.Ok ∧ ((decB C R A = true ∧ C = d.C ∧ R = d.R ∧ A = d.A ∧ n = d.B.length ∧ Rw .u8 w (.slice a n cap) d.B) ∨ (decB C R A = false ∧ d = ⟨0, 4294967295, 4, []⟩))
theorem DvOf.below {w w' : World} {C R : Int} {a : Option Addr} {n cap : Nat} {A : Int} {d : De} (h : DvOf w C R a n cap A d) (hb : Below w.heap.size w w') : DvOf w' C R a n cap A d := by
  obtain ⟨h0, h⟩ := h
  refine ⟨h0, ?_⟩
  rcases h with ⟨h1, h2, h3, h4, h5, h6⟩ | h
  · exact .inl ⟨h1, h2, h3, h4, h5, h6.below hb⟩
  · exact .inr h
theorem De.Ok.decB {d : De} (h : d.Ok) : decB d.C d.R d.A = true := by
  unfold Go.Proofs.YtidppkbphkcmeaaGreat.decB
  rw [decide_eq_true_eq]
  have := h.c
  have := h.r.1
  omega
theorem De.Ok.dv {d : De} (h : d.Ok) {w : World} {a : Option Addr} {cap : Nat} (hr : Rw .u8 w (.slice a d.B.length cap) d.B) : DvOf w d.C d.R a d.B.length cap d.A d :=
  ⟨h, .inl ⟨h.decB, rfl, rfl, rfl, rfl, hr⟩⟩
/-- Every decoder stands for one. -/
theorem dv_some {w : World} {C R : Int} {a : Option Addr} {n cap : Nat} {zs : List Int} {A : Int} (hC : (Lit.int .u64 C).wf = true) (hR : (Lit.int .u32 R).wf = true) (hA : (Lit.int .i64 A).wf = true) (hz : IsRow .u8 w a n cap zs) (hn : n ≤ 5000) : ∃ d, DvOf w C R a n cap A d := by
  obtain ⟨xs, hx, hrw, hby⟩ := row_rw hz
  subst hx
  cases h : decB C R A
  · exact ⟨⟨0, 4294967295, 4, []⟩, by rw [← De.open_nil]; exact De.open_ok Byts.nil (by simp), .inr ⟨h, rfl⟩⟩
  · have h' := h
    unfold decB at h'
    rw [decide_eq_true_eq] at h'
    simp [Lit.wf, IntKind.min, IntKind.max, IntKind.bits, IntKind.signed] at hC hR hA
    refine ⟨⟨C.toNat, R.toNat, A.toNat, xs⟩, ⟨by show C.toNat < _; omega, ⟨by show _ ≤ R.toNat; omega, by show R.toNat ≤ _; omega⟩, by show A.toNat < _; omega, hby, hn⟩, .inl ⟨h, ?_, ?_, ?_, rfl, hrw⟩⟩
    · show C = (C.toNat : Int); omega
    · show R = (R.toNat : Int); omega
    · show A = (A.toNat : Int); omega

theorem DvOf.row {w : World} {C R : Int} {a : Option Addr} {n cap : Nat} {A : Int} {d : De} (h : DvOf w C R a n cap A d) (hb : decB C R A = true) : Rw .u8 w (.slice a n cap) d.B := by
  obtain ⟨_, h⟩ := h
  rcases h with ⟨_, _, _, _, _, h6⟩ | ⟨h1, _⟩
  · exact h6
  · rw [hb] at h1; cases h1
set_option maxHeartbeats 1000000 in
theorem decFor_any (C R : Int) (a : Option Addr) (n cap : Nat) (A : Int) (d : De) (w0 w : World) (h : DvOf w0 C R a n cap A d) :
    Calls Tryz.prog 94 #[.agg #[.int .u64 C, .int .u32 R, .slice a n cap, .int .i64 A]] w fun e w' => ∃ a' cap', e = .returned (decV a' cap' d) ∧ (∀ w1, DvOf w1 C R a n cap A d → Rw .u8 w1 (.slice a' d.B.length cap') d.B) ∧ Below w.heap.size w w' := by
  obtain ⟨h0, h⟩ := h
  rcases h with ⟨h1, rfl, rfl, rfl, rfl, h6⟩ | ⟨h1, rfl⟩
  · go_enter Tryz.func94, Tryz.ntmps94
    go_wp2_with (go_at_call 108; refine (rightDec_any _ _ _ _ _ _ _).mono ?_; rw [h1]; rintro e w' ⟨rfl, hb1⟩; obtain ⟨z, c0, c1, c2, c3, f0, f1, f2, f3⟩ := ((B4.new w _ _ _ _ _).below (below1 _ _)).below hb1; obtain ⟨rz, r0, r1, r2, r3, p0, p1, p2, p3⟩ := (B4.new2 w _ _ _ _ _ _).below hb1)
    refine bodyPost_ret (v := decV a cap d) (by simp [results, Tryz.results94, go_sem, c0, c1, c2, c3, r0, r1, r2, r3, p0, p1, p2, p3, decV]) rfl ⟨a, cap, rfl, fun w1 hh => hh.row h1, ?_⟩
    exact bset4 (bthen (below2 w _ _) hb1 (by simp; omega)) _ _ _ _ _ (by omega)
  · have hop := fun w => open_any none 0 [] w ⟨none, 0, rfl, .inl rfl⟩ Byts.nil (by simp)
    rw [De.open_nil] at hop
    unfold decV at hop ⊢
    simp only at hop ⊢
    go_enter Tryz.func94, Tryz.ntmps94
    go_wp2_with (first | (go_at_call 108; refine (rightDec_any _ _ _ _ _ _ _).mono ?_; rw [h1]; rintro e w' ⟨rfl, hb1⟩) | (go_at_call 39; refine (hop _).mono ?_; rintro e w2 ⟨rfl, hb2⟩; obtain ⟨rz, r0, r1, r2, r3, p0, p1, p2, p3⟩ := ((B4.new2 w _ _ _ _ _ _).below hb1).below hb2))
    refine bodyPost_ret (v := .agg #[.int .u64 0, .int .u32 4294967295, .slice none 0 0, .int .i64 4]) (by simp [results, Tryz.results94, go_sem, r0, r1, r2, r3, p0, p1, p2, p3]) rfl ⟨none, 0, rfl, fun w1 _ => ⟨none, 0, rfl, .inl rfl⟩, ?_⟩
    have hbb := bthen (below2 w _ _) hb1 (by simp; omega)
    exact bset4 (bthen hbb hb2 hbb.size) _ _ _ _ _ (by omega)

/-! ### Is it the document's? -/
/-! ### Clamp -/
def clampI (v lo hi : Int) : Int := if v < lo then lo else if hi < v then hi else v
theorem clamp_any (v lo hi : Int) (w : World) : Calls Tryz.prog 95 #[.int .i64 v, .int .i64 lo, .int .i64 hi] w fun e w' => e = .returned (.int .i64 (clampI v lo hi)) ∧ w' = w := by
  unfold clampI
  by_cases h0 : v < lo
  · rw [if_pos h0]
    go_enter Tryz.func95, Tryz.ntmps95
    go_wp2
    go_ret; exact ⟨rfl, rfl⟩
  · rw [if_neg h0]
    by_cases h1 : hi < v
    · rw [if_pos h1]
      go_enter Tryz.func95, Tryz.ntmps95
      go_wp2
      go_ret; exact ⟨rfl, rfl⟩
    · rw [if_neg h1]
      go_enter Tryz.func95, Tryz.ntmps95
      go_wp2
      go_ret; exact ⟨rfl, rfl⟩
theorem rclamp_any (v lo hi : Int) (w : World) : Calls Tryz.prog 77 #[.int .i64 v, .int .i64 lo, .int .i64 hi] w fun e w' => e = .returned (.int .i64 (clampI v lo hi)) ∧ w' = w := by
  unfold clampI
  by_cases h0 : v < lo
  · rw [if_pos h0]
    go_enter Tryz.func77, Tryz.ntmps77
    go_wp2
    go_ret; exact ⟨rfl, rfl⟩
  · rw [if_neg h0]
    by_cases h1 : hi < v
    · rw [if_pos h1]
      go_enter Tryz.func77, Tryz.ntmps77
      go_wp2
      go_ret; exact ⟨rfl, rfl⟩
    · rw [if_neg h1]
      go_enter Tryz.func77, Tryz.ntmps77
      go_wp2
      go_ret; exact ⟨rfl, rfl⟩
theorem clamp_min (q t : Nat) (ht : 1 ≤ t) : clampI (q : Int) 0 ((t : Int) - 1) = ((min q (t - 1) : Nat) : Int) := by
  unfold clampI
  rw [if_neg (by omega)]
  split <;> omega

/-! ### Get -/
set_option maxHeartbeats 1000000 in
theorem get_arg (C R : Int) (a : Option Addr) (n cap : Nat) (A : Int) (tot : Int) (w : World) (ht : tot < 1 ∨ 65536 < tot) :
    Calls Tryz.prog 67 #[.agg #[.int .u64 C, .int .u32 R, .slice a n cap, .int .i64 A], .int .i64 tot] w fun e w' => e = .returned (.tuple #[.int .i64 0, .int .i64 1]) ∧ Below w.heap.size w w' := by
  by_cases h : tot < 1
  · go_enter Tryz.func67, Tryz.ntmps67
    go_wp2
    exact bodyPost_ret (v := .tuple #[_, _]) (by simp [results, Tryz.results67, go_sem]) rfl ⟨rfl, below1 _ _⟩
  · have h2 : 65536 < tot := by omega
    clear ht
    go_enter Tryz.func67, Tryz.ntmps67
    go_wp2
    exact bodyPost_ret (v := .tuple #[_, _]) (by simp [results, Tryz.results67, go_sem]) rfl ⟨rfl, below1 _ _⟩
set_option maxHeartbeats 1000000 in
theorem get_any (C R : Int) (a : Option Addr) (n cap : Nat) (A : Int) (d : De) (tot : Nat) (w : World) (h : DvOf w C R a n cap A d) (h1 : 1 ≤ tot) (h2 : tot ≤ 65536) :
    Calls Tryz.prog 67 #[.agg #[.int .u64 C, .int .u32 R, .slice a n cap, .int .i64 A], .int .i64 tot] w fun e w' => e = .returned (.tuple #[.int .i64 (d.get tot : Nat), .int .i64 0]) ∧ Below w.heap.size w w' := by
  have hq := unit_ge h.1.r h1 h2
  have hq2 : d.R / tot ≤ d.R := Nat.div_le_self _ _
  have hr := h.1.r.2
  have hc := h.1.c
  have hg := clamp_min (d.C / (d.R / tot)) tot h1
  have hv : d.C / (d.R / tot) ≤ d.C := Nat.div_le_self _ _
  have e1 : ((d.R : Int).tdiv (tot : Int)) = ((d.R / tot : Nat) : Int) := rfl
  have e2 : ((d.C : Int).tdiv ((d.R / tot : Nat) : Int)) = ((d.C / (d.R / tot) : Nat) : Int) := rfl
  have t0 : ((tot : Int) == 0) = false := by simp; omega
  unfold De.get
  rw [← hg]
  generalize d.C / (d.R / tot) = V at *
  generalize d.R / tot = q at *
  have t1 : ((q : Int) == 0) = false := by simp; omega
  clear hg
  go_enter Tryz.func67, Tryz.ntmps67
  go_wp2_with (first | (go_at_call 94; refine (decFor_any _ _ _ _ _ _ d w _ h).mono ?_; rintro e w' ⟨a', cap', rfl, hrw, hb1⟩; unfold decV; obtain ⟨z, c0, c1, c2, c3, f0, f1, f2, f3⟩ := (B4.new w _ _ _ _ _).below hb1) | (go_at_call 95; refine (clamp_any _ _ _ _).mono ?_; rintro e w2 ⟨rfl, rfl⟩))
  exact bodyPost_ret (v := .tuple #[_, _]) (by simp [results, Tryz.results67, go_sem]) rfl ⟨rfl, bset4 (bthen (below1 w _) hb1 (by simp)) _ _ _ _ _ (Nat.le_refl _)⟩
end Go.Proofs.YtidppkbphkcmeaaGreat
/- A choice is taken: the program, the document. -/
namespace Go.Proofs.YtidppkbphkcmeaaGreat
open Go.RowKit
set_option linter.unusedVariables false
set_option linter.unusedSimpArgs false

set_option maxHeartbeats 1000000 in
theorem rget_any (a : Option Addr) (cap : Nat) (d : De) (tot : Nat) (w : World) (h : d.Ok) (h1 : 1 ≤ tot) (h2 : tot ≤ 65536) :
    Calls Tryz.prog 44 #[decW a cap d, .int .i64 tot] w fun e w' => e = .returned (.int .i64 (d.get tot : Nat)) ∧ Below w.heap.size w w' := by
  have hq := unit_ge h.r h1 h2
  have hq2 : d.R / tot ≤ d.R := Nat.div_le_self _ _
  have hr := h.r.2
  have hc := h.c
  have hg := clamp_min (d.C / (d.R / tot)) tot h1
  have hv : d.C / (d.R / tot) ≤ d.C := Nat.div_le_self _ _
  have e1 : ((d.R : Int).tdiv (tot : Int)) = ((d.R / tot : Nat) : Int) := rfl
  have e2 : ((d.C : Int).tdiv ((d.R / tot : Nat) : Int)) = ((d.C / (d.R / tot) : Nat) : Int) := rfl
  have t0 : ((tot : Int) == 0) = false := by simp; omega
  unfold De.get decW
  rw [← hg]
  generalize d.C / (d.R / tot) = V at *
  generalize d.R / tot = q at *
  have t1 : ((q : Int) == 0) = false := by simp; omega
  have t2 : IntKind.u64.wrap (tot : Int) = tot := nat_u64 _ (by omega)
  have t3 : IntKind.u64.wrap (q : Int) = q := nat_u64 _ (by omega)
  have t4 : IntKind.u64.wrap (V : Int) = V := nat_u64 _ (by omega)
  clear hg
  go_enter Tryz.func44, Tryz.ntmps44
  go_wp2
  go_region
  go_wp2_with (go_at_call 77; refine (rclamp_any _ _ _ _).mono ?_; rintro e w2 ⟨rfl, rfl⟩)
  go_ret
  exact ⟨rfl, (below1 _ _).drew⟩

/-- How often a range is still to be moved on, of a struct in memory. -/
def cellSh (w : World) (b : Nat) : Nat := match w.cell? ⟨b, 1, none⟩ with
  | some (.int _ r) => sh r.toNat
  | _ => 0
theorem cellSh_of {w : World} {b : Nat} {k : IntKind} {r : Int} (h : w.cell? ⟨b, 1, none⟩ = some (.int k r)) : cellSh w b = sh r.toNat := by
  unfold cellSh; rw [h]

set_option maxHeartbeats 1000000 in
theorem take_arg (C R : Int) (a : Option Addr) (n cap : Nat) (A : Int) (d : De) (lo hi tot : Int) (w : World) (h : DvOf w C R a n cap A d) (hf : fairB lo hi tot = false) :
    Calls Tryz.prog 68 #[.agg #[.int .u64 C, .int .u32 R, .slice a n cap, .int .i64 A], .int .i64 lo, .int .i64 hi, .int .i64 tot] w fun e w' => ∃ a' cap', e = .returned (.tuple #[decV a' cap' d, .int .i64 1]) ∧ (∀ w1, DvOf w1 C R a n cap A d → Rw .u8 w1 (.slice a' d.B.length cap') d.B) ∧ Below w.heap.size w w' := by
  have hW := below2 w (.cells #[.int .u64 C, .int .u32 R, .slice a n cap, .int .i64 A] 75) (.cells #[.int .u64 0, .int .u32 0, .slice none 0 0, .int .i64 0] 75)
  go_enter Tryz.func68, Tryz.ntmps68
  go_wp2_with (first | (go_at_call 94; refine (decFor_any _ _ _ _ _ _ d w _ h).mono ?_; rintro e w' ⟨a', cap', rfl, hrw, hb1⟩; unfold decV; obtain ⟨z, c0, c1, c2, c3, f0, f1, f2, f3⟩ := ((B4.new w _ _ _ _ _).below (below1 _ _)).below hb1; obtain ⟨rz, r0, r1, r2, r3, p0, p1, p2, p3⟩ := (B4.new2 w _ _ _ _ _ _).below hb1) | (go_at_call 78; refine (fair_any _ _ _ _).mono ?_; rw [hf]; rintro e w2 ⟨rfl, rfl⟩))
  refine bodyPost_ret (v := .tuple #[decV a' cap' d, .int .i64 1]) (by simp [results, Tryz.results68, go_sem, c0, c1, c2, c3, r0, r1, r2, r3, p0, p1, p2, p3, decV]) rfl ⟨a', cap', rfl, ?_, ?_⟩
  · exact hrw
  · exact bset4 (bset4 (bthen hW hb1 hW.size) _ _ _ _ _ (by omega)) _ _ _ _ _ (by omega)

set_option maxRecDepth 10000 in
set_option maxHeartbeats 2000000 in
theorem take_any (C R : Int) (a : Option Addr) (n cap : Nat) (A : Int) (d : De) (lo hi tot : Nat) (w : World) (h : DvOf w C R a n cap A d) (hf : Fair lo hi tot) :
    Calls Tryz.prog 68 #[.agg #[.int .u64 C, .int .u32 R, .slice a n cap, .int .i64 A], .int .i64 lo, .int .i64 hi, .int .i64 tot] w fun e w' => ∃ a' cap', e = .returned (.tuple #[decV a' cap' (d.take lo hi tot), .int .i64 0]) ∧ (∀ w1, DvOf w1 C R a n cap A d → Rw .u8 w1 (.slice a' d.B.length cap') d.B) ∧ Below w.heap.size w w' := by
  have hW := below2 w (.cells #[.int .u64 C, .int .u32 R, .slice a n cap, .int .i64 A] 75) (.cells #[.int .u64 0, .int .u32 0, .slice none 0 0, .int .i64 0] 75)
  have hmid := h.1.mid hf
  have hd := h.1
  have hal := ahead_width (R := d.R) hf
  have hsh := fun w => share_any d.R lo hi tot w hd.r hf
  have hq := hd.c
  have hr := hd.r.2
  have hB := De.take_B d lo hi tot
  unfold De.take at hB ⊢
  generalize ahead d.R lo tot = al at *
  generalize width d.R lo hi tot = wi at *
  obtain ⟨F, hF⟩ : ∃ F, F = De.norm ⟨d.C - min d.C al, wi, d.A, d.B⟩ := ⟨_, rfl⟩
  rw [← hF] at hB ⊢
  have HF : Hid _ := hF
  clear hF
  obtain ⟨c', hc'⟩ : ∃ c', d.C - min d.C al = c' := ⟨_, rfl⟩
  rw [hc'] at HF hmid
  have hcc : ((d.C : Int) - min (d.C : Int) (al : Int)) = (c' : Int) := by omega
  have hw := hmid.r0
  have hc1 := hmid.c
  have hff := fair_nat hf
  have hl := hd.l
  have hby := hd.b
  have h3 : (d.C < al) ∨ (d.C ≤ al ∧ al ≤ d.C) ∨ (al < d.C) := by omega
  rcases h3 with hca | ⟨hca, hcb⟩ | hca
  all_goals
    go_enter Tryz.func68, Tryz.ntmps68
    go_wp2_with (first | (go_at_call 94; refine (decFor_any _ _ _ _ _ _ d w _ h).mono ?_; rintro e w' ⟨a', cap', rfl, hrw, hb1⟩; unfold decV; obtain ⟨z, c0, c1, c2, c3, f0, f1, f2, f3⟩ := ((B4.new w _ _ _ _ _).below (below1 _ _)).below hb1; obtain ⟨rz, r0, r1, r2, r3, p0, p1, p2, p3⟩ := (B4.new2 w _ _ _ _ _ _).below hb1) | (go_at_call 78; refine (fair_any _ _ _ _).mono ?_; rw [hff]; rintro e w2 ⟨rfl, rfl⟩) | (go_at_call 79; refine (hsh _).mono ?_; rintro e w2 ⟨rfl, rfl⟩))
  all_goals
    have hbx : B4 w' w.heap.size (.int .u64 C) (.int .u32 R) (.slice a n cap) (.int .i64 A) := ⟨z, c0, c1, c2, c3, f0, f1, f2, f3⟩
    have hby' : B4 w' (w.heap.size + 1) (.int .u64 0) (.int .u32 0) (.slice none 0 0) (.int .i64 0) := ⟨rz, r0, r1, r2, r3, p0, p1, p2, p3⟩
    have hbw := bthen hW hb1 hW.size
    have hrw0 := hrw _ h
    have HRW : Hid (∀ w1, DvOf w1 C R a n cap A d → Rw .u8 w1 (.slice a' d.B.length cap') d.B) := hrw
    clear hrw
    clear c0 c1 c2 c3 f0 f1 f2 f3 r0 r1 r2 r3 p0 p1 p2 p3
    go_loopw [] (fun wr => ∃ (C' R' A' : Nat) (r : Int), (De.mk C' R' A' d.B).Mid ∧ Hid (De.norm ⟨C', R', A', d.B⟩ = F) ∧ Hid (r = R') ∧ B4 wr w.heap.size (.int .u64 C') (.int .u32 r) (.slice a' d.B.length cap') (.int .i64 A') ∧ B4 wr (w.heap.size + 1) (.int .u64 0) (.int .u32 0) (.slice none 0 0) (.int .i64 0) ∧ Below w.heap.size w wr) (fun wr => cellSh wr w.heap.size)
    case atStart =>
      refine ⟨c', wi, d.A, wi, hmid, HF.out.symm, rfl, ?_, (((((hby'.other _ _ _ (by omega)).other _ _ _ (by omega)).other _ _ _ (by omega)).other _ _ _ (by omega)).other _ _ _ (by omega)).other _ _ _ (by omega), bset1 (bset1 (bset4 hbw _ _ _ _ _ (by omega)) _ _ _ (by omega)) _ _ _ (by omega)⟩
      first
        | (have e0 : (c' : Int) = 0 := by omega
           rw [e0]; exact ((hbx.set (.int .u64 d.C) (.int .u32 d.R) (.slice a' d.B.length cap') (.int .i64 d.A)).set0 (.int .u64 0)).set1 (.int .u32 wi))
        | (have e0 : (c' : Int) = (d.C : Int) - al := by omega
           rw [e0]; exact ((hbx.set (.int .u64 d.C) (.int .u32 d.R) (.slice a' d.B.length cap') (.int .i64 d.A)).set0 (.int .u64 ((d.C : Int) - al))).set1 (.int .u32 wi))
    case round =>
      clear hcc hc' hB hal hsh hff hmid h hca hbx hby'
      obtain ⟨C', R', A', r, hm, HN, HR, hb4, hr4, hbr⟩ := hrel
      obtain ⟨z, c0, c1, c2, c3, f0, f1, f2, f3⟩ := id hb4
      have m0 : (256 : Int) ≤ r := by rw [HR.out]; have : 256 ≤ R' := hm.r0; omega
      have m1 : r ≤ 4294967295 := by rw [HR.out]; have : R' ≤ 4294967295 := hm.r1; omega
      have hsz := hbr.size
      by_cases hlt : r < 16777216
      · have hR3 : R' < 16777216 := by have := HR.out; omega
        have hcall := nextByte_any C' R' A' a' cap' d.B wr (hrw0.below hbr) hby hl hm.c hm.a
        rw [← HR.out] at hcall
        have hst : Hid (De.norm ⟨C' % 16777216 * 256 + bAt d.B A', R' * 256, aAt d.B A', d.B⟩ = F) := by
          unfold Hid
          rw [← HN.out, De.norm_step ⟨C', R', A', d.B⟩ hm.r0 hR3]
          rfl
        have hms2 : (De.mk (C' % 16777216 * 256 + bAt d.B A') (R' * 256) (aAt d.B A') d.B).Mid := hm.step hR3
        have hsh := sh_step R' hm.r0 hR3
        have HM : Hid (sh R' = sh (R' * 256) + 1) := hsh
        clear hR3 hsh
        generalize C' % 16777216 * 256 + bAt d.B A' = C2 at *
        generalize aAt d.B A' = A2 at *
        go_wp2_with (go_at_call 69; refine hcall.mono ?_; rintro e w1 ⟨rfl, hb2⟩; obtain ⟨z', c0', c1', c2', c3', f0', f1', f2', f3'⟩ := hb4.below hb2)
        have hs1 := cellSh_of c1
        have hnew : B4 _ w.heap.size (.int .u64 C2) (.int .u32 (r * 256)) (.slice a' d.B.length cap') (.int .i64 A2) := ((hb4.below hb2).set (.int .u64 C2) (.int .u32 r) (.slice a' d.B.length cap') (.int .i64 A2)).set1 _
        have hs2 := cellSh_of hnew.c1
        have hr2 : (r * 256).toNat = R' * 256 := by rw [HR.out]; omega
        have hr1 : r.toNat = R' := by rw [HR.out]; omega
        go_roundw
        case rel =>
          exact ⟨C2, R' * 256, A2, r * 256, hms2, hst, by unfold Hid; rw [HR.out]; omega, hnew, ((((((hr4.below hb2).other _ _ _ (by omega)).other _ _ _ (by omega)).other _ _ _ (by omega)).other _ _ _ (by omega)).other _ _ _ (by omega)), bset1 (bset4 (bthen hbr hb2 hbr.size) _ _ _ _ _ (by omega)) _ _ _ (by omega)⟩
        case measure => rw [hs1, hs2, hr2, hr1, HM.out]; omega
      · have hFe : Hid ((De.mk C' R' A' d.B) = F) := by
          unfold Hid
          rw [← HN.out, De.norm_done _ (by show _ ≤ R'; have := HR.out; omega)]
        obtain ⟨rz, r0, r1, r2, r3, p0, p1, p2, p3⟩ := id hr4
        go_wp2
        refine bodyPost_ret (v := .tuple #[.agg #[.int .u64 C', .int .u32 r, .slice a' d.B.length cap', .int .i64 A'], .int .i64 0]) (by simp [results, Tryz.results68, go_sem, c0, c1, c2, c3, r0, r1, r2, r3, p0, p1, p2, p3, decV]) rfl ⟨a', cap', by rw [← hFe.out, HR.out]; rfl, ?_, ?_⟩
        · exact HRW.out
        · exact bset4 hbr _ _ _ _ _ (by omega)
end Go.Proofs.YtidppkbphkcmeaaGreat
/- A choice is taken, by the document. -/
namespace Go.Proofs.YtidppkbphkcmeaaGreat
open Go.RowKit
set_option linter.unusedVariables false
set_option linter.unusedSimpArgs false
set_option maxRecDepth 10000 in
set_option maxHeartbeats 2000000 in
theorem rtake_any (a : Option Addr) (cap : Nat) (d : De) (lo hi tot : Nat) (w : World) (hd : d.Ok) (hrw : Rw .u8 w (.slice a d.B.length cap) d.B) (hf : Fair lo hi tot) :
    Calls Tryz.prog 45 #[decW a cap d, .int .i64 lo, .int .i64 hi, .int .i64 tot] w fun e w' => e = .returned (decW a cap (d.take lo hi tot)) ∧ Below w.heap.size w w' := by
  have hmid := hd.mid hf
  have hal := ahead_width (R := d.R) hf
  have hsh := fun w => part_any d.R lo hi tot w hd.r hf
  have hq := hd.c
  have hr := hd.r.2
  have hB := De.take_B d lo hi tot
  unfold De.take at hB ⊢
  generalize ahead d.R lo tot = al at *
  generalize width d.R lo hi tot = wi at *
  obtain ⟨F, hF⟩ : ∃ F, F = De.norm ⟨d.C - min d.C al, wi, d.A, d.B⟩ := ⟨_, rfl⟩
  rw [← hF] at hB ⊢
  have HF : Hid _ := hF
  clear hF
  obtain ⟨c', hc'⟩ : ∃ c', d.C - min d.C al = c' := ⟨_, rfl⟩
  rw [hc'] at HF hmid
  have HC : Hid ((c' : Int) = (d.C : Int) - min (d.C : Int) (al : Int)) := by unfold Hid; omega
  clear hc'
  have hw := hmid.r0
  have hc1 := hmid.c
  have hl := hd.l
  have hby := hd.b
  have h3 : (d.C < al) ∨ (¬ d.C < al) := by omega
  unfold decW
  rcases h3 with hca | hca
  all_goals
    try have hcc : ((d.C : Int) - (al : Int)) = (c' : Int) := by have := HC.out; omega
    go_enter Tryz.func45, Tryz.ntmps45
    go_wp2_with (go_at_call 63; refine (hsh _).mono ?_; rintro e w2 ⟨rfl, rfl⟩)
  all_goals
    go_loopw [] (fun wr => ∃ (C' R' A' : Nat) (r : Int), (De.mk C' R' A' d.B).Mid ∧ Hid (De.norm ⟨C', R', A', d.B⟩ = F) ∧ Hid (r = R') ∧ B4 wr (w.heap.size + 1 + 1) (.int .u64 C') (.int .u64 r) (.slice a d.B.length cap) (.int .i64 A') ∧ B4 wr (w.heap.size + 1) (.int .u64 0) (.int .u64 0) (.slice none 0 0) (.int .i64 0) ∧ Below w.heap.size w wr) (fun wr => cellSh wr (w.heap.size + 1 + 1))
    case atStart =>
      refine ⟨c', wi, d.A, wi, hmid, HF.out.symm, rfl, ?_, (B4.new2 w _ _ _ _ _ _).below (below1 _ _), below3 _ _ _ _⟩
      have e := HC.out
      first
        | (have e1 : d.C < al := hca
           have e0 : (c' : Int) = 0 := by omega
           rw [e0]; exact B4.new3 _ _ _ _ _ _ _ _)
        | (have e1 : ¬ d.C < al := hca
           exact B4.new3 _ _ _ _ _ _ _ _)
    case round =>
      clear hB hsh hmid
      obtain ⟨C', R', A', r, hm, HN, HR, hb4, hr4, hbr⟩ := hrel
      obtain ⟨z, c0, c1, c2, c3, f0, f1, f2, f3⟩ := id hb4
      have m0 : (256 : Int) ≤ r := by rw [HR.out]; have : 256 ≤ R' := hm.r0; omega
      have m1 : r ≤ 4294967295 := by rw [HR.out]; have : R' ≤ 4294967295 := hm.r1; omega
      have hsz := hbr.size
      by_cases hlt : r < 16777216
      · have hR3 : R' < 16777216 := by have := HR.out; omega
        have hcall := rnext_any a cap d.B A' wr (hrw.below hbr) hby hl hm.a
        have hst : Hid (De.norm ⟨C' % 16777216 * 256 + bAt d.B A', R' * 256, aAt d.B A', d.B⟩ = F) := by
          unfold Hid
          rw [← HN.out, De.norm_step ⟨C', R', A', d.B⟩ hm.r0 hR3]
          rfl
        have hms2 : (De.mk (C' % 16777216 * 256 + bAt d.B A') (R' * 256) (aAt d.B A') d.B).Mid := hm.step hR3
        have hsh := sh_step R' hm.r0 hR3
        have HM : Hid (sh R' = sh (R' * 256) + 1) := hsh
        have hb8 := bAt_lt hby A'
        have hmod : C' % 16777216 < 16777216 := Nat.mod_lt _ (by decide)
        have hm1 : ((C' : Int).tmod 16777216) = ((C' % 16777216 : Nat) : Int) := rfl
        clear hR3 hsh
        generalize aAt d.B A' = A2 at *
        generalize bAt d.B A' = y at *
        generalize C' % 16777216 = cm at *
        go_wp2_with (go_at_call 76; refine hcall.mono ?_; rintro e w1 ⟨rfl, rfl⟩)
        have hs1 := cellSh_of c1
        have hnew : B4 _ (w.heap.size + 1 + 1) (.int .u64 ((cm : Int) * 256 + y)) (.int .u64 (r * 256)) (.slice a d.B.length cap) (.int .i64 A2) := ((hb4.set0 (.int .u64 ((cm : Int) * 256 + y))).set1 (.int .u64 (r * 256))).set3 (.int .i64 A2)
        have hs2 := cellSh_of hnew.c1
        have hr2 : (r * 256).toNat = R' * 256 := by rw [HR.out]; omega
        have hr1 : r.toNat = R' := by rw [HR.out]; omega
        go_roundw
        case rel =>
          refine ⟨cm * 256 + y, R' * 256, A2, r * 256, hms2, hst, by unfold Hid; rw [HR.out]; omega, ?_, ((((hr4.other _ _ _ (by omega)).other _ _ _ (by omega)).other _ _ _ (by omega))), bset1 (bset1 (bset1 hbr _ _ _ (by omega)) _ _ _ (by omega)) _ _ _ (by omega)⟩
          rw [show ((cm * 256 + y : Nat) : Int) = (cm : Int) * 256 + y by omega]
          exact hnew
        case measure => rw [hs1, hs2, hr2, hr1, HM.out]; omega
      · have hFe : Hid ((De.mk C' R' A' d.B) = F) := by
          unfold Hid
          rw [← HN.out, De.norm_done _ (by show _ ≤ R'; have := HR.out; omega)]
        obtain ⟨rz, r0, r1, r2, r3, p0, p1, p2, p3⟩ := id hr4
        go_wp2
        refine bodyPost_ret (v := .agg #[.int .u64 C', .int .u64 r, .slice a d.B.length cap, .int .i64 A']) (by simp [results, Tryz.results45, go_sem, c0, c1, c2, c3, r0, r1, r2, r3, p0, p1, p2, p3]) rfl ⟨by rw [← hFe.out, HR.out], ?_⟩
        exact bset4 hbr _ _ _ _ _ (by omega)
end Go.Proofs.YtidppkbphkcmeaaGreat
/- The encoder that stands for one, with bytes of its own; all bytes. -/
namespace Go.Proofs.YtidppkbphkcmeaaGreat
open Go.RowKit
set_option linter.unusedVariables false
set_option linter.unusedSimpArgs false

theorem info5 : (Tryz.prog.info? 5).map (fun i => (i.zero, i.size, i.bytes)) = some (some (.int .u8 0), 1, 1) := by kernel_rfl
theorem info3 : (Tryz.prog.info? 3).map (fun i => (i.zero, i.size, i.bytes)) = some (some (.int .i64 0), 1, 8) := by kernel_rfl

/-- An encoder that was handed in, and the one that stands for it. -/
def EvOf (w : World) (L R : Int) (a : Option Addr) (n cap : Nat) (e : En) : Prop :=
  e.Ok ∧ ((encB L R n = true ∧ L = e.low ∧ R = e.R ∧ n = e.m ∧ Rw .u8 w (.slice a n cap) e.out) ∨ (encB L R n = false ∧ e = En.new))
theorem EvOf.below {w w' : World} {L R : Int} {a : Option Addr} {n cap : Nat} {e : En} (h : EvOf w L R a n cap e) (hb : Below w.heap.size w w') : EvOf w' L R a n cap e := by
  obtain ⟨h0, h⟩ := h
  refine ⟨h0, ?_⟩
  rcases h with ⟨h1, h2, h3, h4, h5⟩ | h
  · exact .inl ⟨h1, h2, h3, h4, h5.below hb⟩
  · exact .inr h
theorem En.Ok.encB {e : En} (h : e.Ok) : encB e.low e.R e.m = true := by
  unfold Go.Proofs.YtidppkbphkcmeaaGreat.encB
  rw [decide_eq_true_eq]
  have := En.Ok.low_lt e
  have := h.r.1
  have := h.le
  omega
theorem En.Ok.ev {e : En} (h : e.Ok) {w : World} {a : Option Addr} {cap : Nat} (hr : Rw .u8 w (.slice a e.m cap) e.out) : EvOf w e.low e.R a e.m cap e :=
  ⟨h, .inl ⟨h.encB, rfl, rfl, rfl, hr⟩⟩
theorem ev_some {w : World} {L R : Int} {a : Option Addr} {n cap : Nat} {zs : List Int} (hL : (Lit.int .u64 L).wf = true) (hR : (Lit.int .u32 R).wf = true) (hz : IsRow .u8 w a n cap zs) : ∃ e, EvOf w L R a n cap e := by
  obtain ⟨xs, hx, hrw, hby⟩ := row_rw hz
  subst hx
  cases h : encB L R xs.length
  · exact ⟨En.new, En.new_ok, .inr ⟨h, rfl⟩⟩
  · have h' := h
    unfold encB at h'
    rw [decide_eq_true_eq] at h'
    simp [Lit.wf, IntKind.min, IntKind.max, IntKind.bits, IntKind.signed] at hL hR
    have l1 : L.toNat < 4294967296 := by omega
    refine ⟨En.of xs L.toNat R.toNat, En.of_ok hby l1 ⟨by omega, by omega⟩ (by omega), .inl ⟨h, ?_, ?_, rfl, ?_⟩⟩
    · rw [En.of_low _ _ _ l1]; omega
    · show R = (R.toNat : Int); omega
    · rw [En.of_out _ _ hby l1]; exact hrw

/-- The value of an encoder, the program's. -/
def encV (v : Value) (e : En) : Value := .agg #[.int .u64 e.low, .int .u32 e.R, v]

theorem run_make_more (n : Nat) (h : n ≤ 4000) (w : World) : (Instr.makeSlice 28 (.int .i64 (n : Int)) (.int .i64 ((n : Int) + 4))).run Tryz.prog w = .ok (.slice (some ⟨w.heap.size, 0, none⟩) n (n + 4)) (w.alloc (.cells (madeCells #[.int .u8 0] (n + 4)) 5)) := by
  obtain ⟨i0, hi, hz0, hz1, hz2⟩ := info_parts info5
  have := run_make (P := Tryz.prog) w 28 5 i0 (.int .u8 0) Tryz.underlying28 hi hz0 .i64 .i64 (n : Int) ((n : Int) + 4) (by omega) (by omega) (by rw [hz2]; omega) (by omega)
  rw [this, hz1, show ((n : Int) + 4).toNat = n + 4 by omega, show ((n : Int)).toNat = n by omega, Nat.mul_one]
  rfl

theorem made_heap (w : World) (n : Nat) : (w.alloc (.cells (madeCells #[.int .u8 0] (n + 4)) 5)).heap[w.heap.size]? = some (.cells (List.replicate (n + 4) (Value.int .u8 0)).toArray 5 (0, 0)) := by
  rw [← made_one]
  show (w.heap.push _)[w.heap.size]? = _
  simp

set_option maxRecDepth 10000 in
set_option maxHeartbeats 2000000 in
theorem encFor_any (L R : Int) (a : Option Addr) (n cap : Nat) (e : En) (w : World) (h : EvOf w L R a n cap e) :
    Calls Tryz.prog 58 #[.agg #[.int .u64 L, .int .u32 R, .slice a n cap]] w fun x w' => ∃ a' cap', x = .returned (encV (.slice a' e.m cap') e) ∧ w'.ownsRow w.heap.size 5 1 (.slice a' e.m cap') e.m (e.out.map (Value.int .u8)) ∧ Below w.heap.size w w' := by
  obtain ⟨h0, h⟩ := h
  have hW := below2 w (.cells #[.int .u64 L, .int .u32 R, .slice a n cap] 52) (.cells #[.int .u64 0, .int .u32 0, .slice none 0 0] 52)
  rcases h with ⟨h1, rfl, rfl, rfl, h6⟩ | ⟨h1, rfl⟩
  · have hle := h0.le
    have hmk := run_make_more e.m hle
    go_enter Tryz.func58, Tryz.ntmps58
    go_wp2_with (first | (go_at_call 91; refine (rightEnc_any _ _ _ _ _ _).mono ?_; rw [h1]; rintro x w1 ⟨rfl, hb1⟩; have hB3 := ((B3.new w _ _ _ _).below (below1 _ _)).below hb1; have hR3 := (B3.new2 w _ _ _ _ _).below hb1; obtain ⟨z, c0, c1, c2, f0, f1, f2⟩ := id hB3) | (refine wpList_copy_splice rfl (.tmp 16) (.tmp 18) 28 28 rfl 5 Tryz.underlying28 (by kernel_rfl) _ _ _ _ _ _ rfl rfl w1.heap.size 0 (List.replicate (e.m + 4) (.int .u8 0)) 5 (made_heap w1 e.m) (e.out.map (Value.int .u8)) ?c1 ?c2 ?c3 ?c4 w1.heap.size w1 (below1 w1 _) (Nat.le_refl _) ?_))
    case c1 => simp only [List.length_map, En.out_length]; exact (Nat.min_self _).symm
    case c2 =>
      intro hpos
      have hpos' : 0 < e.m := by simpa [En.out_length] using hpos
      have h7 : Rw .u8 _ (.slice a e.m cap) e.out := (h6.below (bthen hW hb1 hW.size)).below (below1 w1 (.cells (madeCells #[.int .u8 0] (e.m + 4)) 5))
      obtain ⟨a', cap', he, ha⟩ := h7
      rw [En.out_length] at he
      simp only [Value.slice.injEq] at he
      obtain ⟨rfl, _, rfl⟩ := he
      obtain ⟨b, off, rfl, hb, hc⟩ := ha.resolve_left (by intro h; have := En.out_length e; rw [h] at this; simp at this; omega)
      refine ⟨_, rfl, fun j x hj => ?_⟩
      have hjl : j < e.out.length := (List.getElem?_eq_some_iff.1 hj).1
      rw [Addr.add_lit, hc j hjl]
      simp [hj]
    case c3 => simp [En.out_length]
    case c4 => exact ints_oneCell _ _
    intro w2 H2 hb2
    have hz1 := hb1.size
    simp at hz1
    have hown : w2.ownsRow (w.heap.size + 2) 5 1 (.slice (some ⟨w1.heap.size, 0, none⟩) e.m (e.m + 4)) e.m (e.out.map (Value.int .u8)) := by
      refine ⟨by simp [En.out_length], .inr ⟨w1.heap.size, e.m + 4, _, rfl, by omega, H2.out, by omega, by unfold maxLen; omega, ?_, ?_⟩⟩
      · simp [splice, En.out_length]
      · simp [splice, En.out_length]
    have hB4 := hB3.below hb2
    have hR4 := hR3.below hb2
    have hbb : Below w.heap.size w w2 := bthen (bthen hW hb1 hW.size) hb2 (by omega)
    clear c0 c1 c2 f0 f1 f2 hb2 H2 hb1 hB3 hR3
    obtain ⟨z, c0, c1, c2, f0, f1, f2⟩ := id hB4
    obtain ⟨rz, r0, r1, r2, p0, p1, p2⟩ := id hR4
    go_wp2
    refine bodyPost_ret (v := encV (.slice (some ⟨w1.heap.size, 0, none⟩) e.m (e.m + 4)) e) (by simp [results, Tryz.results58, go_sem, c0, c1, c2, r0, r1, r2, p0, p1, p2, encV]) rfl ⟨_, _, rfl, ?_, ?_⟩
    · exact owns_base (owns_other (owns_other (owns_other (owns_other hown _ _ _ (by omega)) _ _ _ (by omega)) _ _ _ (by omega)) _ _ _ (by omega)) (by omega)
    · exact bset3 (bset1 hbb _ _ _ (by omega)) _ _ _ _ (by omega)
  · go_enter Tryz.func58, Tryz.ntmps58
    go_wp2_with (first | (go_at_call 91; refine (rightEnc_any _ _ _ _ _ _).mono ?_; rw [h1]; rintro x w1 ⟨rfl, hb1⟩) | (go_at_call 20; refine (new_any _).mono ?_; rintro x w2 ⟨rfl, hb2⟩; obtain ⟨rz, r0, r1, r2, p0, p1, p2⟩ := ((B3.new2 w _ _ _ _ _).below hb1).below hb2))
    have hbb := bthen hW hb1 hW.size
    refine bodyPost_ret (v := .agg #[.int .u64 0, .int .u32 4294967295, .slice none 0 0]) (by simp [results, Tryz.results58, go_sem, r0, r1, r2, p0, p1, p2]) rfl ⟨none, 0, rfl, World.ownsRow_nil _ _ _ _, ?_⟩
    exact bset3 (bthen hbb hb2 hbb.size) _ _ _ _ (by omega)
end Go.Proofs.YtidppkbphkcmeaaGreat
/- All bytes of an encoder; what is carried. -/
namespace Go.Proofs.YtidppkbphkcmeaaGreat
open Go.RowKit
set_option linter.unusedVariables false
set_option linter.unusedSimpArgs false

set_option maxRecDepth 10000 in
set_option maxHeartbeats 2000000 in
theorem finish_any (L R : Int) (a : Option Addr) (n cap : Nat) (e : En) (w : World) (h : EvOf w L R a n cap e) :
    Calls Tryz.prog 24 #[.agg #[.int .u64 L, .int .u32 R, .slice a n cap]] w fun x w' => ∃ v', x = .returned v' ∧ w'.ownsRow w.heap.size 5 1 v' (e.m + 4) (e.all.map (Value.int .u8)) ∧ Below w.heap.size w w' := by
  have hle := h.1.le
  have hlow := En.Ok.low_lt e
  obtain ⟨i0, hi, hz0, hz1, hz2⟩ := info_parts info5
  have hW := below1 w (.cells #[.int .u64 L, .int .u32 R, .slice a n cap] 52)
  have hall : e.all.map (Value.int .u8) = e.out.map (Value.int .u8) ++ [.int .u8 ((e.low : Int) / 16777216), .int .u8 ((e.low : Int) / 65536 % 256), .int .u8 ((e.low : Int) / 256 % 256), .int .u8 ((e.low : Int) % 256)] := by
    rw [En.all_eq]
    simp only [List.map_append, List.map_cons, List.map_nil]
    rfl
  rw [hall]
  clear hall
  obtain ⟨l, hl⟩ : ∃ l : Int, (e.low : Int) = l := ⟨_, rfl⟩
  have l0 : 0 ≤ l := by omega
  have l1 : l < 4294967296 := by omega
  rw [hl]
  have HL : Hid ((e.low : Int) = l) := hl
  clear hl hlow
  go_enter Tryz.func24, Tryz.ntmps24
  go_wp2_with (first | (go_at_call 58; refine (encFor_any _ _ _ _ _ e _ (h.below hW)).mono ?_; rintro x w1 ⟨a1, cap1, rfl, hown, hb1⟩; unfold encV; rw [HL.out]; obtain ⟨z, c0, c1, c2, f0, f1, f2⟩ := (B3.new w _ _ _ _).below hb1; have hown1 : w1.ownsRow (w.heap.size + 1) 5 1 (.slice a1 e.m cap1) e.m (e.out.map (Value.int .u8)) := (by simpa using hown); clear hown; have hown2 : (((w1.setCell ⟨w.heap.size, 0, none⟩ (.int .u64 l)).setCell ⟨w.heap.size, 1, none⟩ (.int .u32 e.R)).setCell ⟨w.heap.size, 2, none⟩ (.slice a1 e.m cap1)).ownsRow (w.heap.size + 1) 5 1 (.slice a1 e.m cap1) e.m (e.out.map (Value.int .u8)) := (owns_other (owns_other (owns_other hown1 _ _ _ (by omega)) _ _ _ (by omega)) _ _ _ (by omega))) | (at_builtin; refine wpList_append_own _ rfl _ _ 28 rfl (w.heap.size + 1) 5 i0 (.int .u8 0) 1 1 Tryz.underlying28 hi hz0 hz1 hz2 rfl (by decide) _ _ _ rfl (hown2.alloc _) ⟨w1.heap.size, 0, none⟩ 4 4 [.int .u8 (l / 16777216), .int .u8 (l / 65536 % 256), .int .u8 (l / 256 % 256), .int .u8 (l % 256)] rfl rfl (cell_four_at (by simp [World.setCell]) _ _ _ _ _) ?c2 ?c3 ?c4 ?c5 ?_))
  case c2 => intro u hu; simp at hu; rcases hu with rfl | rfl | rfl | rfl <;> rfl
  case c3 => unfold maxLen; omega
  case c4 => omega
  case c5 => simp [World.setCell]; omega
  intro v' w2 hown' hgrow _
  have hz1 := hb1.size
  simp at hz1
  have hbb : Below w.heap.size w w2 := by
    have h1 := bset3 (bthen hW hb1 hW.size) w.heap.size (.int .u64 l) (.int .u32 e.R) (.slice a1 e.m cap1) (Nat.le_refl _)
    refine (h1.alloc h1.size _).grown hgrow (by simp [World.setCell]; omega) (fun k hk => ?_)
    have := (hown2.lt k hk).1
    omega
  go_wp2
  go_ret
  exact ⟨_, rfl, owns_base hown' (by omega), hbb⟩
end Go.Proofs.YtidppkbphkcmeaaGreat
/- What is carried goes back through the bytes. -/
namespace Go.Proofs.YtidppkbphkcmeaaGreat
open Go.RowKit
set_option linter.unusedVariables false
set_option linter.unusedSimpArgs false

/-- What a carried one makes of bytes. -/
def carried (xs : List Int) : List Int := beL ((be xs + 1) % 256 ^ xs.length) xs.length
theorem carried_length (xs : List Int) : (carried xs).length = xs.length := beL_length _ _
theorem carried_be (xs : List Int) : be (carried xs) = (be xs + 1) % 256 ^ xs.length := by unfold carried; rw [be_beL, Nat.mod_mod]
theorem carried_byts (xs : List Int) : Byts (carried xs) := beL_byts _ _
theorem carried_hit {xs ys : List Int} (hy : Byts ys) (hl : ys.length = xs.length) (h : be ys = be xs + 1) : ys = carried xs := by
  have := be_lt hy
  refine beL_eq hy hl ?_
  rw [Nat.mod_eq_of_lt (by rw [← h, ← hl]; exact this), h]
theorem carried_gone {xs ys : List Int} (hx : Byts xs) (hy : Byts ys) (hl : ys.length = xs.length) (h : be ys + 256 ^ xs.length = be xs + 1) : ys = carried xs := by
  have h1 := be_lt hx
  have h2 : be ys = 0 := by omega
  refine beL_eq hy hl ?_
  rw [← h, h2]
  simp

set_option maxRecDepth 10000 in
set_option maxHeartbeats 2000000 in
theorem carry_any (a : Option Addr) (n cap : Nat) (xs : List Int) (base : Nat) (w : World) (h : w.ownsRow base 5 1 (.slice a n cap) n (xs.map (Value.int .u8))) (hx : Byts xs) (hn : n ≤ 4000) :
    Calls Tryz.prog 80 #[.slice a n cap] w fun e w' => (∃ v, e = .returned v) ∧ w'.ownsRow base 5 1 (.slice a n cap) n ((carried xs).map (Value.int .u8)) ∧ Below base w w' := by
  have hl : xs.length = n := by have := h.1; simpa using this
  have HL : Hid (xs.length = n) := hl
  clear hl
  go_enter Tryz.func80, Tryz.ntmps80
  go_wp2
  go_step3
  go_wp2
  go_step3
  go_wp2
  go_loopw [2] (fun i wr => ∃ (p : Nat) (ii : Int) (ys : List Int), p ≤ n ∧ i = .int .i64 ii ∧ Hid (ii = (p : Int) - 1) ∧ Byts ys ∧ Hid (ys.length = n) ∧ Hid (be ys + 256 ^ (n - p) = be xs + 1) ∧ wr.ownsRow base 5 1 (.slice a n cap) n (ys.map (Value.int .u8)) ∧ Below base w wr) (fun i _ => ((intOf i) + 1).toNat)
  case atStart => exact ⟨n, _, xs, Nat.le_refl _, rfl, rfl, hx, HL.out, by unfold Hid; simp, h, Below.refl _ _⟩
  case round =>
    obtain ⟨p, ii, ys, hp, rfl, HI, hy, HY, HB, hown, hbw⟩ := hrel
    by_cases hp0 : p = 0
    · subst hp0
      have hii : ii = -1 := by have := HI.out; simpa using this
      subst hii
      have hfin := carried_gone hx hy (HY.out.trans HL.out.symm) (by rw [HL.out]; have := HB.out; simpa using this)
      subst hfin
      go_wp2
      rw [Exit.noGoto_normal]
      exact bodyPost_end (v := .tuple #[]) (by simp [results, Tryz.results80, go_sem]) rfl ⟨⟨_, rfl⟩, hown, hbw⟩
    · obtain ⟨q, rfl⟩ : ∃ q, p = q + 1 := ⟨p - 1, by omega⟩
      have hii : ii = (q : Int) := by have := HI.out; omega
      subst hii
      obtain ⟨g, rfl, hg, hgz, hcell, hfr⟩ := owns_at hown q (by omega)
      obtain ⟨y, hy1, hy2⟩ := byts_nat hy q
      rw [hy1] at hcell
      have HG : Hid (ys.getD q 0 = (y : Int)) := hy1
      clear hy1 hp0
      by_cases h255 : y = 255
      · subst h255
        go_wp2
        have hq : q < ys.length := by rw [HY.out]; omega
        have hset := be_set ys q 0 hq
        rw [HG.out, HY.out, show n - 1 - q = n - (q + 1) by omega] at hset
        have hpow : 256 ^ (n - q) = 256 * 256 ^ (n - (q + 1)) := by rw [show n - q = (n - (q + 1)) + 1 by omega, Nat.pow_succ, Nat.mul_comm]
        have hsum := HB.out
        refine ⟨⟨q, _, ys.set q 0, by omega, rfl, rfl, hy.set q (by omega) (by omega), by unfold Hid; rw [List.length_set]; exact HY.out, ?_, owns_set hown q 0, bset1 hbw _ _ _ hg⟩, by simp [intOf]⟩
        unfold Hid
        rw [hpow]
        have e255 : ((255 : Nat) : Int).toNat = 255 := by decide
        rw [e255] at hset
        simp at hset
        omega
      · have hb255 : ((y : Int) == 255) = false := by simp; omega
        go_wp2
        rw [Exit.noGoto_normal]
        have hq : q < ys.length := by rw [HY.out]; omega
        have hset := be_set ys q ((y : Int) + 1) hq
        rw [HG.out, HY.out, show n - 1 - q = n - (q + 1) by omega, show ((y : Int) + 1).toNat = y + 1 by omega, Nat.add_mul, Nat.one_mul, Int.toNat_natCast] at hset
        have hsum := HB.out
        have hfin := carried_hit (xs := xs) (hy.set q (y := (y : Int) + 1) (by omega) (by omega)) (by rw [List.length_set, HY.out, HL.out]) (by omega)
        have hown2 := owns_set hown q ((y : Int) + 1)
        rw [hfin] at hown2
        exact bodyPost_end (v := .tuple #[]) (by simp [results, Tryz.results80, go_sem]) rfl ⟨⟨_, rfl⟩, hown2, bset1 hbw _ _ _ hg⟩
end Go.Proofs.YtidppkbphkcmeaaGreat
/- A choice is put, by the program. -/
namespace Go.Proofs.YtidppkbphkcmeaaGreat
open Go.RowKit
set_option linter.unusedVariables false
set_option linter.unusedSimpArgs false

/-! ### An encoder on the way -/
def En.step (e : En) : En := ⟨e.N * 256, e.m + 1, e.R * 256⟩
def En.norm (e : En) : En := ⟨e.N * 256 ^ sh e.R, e.m + sh e.R, e.R * 256 ^ sh e.R⟩
theorem En.norm_done (e : En) (h : 16777216 ≤ e.R) : e.norm = e := by
  have : sh e.R = 0 := by unfold sh; rw [if_neg (by omega), if_neg (by omega)]
  unfold En.norm; rw [this]; simp
theorem En.norm_step (e : En) (h0 : 256 ≤ e.R) (h : e.R < 16777216) : e.norm = e.step.norm := by
  unfold En.norm
  rw [sh_step e.R h0 h]
  show En.mk _ _ _ = En.mk _ _ _
  simp only [En.step, Nat.pow_succ, Nat.mul_assoc, Nat.mul_comm, Nat.mul_left_comm, En.mk.injEq]
  refine ⟨trivial, by omega, trivial⟩
/-- The encoder behind the adding, ahead of the moving. -/
def En.raw (e : En) (lo hi tot : Nat) : En := ⟨(e.N + ahead e.R lo tot) % 256 ^ (e.m + 4), e.m, width e.R lo hi tot⟩
theorem En.put_norm (e : En) (lo hi tot : Nat) : e.put lo hi tot = (e.raw lo hi tot).norm := rfl
structure En.Mid (e : En) : Prop where
  lt : e.N < 256 ^ (e.m + 4)
  r0 : 256 ≤ e.R
  r1 : e.R ≤ 4294967295
  m : e.m + sh e.R ≤ 3998
theorem En.Mid.step {e : En} (h : e.Mid) (hr : e.R < 16777216) : e.step.Mid := by
  have h0 := h.r0
  have hm := h.m
  rw [sh_step e.R h0 hr] at hm
  refine ⟨?_, by show 256 ≤ e.R * 256; omega, by show e.R * 256 ≤ _; omega, by show e.m + 1 + sh (e.R * 256) ≤ 3998; omega⟩
  show e.N * 256 < 256 ^ (e.m + 1 + 4)
  rw [show e.m + 1 + 4 = (e.m + 4) + 1 by omega, Nat.pow_succ]
  exact Nat.mul_lt_mul_of_pos_right h.lt (by decide)
theorem En.step_low (e : En) : e.step.low = e.low % 16777216 * 256 := by unfold En.low En.step; simp only; omega
theorem En.step_out (e : En) : e.step.out = e.out ++ [((e.low / 16777216 : Nat) : Int)] := by
  unfold En.out En.step En.top En.low
  simp only [beL]
  rw [show e.N * 256 / 4294967296 / 256 = e.N / 4294967296 by omega, show e.N * 256 / 4294967296 % 256 = e.N % 4294967296 / 16777216 by omega]
theorem En.Ok.rawMid {e : En} (h : e.Ok) {lo hi tot : Nat} (hf : Fair lo hi tot) (hm : e.m < 3996) : (e.raw lo hi tot).Mid := by
  have h1 := width_256 h.r hf
  have h2 := ahead_width (R := e.R) hf
  have h3 := h.r.2
  have h4 := sh_le (width e.R lo hi tot)
  exact ⟨Nat.mod_lt _ (Nat.pow_pos (by decide)), h1, by show width _ _ _ _ ≤ _; omega, by show e.m + sh (width _ _ _ _) ≤ 3998; omega⟩
theorem En.Ok.top_be {e : En} (h : e.Ok) : be e.out = e.top := by
  unfold En.out
  rw [be_beL, Nat.mod_eq_of_lt h.top_lt]
/-- Nothing is carried. -/
theorem En.Ok.raw_low {e : En} (h : e.Ok) {lo hi tot : Nat} (hc : e.low + ahead e.R lo tot < 4294967296) : (e.raw lo hi tot).low = e.low + ahead e.R lo tot ∧ (e.raw lo hi tot).out = e.out := by
  have hp := e.parts
  have ht := h.top_lt
  have hlt : e.N + ahead e.R lo tot < 256 ^ (e.m + 4) := by
    rw [Nat.pow_add, pow4]
    omega
  have e1 : (e.raw lo hi tot).N = e.top * 4294967296 + (e.low + ahead e.R lo tot) := by
    show (e.N + ahead e.R lo tot) % 256 ^ (e.m + 4) = _
    rw [Nat.mod_eq_of_lt hlt]; omega
  constructor
  · show (e.raw lo hi tot).N % 4294967296 = _
    rw [e1]; omega
  · show beL ((e.raw lo hi tot).N / 4294967296) e.m = beL e.top e.m
    rw [e1]; congr 1; omega
/-- One is carried. -/
theorem En.Ok.raw_carry {e : En} (h : e.Ok) {lo hi tot : Nat} (hc : 4294967296 ≤ e.low + ahead e.R lo tot) (hR : ahead e.R lo tot < 4294967296) : (e.raw lo hi tot).low = e.low + ahead e.R lo tot - 4294967296 ∧ (e.raw lo hi tot).out = carried e.out := by
  have hp := e.parts
  have hl := En.Ok.low_lt e
  have e1 : (e.raw lo hi tot).N = (e.top + 1) % 256 ^ e.m * 4294967296 + (e.low + ahead e.R lo tot - 4294967296) := by
    show (e.N + ahead e.R lo tot) % 256 ^ (e.m + 4) = _
    rw [Nat.pow_add, pow4, Nat.mul_comm (256 ^ e.m), Nat.mod_mul]
    have q1 : (e.N + ahead e.R lo tot) % 4294967296 = e.low + ahead e.R lo tot - 4294967296 := by omega
    have q2 : (e.N + ahead e.R lo tot) / 4294967296 = e.top + 1 := by omega
    rw [q1, q2, Nat.mul_comm 4294967296]
    omega
  constructor
  · show (e.raw lo hi tot).N % 4294967296 = _
    rw [e1]; omega
  · show beL ((e.raw lo hi tot).N / 4294967296) e.m = carried e.out
    unfold carried
    rw [e1, h.top_be, En.out_length]
    congr 1
    omega

set_option maxRecDepth 10000 in
set_option maxHeartbeats 2000000 in
theorem put_arg (L R : Int) (a : Option Addr) (n cap : Nat) (e : En) (lo hi tot : Int) (w : World) (h : EvOf w L R a n cap e) (hf : fairB lo hi tot = false) :
    Calls Tryz.prog 52 #[.agg #[.int .u64 L, .int .u32 R, .slice a n cap], .int .i64 lo, .int .i64 hi, .int .i64 tot] w fun x w' => ∃ a' cap', x = .returned (.tuple #[encV (.slice a' e.m cap') e, .int .i64 1]) ∧ w'.ownsRow w.heap.size 5 1 (.slice a' e.m cap') e.m (e.out.map (Value.int .u8)) ∧ Below w.heap.size w w' := by
  have hW := below2 w (.cells #[.int .u64 L, .int .u32 R, .slice a n cap] 52) (.cells #[.int .u64 0, .int .u32 0, .slice none 0 0] 52)
  go_enter Tryz.func52, Tryz.ntmps52
  go_wp2_with (first | (go_at_call 58; refine (encFor_any _ _ _ _ _ e _ (h.below hW)).mono ?_; rintro x w1 ⟨a1, cap1, rfl, hown, hb1⟩; unfold encV; obtain ⟨z, c0, c1, c2, f0, f1, f2⟩ := ((B3.new w _ _ _ _).below (below1 _ _)).below hb1; obtain ⟨rz, r0, r1, r2, p0, p1, p2⟩ := (B3.new2 w _ _ _ _ _).below hb1) | (go_at_call 78; refine (fair_any _ _ _ _).mono ?_; rw [hf]; rintro x w2 ⟨rfl, rfl⟩))
  refine bodyPost_ret (v := .tuple #[encV (.slice a1 e.m cap1) e, .int .i64 1]) (by simp [results, Tryz.results52, go_sem, c0, c1, c2, r0, r1, r2, p0, p1, p2, encV]) rfl ⟨a1, cap1, rfl, ?_, ?_⟩
  · have hown1 : w1.ownsRow (w.heap.size + 1 + 1) 5 1 (.slice a1 e.m cap1) e.m (e.out.map (Value.int .u8)) := by simpa using hown
    exact owns_base (owns_other (owns_other (owns_other (owns_other (owns_other (owns_other hown1 _ _ _ (by omega)) _ _ _ (by omega)) _ _ _ (by omega)) _ _ _ (by omega)) _ _ _ (by omega)) _ _ _ (by omega)) (by omega)
  · exact bset3 (bset3 (bthen hW hb1 hW.size) _ _ _ _ (by omega)) _ _ _ _ (by omega)

set_option maxRecDepth 10000 in
set_option maxHeartbeats 2000000 in
theorem put_full (L R : Int) (a : Option Addr) (n cap : Nat) (e : En) (lo hi tot : Int) (w : World) (h : EvOf w L R a n cap e) (hf : fairB lo hi tot = true) (hm : (3996 : Int) ≤ (e.m : Int)) :
    Calls Tryz.prog 52 #[.agg #[.int .u64 L, .int .u32 R, .slice a n cap], .int .i64 lo, .int .i64 hi, .int .i64 tot] w fun x w' => ∃ a' cap', x = .returned (.tuple #[encV (.slice a' e.m cap') e, .int .i64 3]) ∧ w'.ownsRow w.heap.size 5 1 (.slice a' e.m cap') e.m (e.out.map (Value.int .u8)) ∧ Below w.heap.size w w' := by
  have hW := below2 w (.cells #[.int .u64 L, .int .u32 R, .slice a n cap] 52) (.cells #[.int .u64 0, .int .u32 0, .slice none 0 0] 52)
  go_enter Tryz.func52, Tryz.ntmps52
  go_wp2_with (first | (go_at_call 58; refine (encFor_any _ _ _ _ _ e _ (h.below hW)).mono ?_; rintro x w1 ⟨a1, cap1, rfl, hown, hb1⟩; unfold encV; obtain ⟨z, c0, c1, c2, f0, f1, f2⟩ := ((B3.new w _ _ _ _).below (below1 _ _)).below hb1; obtain ⟨rz, r0, r1, r2, p0, p1, p2⟩ := (B3.new2 w _ _ _ _ _).below hb1) | (go_at_call 78; refine (fair_any _ _ _ _).mono ?_; rw [hf]; rintro x w2 ⟨rfl, rfl⟩))
  refine bodyPost_ret (v := .tuple #[encV (.slice a1 e.m cap1) e, .int .i64 3]) (by simp [results, Tryz.results52, go_sem, c0, c1, c2, r0, r1, r2, p0, p1, p2, encV]) rfl ⟨a1, cap1, rfl, ?_, ?_⟩
  · have hown1 : w1.ownsRow (w.heap.size + 1 + 1) 5 1 (.slice a1 e.m cap1) e.m (e.out.map (Value.int .u8)) := by simpa using hown
    exact owns_base (owns_other (owns_other (owns_other (owns_other (owns_other (owns_other hown1 _ _ _ (by omega)) _ _ _ (by omega)) _ _ _ (by omega)) _ _ _ (by omega)) _ _ _ (by omega)) _ _ _ (by omega)) (by omega)
  · exact bset3 (bset3 (bthen hW hb1 hW.size) _ _ _ _ (by omega)) _ _ _ _ (by omega)
end Go.Proofs.YtidppkbphkcmeaaGreat
/- A choice is put, by the program: it fits. -/
namespace Go.Proofs.YtidppkbphkcmeaaGreat
open Go.RowKit
set_option linter.unusedVariables false
set_option linter.unusedSimpArgs false

theorem andI24 (l : Int) (h0 : 0 ≤ l) (h1 : l < 4294967296) : bits .and .u64 l 16777215 = l % 16777216 := by
  have := bits_mask .u64 64 (by decide) wraps_u64 24 (by decide) l h0 (by omega)
  simpa using this

set_option maxRecDepth 10000 in
set_option maxHeartbeats 2000000 in
theorem put_ok (L R : Int) (a : Option Addr) (n cap : Nat) (e : En) (lo hi tot : Nat) (w : World) (h : EvOf w L R a n cap e) (hf : Fair lo hi tot) (hm : (e.m : Int) < 3996) :
    Calls Tryz.prog 52 #[.agg #[.int .u64 L, .int .u32 R, .slice a n cap], .int .i64 lo, .int .i64 hi, .int .i64 tot] w fun x w' => ∃ a' cap', x = .returned (.tuple #[encV (.slice a' (e.put lo hi tot).m cap') (e.put lo hi tot), .int .i64 0]) ∧ w'.ownsRow w.heap.size 5 1 (.slice a' (e.put lo hi tot).m cap') (e.put lo hi tot).m ((e.put lo hi tot).out.map (Value.int .u8)) ∧ Below w.heap.size w w' := by
  have hW := below2 w (.cells #[.int .u64 L, .int .u32 R, .slice a n cap] 52) (.cells #[.int .u64 0, .int .u32 0, .slice none 0 0] 52)
  have hd := h.1
  have hmid := hd.rawMid hf (by omega)
  have HMid : Hid ((e.raw lo hi tot).Mid) := hmid
  have hal := ahead_width (R := e.R) hf
  have hr2 := hd.r.2
  have hlow := En.Ok.low_lt e
  have HC1 : Hid (e.low + ahead e.R lo tot < 4294967296 → (e.raw lo hi tot).low = e.low + ahead e.R lo tot ∧ (e.raw lo hi tot).out = e.out) := fun hc => hd.raw_low hc
  have HC2 : Hid (4294967296 ≤ e.low + ahead e.R lo tot → (e.raw lo hi tot).low = e.low + ahead e.R lo tot - 4294967296 ∧ (e.raw lo hi tot).out = carried e.out) := fun hc => hd.raw_carry hc (by omega)
  have hwi := hmid.r0
  have hwi2 := hmid.r1
  rw [En.put_norm]
  obtain ⟨F, hF⟩ : ∃ F, F = (e.raw lo hi tot).norm := ⟨_, rfl⟩
  rw [← hF]
  have HF : Hid (F = (e.raw lo hi tot).norm) := hF
  clear hF hmid
  have hsh0 := fun w => share_any e.R lo hi tot w hd.r hf
  obtain ⟨A, hA⟩ : ∃ A : Int, ((ahead e.R lo tot : Nat) : Int) = A := ⟨_, rfl⟩
  obtain ⟨W, hWi⟩ : ∃ W : Int, ((width e.R lo hi tot : Nat) : Int) = W := ⟨_, rfl⟩
  obtain ⟨l, hl⟩ : ∃ l : Int, (e.low : Int) = l := ⟨_, rfl⟩
  have hsh : ∀ w, Calls Tryz.prog 79 #[.int .u32 e.R, .int .i64 lo, .int .i64 hi, .int .i64 tot] w fun x w' => x = .returned (.tuple #[.int .u64 A, .int .u32 W]) ∧ w' = w := fun w => by
    have := hsh0 w
    rw [hA, hWi] at this
    exact this
  clear hsh0
  have A0 : 0 ≤ A := by omega
  have A1 : A < 4294967296 := by omega
  have l0 : 0 ≤ l := by omega
  have l1 : l < 4294967296 := by omega
  have HA : Hid (((ahead e.R lo tot : Nat) : Int) = A) := hA
  have HWi : Hid (((width e.R lo hi tot : Nat) : Int) = W) := hWi
  have HL : Hid ((e.low : Int) = l) := hl
  have hRW : Hid ((e.raw lo hi tot).R = width e.R lo hi tot) := rfl
  have hRm : Hid ((e.raw lo hi tot).m = e.m) := rfl
  have hff := fair_nat hf
  have hby : Byts e.out := beL_byts _ _
  clear hA hWi hl hlow hal hr2 hwi hwi2
  obtain ⟨i0, hi0, hz0, hz1, hz2⟩ := info_parts info5
  obtain ⟨M, hM⟩ : ∃ M : Nat, e.m = M := ⟨_, rfl⟩
  have henc : ∀ w', EvOf w' L R a n cap e → Calls Tryz.prog 58 #[.agg #[.int .u64 L, .int .u32 R, .slice a n cap]] w' fun x w1 => ∃ a' cap', x = .returned (.agg #[.int .u64 l, .int .u32 e.R, .slice a' M cap']) ∧ w1.ownsRow w'.heap.size 5 1 (.slice a' M cap') M (e.out.map (Value.int .u8)) ∧ Below w'.heap.size w' w1 := fun w' hh => by
    have := encFor_any L R a n cap e w' hh
    unfold encV at this
    rw [hM, HL.out] at this
    exact this
  obtain ⟨mi, hmi⟩ : ∃ mi : Int, (M : Int) = mi := ⟨_, rfl⟩
  have hmn : ¬ (3996 : Int) ≤ mi := by omega
  have HMI : Hid ((M : Int) = mi) := hmi
  have hM4 : M ≤ 4000 := by omega
  have HMe : Hid (e.m = M) := hM
  clear hm hM
  by_cases hca : 4294967295 < l + A
  all_goals
    go_enter Tryz.func52, Tryz.ntmps52
    go_wp2_with (first | (go_at_call 58; refine (henc _ (h.below hW)).mono ?_; rintro x w1 ⟨a1, cap1, rfl, hown, hb1⟩; have hB3 := ((B3.new w _ _ _ _).below (below1 _ _)).below hb1; have hR3 := (B3.new2 w _ _ _ _ _).below hb1; obtain ⟨z, c0, c1, c2, f0, f1, f2⟩ := id hB3; obtain ⟨rz, r0, r1, r2, p0, p1, p2⟩ := id hR3; have hown1 : w1.ownsRow (w.heap.size + 1 + 1) 5 1 (.slice a1 M cap1) M (e.out.map (Value.int .u8)) := (by simpa using hown); have hown6 : ((((((w1.setCell ⟨w.heap.size, 0, none⟩ (.int .u64 l)).setCell ⟨w.heap.size, 1, none⟩ (.int .u32 e.R)).setCell ⟨w.heap.size, 2, none⟩ (.slice a1 M cap1)).setCell ⟨w.heap.size, 0, none⟩ (.int .u64 (l + A))).setCell ⟨w.heap.size, 1, none⟩ (.int .u32 W)).setCell ⟨w.heap.size, 0, none⟩ (.int .u64 (l + A - 4294967296))).ownsRow (w.heap.size + 1 + 1) 5 1 (.slice a1 M cap1) M (e.out.map (Value.int .u8)) := (owns_other (owns_other (owns_other (owns_other (owns_other (owns_other hown1 _ _ _ (by omega)) _ _ _ (by omega)) _ _ _ (by omega)) _ _ _ (by omega)) _ _ _ (by omega)) _ _ _ (by omega))) | (go_at_call 78; refine (fair_any _ _ _ _).mono ?_; rw [hff]; rintro x w2 ⟨rfl, rfl⟩) | (go_at_call 79; refine (hsh _).mono ?_; rintro x w2 ⟨rfl, rfl⟩) | (go_at_call 80; refine (carry_any _ _ _ e.out (w.heap.size + 1 + 1) _ hown6 hby hM4).mono ?_; rintro x w3 ⟨⟨v3, rfl⟩, hown3, hb3⟩))
  ·
    have hq := HC2.out (by have := HA.out; have := HL.out; omega)
    have HLx : Hid (l + A - 4294967296 = ((e.raw lo hi tot).low : Int)) := by
      unfold Hid; have := HA.out; have := HL.out; rw [hq.1]; omega
    have hbx := (bset1 (bset1 (bset1 (bset3 (bthen hW hb1 hW.size) w.heap.size (.int .u64 l) (.int .u32 e.R) (.slice a1 M cap1) (by omega)) w.heap.size 0 (.int .u64 (l + A)) (by omega)) w.heap.size 1 (.int .u32 W) (by omega)) w.heap.size 0 (.int .u64 (l + A - 4294967296)) (by omega)).trans (hb3.mono (by omega))
    have hBx := ((((hB3.set (.int .u64 l) (.int .u32 e.R) (.slice a1 M cap1)).set0 (.int .u64 (l + A))).set1 (.int .u32 W)).set0 (.int .u64 (l + A - 4294967296))).belowB hb3 (by omega)
    have hRx := ((((((hR3.other w.heap.size 0 (.int .u64 l) (by omega)).other w.heap.size 1 (.int .u32 e.R) (by omega)).other w.heap.size 2 (.slice a1 M cap1) (by omega)).other w.heap.size 0 (.int .u64 (l + A)) (by omega)).other w.heap.size 1 (.int .u32 W) (by omega)).other w.heap.size 0 (.int .u64 (l + A - 4294967296)) (by omega)).belowB hb3 (by omega)
    rw [← hq.2] at hown3
    have hox := hown3
    clear hown3 hown6 hown1 hown hq hB3 hR3 c0 c1 c2 f0 f1 f2 r0 r1 r2 p0 p1 p2 z rz hb1 hb3
    go_loopw [] (fun wr => ∃ (e' : En) (a' : Option Addr) (cap' Mx : Nat) (r lx : Int), Hid (e'.Mid) ∧ Hid (e'.norm = F) ∧ Hid (r = e'.R) ∧ Hid (lx = e'.low) ∧ Hid (e'.m = Mx) ∧ B3 wr w.heap.size (.int .u64 lx) (.int .u32 r) (.slice a' Mx cap') ∧ B3 wr (w.heap.size + 1) (.int .u64 0) (.int .u32 0) (.slice none 0 0) ∧ wr.ownsRow (w.heap.size + 1 + 1) 5 1 (.slice a' Mx cap') Mx (e'.out.map (Value.int .u8)) ∧ Below w.heap.size w wr ∧ w.heap.size + 1 < wr.heap.size) (fun wr => cellSh wr w.heap.size)
    case atStart => exact ⟨e.raw lo hi tot, a1, cap1, M, W, _, HMid.out, HF.out.symm, HWi.out.symm, HLx.out, HMe.out, hBx, hRx, hox, hbx, hRx.z⟩
    case round =>
      clear hmn hmi hca hM4 hBx hRx hox hbx hsh henc h hf hff l0 l1 A0 A1
      obtain ⟨e', a', cap', Mx, r, lx, HMd, HN, HR, HLw, HMx, hb3', hr3', hownx, hbr, hzr⟩ := hrel
      obtain ⟨z, c0, c1, c2, f0, f1, f2⟩ := id hb3'
      have m0 : (256 : Int) ≤ r := by rw [HR.out]; have := HMd.out.r0; omega
      have m1 : r ≤ 4294967295 := by rw [HR.out]; have := HMd.out.r1; omega
      have x0 : 0 ≤ lx := by rw [HLw.out]; omega
      have x1 : lx < 4294967296 := by rw [HLw.out]; have := En.Ok.low_lt e'; omega
      have hsz := hbr.size
      by_cases hlt : r < 16777216
      · have hand := andI24 lx x0 x1
        have k0 : 0 ≤ lx % 16777216 := by omega
        have k1 : lx % 16777216 < 16777216 := by omega
        have HK : Hid (lx % 16777216 * 256 = (e'.step.low : Int)) := by unfold Hid; rw [En.step_low, HLw.out]; omega
        have HO : Hid (e'.step.out.map (Value.int .u8) = e'.out.map (Value.int .u8) ++ [.int .u8 (lx / 16777216)]) := by
          unfold Hid; rw [En.step_out, HLw.out]; simp
        have hR3 : e'.R < 16777216 := by have := HR.out; omega
        have HNs : Hid (e'.step.norm = F) := by unfold Hid; rw [← En.norm_step e' HMd.out.r0 hR3]; exact HN.out
        have HMs : Hid (e'.step.Mid) := HMd.out.step hR3
        have HSh : Hid (sh e'.R = sh (e'.R * 256) + 1) := sh_step e'.R HMd.out.r0 hR3
        have hMb : Hid (Mx ≤ 3998) := by unfold Hid; have := HMd.out.m; have := HMx.out; omega
        clear hR3
        generalize lx % 16777216 = lm at *
        go_wp2_with (at_builtin; refine wpList_append_own _ rfl _ _ 28 rfl (w.heap.size + 1 + 1) 5 i0 (.int .u8 0) 1 1 Tryz.underlying28 hi0 hz0 hz1 hz2 rfl (by decide) _ _ _ rfl (hownx.alloc _) ⟨wr.heap.size, 0, none⟩ 1 1 [.int .u8 (lx / 16777216)] rfl rfl (cell_one_at rfl _ _) ?c2 ?c3 ?c4 ?c5 ?_)
        case c2 => intro u hu; simp at hu; subst hu; rfl
        case c3 => have := hMb.out; unfold maxLen; omega
        case c4 => have := hMb.out; omega
        case c5 => simp; omega
        intro v' w2 hown' hgrow _
        have hlt2 := hownx.lt
        have nb : (Value.slice a' Mx cap').ownBlock ≠ some w.heap.size := fun hh => by have := (hlt2 _ hh).1; omega
        have nr : (Value.slice a' Mx cap').ownBlock ≠ some (w.heap.size + 1) := fun hh => by have := (hlt2 _ hh).1; omega
        have hb4 := (hb3'.below (below1 _ (.cells #[.int .u8 (lx / 16777216)] 5))).grown hgrow nb
        have hr4 := (hr3'.below (below1 _ (.cells #[.int .u8 (lx / 16777216)] 5))).grown hgrow nr
        have hbw2 : Below w.heap.size w w2 := (hbr.alloc hbr.size _).grown hgrow (by simp; omega) (fun k hk => by have := (hlt2 k hk).1; omega)
        obtain ⟨a2, cap2, rfl, hcap2, hmax2, _⟩ := owns_open hown'
        rw [← HO.out] at hown'
        have hsz2 := hbw2.size
        have hz2' := hr4.z
        clear c0 c1 c2 f0 f1 f2 z hgrow hownx hlt2 nb nr
        obtain ⟨z, c0, c1, c2, f0, f1, f2⟩ := id hb4
        have hs1 := cellSh_of hb3'.c1
        go_wp2
        have hnew := ((hb4.set2 (.slice a2 (Mx + 1) cap2)).set0 (.int .u64 (lm * 256))).set1 (.int .u32 (r * 256))
        have hs2 := cellSh_of hnew.c1
        have hr2 : (r * 256).toNat = e'.R * 256 := by rw [HR.out]; omega
        have hr1 : r.toNat = e'.R := by rw [HR.out]; omega
        go_roundw
        case rel => exact ⟨e'.step, a2, cap2, Mx + 1, r * 256, lm * 256, HMs, HNs, by unfold Hid; rw [HR.out]; show _ = ((e'.R * 256 : Nat) : Int); omega, HK, by unfold Hid; show e'.m + 1 = _; rw [HMx.out], hnew, ((hr4.other _ _ _ (by omega)).other _ _ _ (by omega)).other _ _ _ (by omega), owns_other (owns_other (owns_other hown' _ _ _ (by omega)) _ _ _ (by omega)) _ _ _ (by omega), bset1 (bset1 (bset1 hbw2 _ _ _ (by omega)) _ _ _ (by omega)) _ _ _ (by omega), by simp [World.setCell]; omega⟩
        case measure => rw [hs1, hs2, hr2, hr1, HSh.out]; omega
      · have hFe : Hid (e' = F) := by
          unfold Hid
          rw [← HN.out, En.norm_done _ (by have := HR.out; omega)]
        obtain ⟨rz, r0, r1, r2, p0, p1, p2⟩ := id hr3'
        go_wp2
        refine bodyPost_ret (v := .tuple #[.agg #[.int .u64 lx, .int .u32 r, .slice a' Mx cap'], .int .i64 0]) (by simp [results, Tryz.results52, go_sem, c0, c1, c2, r0, r1, r2, p0, p1, p2]) rfl ⟨a', cap', ?_, ?_, ?_⟩
        · unfold encV; rw [← hFe.out, HR.out, HLw.out, HMx.out]
        · rw [← hFe.out, HMx.out]; exact owns_base (owns_other (owns_other (owns_other hownx _ _ _ (by omega)) _ _ _ (by omega)) _ _ _ (by omega)) (by omega)
        · exact bset3 hbr _ _ _ _ (by omega)
  ·
    have hq := HC1.out (by have := HA.out; have := HL.out; omega)
    have HLx : Hid (l + A = ((e.raw lo hi tot).low : Int)) := by
      unfold Hid; have := HA.out; have := HL.out; rw [hq.1]; omega
    have hbx := bset1 (bset1 (bset3 (bthen hW hb1 hW.size) w.heap.size (.int .u64 l) (.int .u32 e.R) (.slice a1 M cap1) (by omega)) w.heap.size 0 (.int .u64 (l + A)) (by omega)) w.heap.size 1 (.int .u32 W) (by omega)
    have hBx := ((hB3.set (.int .u64 l) (.int .u32 e.R) (.slice a1 M cap1)).set0 (.int .u64 (l + A))).set1 (.int .u32 W)
    have hRx := ((((hR3.other w.heap.size 0 (.int .u64 l) (by omega)).other w.heap.size 1 (.int .u32 e.R) (by omega)).other w.heap.size 2 (.slice a1 M cap1) (by omega)).other w.heap.size 0 (.int .u64 (l + A)) (by omega)).other w.heap.size 1 (.int .u32 W) (by omega)
    have hox := owns_other (owns_other (owns_other (owns_other (owns_other hown1 w.heap.size 0 (.int .u64 l) (by omega)) w.heap.size 1 (.int .u32 e.R) (by omega)) w.heap.size 2 (.slice a1 M cap1) (by omega)) w.heap.size 0 (.int .u64 (l + A)) (by omega)) w.heap.size 1 (.int .u32 W) (by omega)
    rw [← hq.2] at hox
    clear hown6 hown1 hown hq hB3 hR3 c0 c1 c2 f0 f1 f2 r0 r1 r2 p0 p1 p2 z rz hb1
    go_loopw [] (fun wr => ∃ (e' : En) (a' : Option Addr) (cap' Mx : Nat) (r lx : Int), Hid (e'.Mid) ∧ Hid (e'.norm = F) ∧ Hid (r = e'.R) ∧ Hid (lx = e'.low) ∧ Hid (e'.m = Mx) ∧ B3 wr w.heap.size (.int .u64 lx) (.int .u32 r) (.slice a' Mx cap') ∧ B3 wr (w.heap.size + 1) (.int .u64 0) (.int .u32 0) (.slice none 0 0) ∧ wr.ownsRow (w.heap.size + 1 + 1) 5 1 (.slice a' Mx cap') Mx (e'.out.map (Value.int .u8)) ∧ Below w.heap.size w wr ∧ w.heap.size + 1 < wr.heap.size) (fun wr => cellSh wr w.heap.size)
    case atStart => exact ⟨e.raw lo hi tot, a1, cap1, M, W, _, HMid.out, HF.out.symm, HWi.out.symm, HLx.out, HMe.out, hBx, hRx, hox, hbx, hRx.z⟩
    case round =>
      clear hmn hmi hca hM4 hBx hRx hox hbx hsh henc h hf hff l0 l1 A0 A1
      obtain ⟨e', a', cap', Mx, r, lx, HMd, HN, HR, HLw, HMx, hb3', hr3', hownx, hbr, hzr⟩ := hrel
      obtain ⟨z, c0, c1, c2, f0, f1, f2⟩ := id hb3'
      have m0 : (256 : Int) ≤ r := by rw [HR.out]; have := HMd.out.r0; omega
      have m1 : r ≤ 4294967295 := by rw [HR.out]; have := HMd.out.r1; omega
      have x0 : 0 ≤ lx := by rw [HLw.out]; omega
      have x1 : lx < 4294967296 := by rw [HLw.out]; have := En.Ok.low_lt e'; omega
      have hsz := hbr.size
      by_cases hlt : r < 16777216
      · have hand := andI24 lx x0 x1
        have k0 : 0 ≤ lx % 16777216 := by omega
        have k1 : lx % 16777216 < 16777216 := by omega
        have HK : Hid (lx % 16777216 * 256 = (e'.step.low : Int)) := by unfold Hid; rw [En.step_low, HLw.out]; omega
        have HO : Hid (e'.step.out.map (Value.int .u8) = e'.out.map (Value.int .u8) ++ [.int .u8 (lx / 16777216)]) := by
          unfold Hid; rw [En.step_out, HLw.out]; simp
        have hR3 : e'.R < 16777216 := by have := HR.out; omega
        have HNs : Hid (e'.step.norm = F) := by unfold Hid; rw [← En.norm_step e' HMd.out.r0 hR3]; exact HN.out
        have HMs : Hid (e'.step.Mid) := HMd.out.step hR3
        have HSh : Hid (sh e'.R = sh (e'.R * 256) + 1) := sh_step e'.R HMd.out.r0 hR3
        have hMb : Hid (Mx ≤ 3998) := by unfold Hid; have := HMd.out.m; have := HMx.out; omega
        clear hR3
        generalize lx % 16777216 = lm at *
        go_wp2_with (at_builtin; refine wpList_append_own _ rfl _ _ 28 rfl (w.heap.size + 1 + 1) 5 i0 (.int .u8 0) 1 1 Tryz.underlying28 hi0 hz0 hz1 hz2 rfl (by decide) _ _ _ rfl (hownx.alloc _) ⟨wr.heap.size, 0, none⟩ 1 1 [.int .u8 (lx / 16777216)] rfl rfl (cell_one_at rfl _ _) ?c2 ?c3 ?c4 ?c5 ?_)
        case c2 => intro u hu; simp at hu; subst hu; rfl
        case c3 => have := hMb.out; unfold maxLen; omega
        case c4 => have := hMb.out; omega
        case c5 => simp; omega
        intro v' w2 hown' hgrow _
        have hlt2 := hownx.lt
        have nb : (Value.slice a' Mx cap').ownBlock ≠ some w.heap.size := fun hh => by have := (hlt2 _ hh).1; omega
        have nr : (Value.slice a' Mx cap').ownBlock ≠ some (w.heap.size + 1) := fun hh => by have := (hlt2 _ hh).1; omega
        have hb4 := (hb3'.below (below1 _ (.cells #[.int .u8 (lx / 16777216)] 5))).grown hgrow nb
        have hr4 := (hr3'.below (below1 _ (.cells #[.int .u8 (lx / 16777216)] 5))).grown hgrow nr
        have hbw2 : Below w.heap.size w w2 := (hbr.alloc hbr.size _).grown hgrow (by simp; omega) (fun k hk => by have := (hlt2 k hk).1; omega)
        obtain ⟨a2, cap2, rfl, hcap2, hmax2, _⟩ := owns_open hown'
        rw [← HO.out] at hown'
        have hsz2 := hbw2.size
        have hz2' := hr4.z
        clear c0 c1 c2 f0 f1 f2 z hgrow hownx hlt2 nb nr
        obtain ⟨z, c0, c1, c2, f0, f1, f2⟩ := id hb4
        have hs1 := cellSh_of hb3'.c1
        go_wp2
        have hnew := ((hb4.set2 (.slice a2 (Mx + 1) cap2)).set0 (.int .u64 (lm * 256))).set1 (.int .u32 (r * 256))
        have hs2 := cellSh_of hnew.c1
        have hr2 : (r * 256).toNat = e'.R * 256 := by rw [HR.out]; omega
        have hr1 : r.toNat = e'.R := by rw [HR.out]; omega
        go_roundw
        case rel => exact ⟨e'.step, a2, cap2, Mx + 1, r * 256, lm * 256, HMs, HNs, by unfold Hid; rw [HR.out]; show _ = ((e'.R * 256 : Nat) : Int); omega, HK, by unfold Hid; show e'.m + 1 = _; rw [HMx.out], hnew, ((hr4.other _ _ _ (by omega)).other _ _ _ (by omega)).other _ _ _ (by omega), owns_other (owns_other (owns_other hown' _ _ _ (by omega)) _ _ _ (by omega)) _ _ _ (by omega), bset1 (bset1 (bset1 hbw2 _ _ _ (by omega)) _ _ _ (by omega)) _ _ _ (by omega), by simp [World.setCell]; omega⟩
        case measure => rw [hs1, hs2, hr2, hr1, HSh.out]; omega
      · have hFe : Hid (e' = F) := by
          unfold Hid
          rw [← HN.out, En.norm_done _ (by have := HR.out; omega)]
        obtain ⟨rz, r0, r1, r2, p0, p1, p2⟩ := id hr3'
        go_wp2
        refine bodyPost_ret (v := .tuple #[.agg #[.int .u64 lx, .int .u32 r, .slice a' Mx cap'], .int .i64 0]) (by simp [results, Tryz.results52, go_sem, c0, c1, c2, r0, r1, r2, p0, p1, p2]) rfl ⟨a', cap', ?_, ?_, ?_⟩
        · unfold encV; rw [← hFe.out, HR.out, HLw.out, HMx.out]
        · rw [← hFe.out, HMx.out]; exact owns_base (owns_other (owns_other (owns_other hownx _ _ _ (by omega)) _ _ _ (by omega)) _ _ _ (by omega)) (by omega)
        · exact bset3 hbr _ _ _ _ (by omega)
end Go.Proofs.YtidppkbphkcmeaaGreat
/- An encoder as the document's: all its bytes. -/
namespace Go.Proofs.YtidppkbphkcmeaaGreat
open Go.RowKit
set_option linter.unusedVariables false
set_option linter.unusedSimpArgs false

def refV (v : Value) (e : En) : Value := .agg #[.int .u64 e.R, v]

/-! ### The document's new one -/
theorem all_new : En.new.all = [0, 0, 0, 0] := by simp [En.all, En.new, beL]
set_option maxHeartbeats 1000000 in
theorem rnew_any (w : World) : Calls Tryz.prog 30 #[] w fun x w' => ∃ a cap, x = .returned (.agg #[.int .u64 4294967295, .slice a 4 cap]) ∧ RwF w.heap.size .i64 w' (.slice a 4 cap) En.new.all ∧ Below w.heap.size w w' := by
  rw [all_new]
  go_enter Tryz.func30, Tryz.ntmps30
  go_wp2
  refine bodyPost_ret (v := .agg #[.int .u64 4294967295, .slice (some ⟨w.heap.size + 1, 0, none⟩) 4 4]) (by simp [results, Tryz.results30, go_sem]) rfl ⟨_, _, rfl, ?_, below2 _ _ _⟩
  exact rw_lit4 _ _ _ _ _ _ _ _ _ (by simp [go_sem]) (by simp [go_sem]) (by simp [go_sem]) (by simp [go_sem]) (by simp) (by omega)

end Go.Proofs.YtidppkbphkcmeaaGreat
/- An encoder as the document's. -/
namespace Go.Proofs.YtidppkbphkcmeaaGreat
open Go.RowKit
set_option linter.unusedVariables false
set_option linter.unusedSimpArgs false

/-! ### AsEnc -/
end Go.Proofs.YtidppkbphkcmeaaGreat
/- The rows of the document's examples. -/
namespace Go.Proofs.YtidppkbphkcmeaaGreat
open Go.RowKit
set_option linter.unusedVariables false
set_option linter.unusedSimpArgs false

theorem ev_new (w : World) : EvOf w 0 4294967295 none 0 0 En.new :=
  En.new_ok.ev (a := none) (cap := 0) ⟨none, 0, rfl, .inl rfl⟩
def knowE : En := ⟨2147483647, 0, 2147483648⟩
theorem know_eq : En.new.put 1 2 2 = knowE := by rfl
theorem know_put (w : World) : Calls Tryz.prog 52 #[.agg #[.int .u64 0, .int .u32 4294967295, .slice none 0 0], .int .i64 1, .int .i64 2, .int .i64 2] w fun x w' => ∃ a' cap', x = .returned (.tuple #[.agg #[.int .u64 2147483647, .int .u32 2147483648, .slice a' 0 cap'], .int .i64 0]) ∧ EvOf w' 2147483647 2147483648 a' 0 cap' knowE ∧ Below w.heap.size w w' := by
  have h := put_ok 0 4294967295 none 0 0 En.new 1 2 2 w (ev_new w) ⟨by decide, by decide, by decide⟩ (by decide)
  rw [know_eq] at h
  refine h.mono ?_
  rintro x w' ⟨a', cap', rfl, hown, hb⟩
  have hok : knowE.Ok := by rw [← know_eq]; exact En.put_ok En.new_ok ⟨by decide, by decide, by decide⟩ (by decide)
  exact ⟨a', cap', rfl, hok.ev (Rw.of_owns hown), hb⟩
theorem know_all : knowE.all = [127, 255, 255, 255] := by decide
theorem know_fin (a : Option Addr) (cap : Nat) (w : World) (h : EvOf w 2147483647 2147483648 a 0 cap knowE) : Calls Tryz.prog 24 #[.agg #[.int .u64 2147483647, .int .u32 2147483648, .slice a 0 cap]] w fun x w' => ∃ a' cap', x = .returned (.slice a' 4 cap') ∧ Rw .u8 w' (.slice a' 4 cap') [127, 255, 255, 255] ∧ Below w.heap.size w w' := by
  refine (finish_any _ _ _ _ _ knowE w h).mono ?_
  rintro x w' ⟨v', rfl, hown, hb⟩
  obtain ⟨a', cap', rfl, _⟩ := owns_open hown
  rw [know_all] at hown
  exact ⟨a', cap', rfl, Rw.of_owns hown, hb⟩
theorem know_open (a : Option Addr) (cap : Nat) (w : World) (h : Rw .u8 w (.slice a 4 cap) [127, 255, 255, 255]) : Calls Tryz.prog 39 #[.slice a 4 cap] w fun x w' => x = .returned (.agg #[.int .u64 2147483647, .int .u32 4294967295, .slice a 4 cap, .int .i64 4]) ∧ Below w.heap.size w w' :=
  open_any a cap [127, 255, 255, 255] w h (fun x hx => by simp at hx; omega) (by decide)
theorem know_dec (a : Option Addr) (cap : Nat) (w : World) (h : Rw .u8 w (.slice a 4 cap) [127, 255, 255, 255]) : DvOf w 2147483647 4294967295 a 4 cap 4 (De.open [127, 255, 255, 255]) :=
  (De.open_ok (B := [127, 255, 255, 255]) (fun x hx => by simp at hx; omega) (by decide)).dv h
theorem know_get (a : Option Addr) (cap : Nat) (w : World) (h : Rw .u8 w (.slice a 4 cap) [127, 255, 255, 255]) : Calls Tryz.prog 67 #[.agg #[.int .u64 2147483647, .int .u32 4294967295, .slice a 4 cap, .int .i64 4], .int .i64 2] w fun x w' => x = .returned (.tuple #[.int .i64 1, .int .i64 0]) ∧ Below w.heap.size w w' := by
  have := get_any _ _ _ _ _ _ _ 2 w (know_dec a cap w h) (by decide) (by decide)
  exact this
theorem open_none (w : World) : Calls Tryz.prog 39 #[.slice none 0 0] w fun x w' => x = .returned (.agg #[.int .u64 0, .int .u32 4294967295, .slice none 0 0, .int .i64 4]) ∧ Below w.heap.size w w' := by
  have := open_any none 0 [] w ⟨none, 0, rfl, .inl rfl⟩ Byts.nil (by simp)
  rw [De.open_nil] at this
  exact this

end Go.Proofs.YtidppkbphkcmeaaGreat
/- Decoders that are right, in the laws' own forms. -/
namespace Go.Proofs.YtidppkbphkcmeaaGreat
open Go.RowKit
set_option linter.unusedVariables false
set_option linter.unusedSimpArgs false

theorem rightDec_ok (a : Option Addr) (cap : Nat) (d : De) (w : World) (h : d.Ok) : Calls Tryz.prog 108 #[decV a cap d] w fun e w' => e = .returned (.bool true) ∧ Below w.heap.size w w' := by
  have := rightDec_any d.C d.R a d.B.length cap d.A w
  rw [h.decB] at this
  exact this
theorem De.get_lt (d : De) (tot : Nat) (h : 1 ≤ tot) : d.get tot < tot := by unfold De.get; omega
theorem get_at (a : Option Addr) (cap : Nat) (d : De) (T : Nat) (w : World) (h : d.Ok) (hrw : Rw .u8 w (.slice a d.B.length cap) d.B) (hT : T < 65536) :
    Calls Tryz.prog 67 #[decV a cap d, .int .i64 (1 + (T : Int))] w fun e w' => e = .returned (.tuple #[.int .i64 (d.get (1 + T) : Nat), .int .i64 0]) ∧ Below w.heap.size w w' := by
  have := get_any _ _ _ _ _ _ d (1 + T) w (h.dv hrw) (by omega) (by omega)
  rw [show (((1 + T : Nat) : Int)) = 1 + (T : Int) by omega] at this
  exact this
theorem take_at (a : Option Addr) (cap : Nat) (d : De) (v T : Nat) (w : World) (h : d.Ok) (hrw : Rw .u8 w (.slice a d.B.length cap) d.B) (hT : T < 65536) (hv : v < 1 + T) :
    Calls Tryz.prog 68 #[decV a cap d, .int .i64 (v : Int), .int .i64 ((v : Int) + 1), .int .i64 (1 + (T : Int))] w fun e w' => ∃ a' cap' d', e = .returned (.tuple #[decV a' cap' d', .int .i64 0]) ∧ d' = d.take v (v + 1) (1 + T) ∧ d'.Ok ∧ (∀ w1, Rw .u8 w1 (.slice a d.B.length cap) d.B → Rw .u8 w1 (.slice a' d'.B.length cap') d'.B) ∧ Below w.heap.size w w' := by
  have hf : Fair v (v + 1) (1 + T) := ⟨by omega, by omega, by omega⟩
  have := take_any _ _ _ _ _ _ d v (v + 1) (1 + T) w (h.dv hrw) hf
  rw [show (((1 + T : Nat) : Int)) = 1 + (T : Int) by omega, show (((v + 1 : Nat) : Int)) = (v : Int) + 1 by omega] at this
  refine this.mono ?_
  rintro e w' ⟨a', cap', rfl, hrw', hb⟩
  exact ⟨a', cap', _, rfl, rfl, h.take hf, fun w1 hr => by rw [De.take_B]; exact hrw' w1 (h.dv hr), hb⟩
end Go.Proofs.YtidppkbphkcmeaaGreat
/- The document's adding of a number to bytes. -/
namespace Go.Proofs.YtidppkbphkcmeaaGreat
open Go.RowKit
set_option linter.unusedVariables false
set_option linter.unusedSimpArgs false

/-- Bytes to which a number was added; what is beyond the first is gone. -/
def added (xs : List Int) (n : Nat) : List Int := beL ((be xs + n) % 256 ^ xs.length) xs.length
theorem added_length (xs : List Int) (n : Nat) : (added xs n).length = xs.length := beL_length _ _
theorem added_of {xs ys : List Int} {n c : Nat} (hx : Byts xs) (hy : Byts ys) (hl : ys.length = xs.length) (h : be ys + c * 256 ^ xs.length = be xs + n) : ys = added xs n := by
  have h1 := be_lt hy
  refine beL_eq hy hl ?_
  rw [← h, Nat.add_mul_mod_self_right, Nat.mod_eq_of_lt (by rw [← hl]; exact h1)]
theorem add_step {ys : List Int} {q c y m D L X : Nat} (hq : q < L) (hL : ys.length = L) (hy : ys.getD q 0 = (y : Int)) (hs : c + y = 256 * D + m) (h : be ys + c * 256 ^ (L - (q + 1)) = X) : be (ys.set q (m : Int)) + D * 256 ^ (L - q) = X := by
  have hset := be_set ys q (m : Int) (by omega)
  rw [hy, hL, show L - 1 - q = L - (q + 1) by omega, Int.toNat_natCast, Int.toNat_natCast] at hset
  have hpow : 256 ^ (L - q) = 256 * 256 ^ (L - (q + 1)) := by rw [show L - q = (L - (q + 1)) + 1 by omega, Nat.pow_succ, Nat.mul_comm]
  rw [hpow]
  generalize 256 ^ (L - (q + 1)) = P at *
  have e1 : (c + y) * P = (256 * D + m) * P := by rw [hs]
  rw [Nat.add_mul, Nat.add_mul] at e1
  have e2 : D * (256 * P) = 256 * D * P := by rw [← Nat.mul_assoc, Nat.mul_comm D 256]
  rw [e2]
  omega

set_option maxRecDepth 10000 in
set_option maxHeartbeats 2000000 in
theorem radd_any (a : Option Addr) (cap n : Nat) (xs : List Int) (w : World) (hv : Rw .i64 w (.slice a xs.length cap) xs) (hx : Byts xs) (h0 : 0 < xs.length) (h1 : xs.length ≤ 5000) (hn : n < 4294967296) :
    Calls Tryz.prog 64 #[.slice a xs.length cap, .int .u64 n] w fun x w' => ∃ a' cap', x = .returned (.slice a' xs.length cap') ∧ w'.ownsRow w.heap.size 3 1 (.slice a' xs.length cap') xs.length ((added xs n).map (Value.int .i64)) ∧ Below w.heap.size w w' := by
  obtain ⟨i0, hi, hz0, hz1, hz2⟩ := info_parts info3
  have HX : Hid (Byts xs) := hx
  have hsrc : Rw .i64 (w.alloc (.cells #[] 3)) (.slice a xs.length cap) xs := hv.below (below1 w _)
  have hnn : a = none → cap = 0 := by
    obtain ⟨a', cap', he, ha⟩ := hv
    simp only [Value.slice.injEq] at he
    obtain ⟨rfl, _, rfl⟩ := he
    obtain ⟨b, off, rfl, _⟩ := ha.resolve_left (by intro h; subst h; simp at h0)
    intro h; cases h
  have hmx : 0 + xs.length ≤ maxLen := by unfold maxLen; omega
  have hbb0 := below1 w (.cells #[] 3)
  go_enter Tryz.func64, Tryz.ntmps64
  go_wp2_with (at_builtin; refine wpList_append_rw rfl _ _ _ rfl w.heap.size 3 i0 (.int .i64 0) 8 Tryz.underlying45 hi hz0 hz1 hz2 rfl .i64 (.slice (some ⟨w.heap.size, 0, none⟩) 0 0) 0 [] rfl (own_empty (Nat.le_refl _)) a cap xs rfl hsrc hnn hmx (by omega) (by simp) ?_)
  intro v1 w1 hown1 hgrow1
  obtain ⟨a1, cap1, rfl, hc1, hm1, hna⟩ := owns_open hown1
  have hbw1 : Below w.heap.size w w1 := hbb0.grown hgrow1 (by simp) (fun k hk => by simp [Value.ownBlock] at hk; omega)
  clear hgrow1 hsrc hbb0
  go_wp2
  go_loopw [1, 6] (fun nv i wr => ∃ (p c : Nat) (ii : Int) (ys : List Int), p ≤ xs.length ∧ nv = .int .u64 c ∧ i = .int .i64 ii ∧ Hid (ii = (p : Int) - 1) ∧ c < 4294967296 ∧ Byts ys ∧ Hid (ys.length = xs.length) ∧ Hid (be ys + c * 256 ^ (xs.length - p) = be xs + n) ∧ wr.ownsRow w.heap.size 3 1 (.slice a1 xs.length cap1) xs.length (ys.map (Value.int .i64)) ∧ Below w.heap.size w wr) (fun _ i _ => ((intOf i) + 1).toNat)
  case atStart => exact ⟨xs.length, n, _, xs, Nat.le_refl _, rfl, rfl, rfl, hn, HX.out, rfl, by unfold Hid; simp, hown1, hbw1⟩
  case round =>
    clear hown1
    obtain ⟨p, c, ii, ys, hp, rfl, rfl, HI, hc, hy, HY, HB, hown, hbw⟩ := hrel
    by_cases hp0 : p = 0
    · subst hp0
      have hii : ii = -1 := by have := HI.out; simpa using this
      subst hii
      have hfin := added_of (c := c) HX.out hy HY.out (by have := HB.out; simpa using this)
      subst hfin
      go_wp2
      go_ret
      exact ⟨_, _, rfl, hown, hbw⟩
    · obtain ⟨q, rfl⟩ : ∃ q, p = q + 1 := ⟨p - 1, by omega⟩
      have hii : ii = (q : Int) := by have := HI.out; omega
      subst hii
      obtain ⟨g, rfl, hg, hgz, hcell, hfr⟩ := owns_at hown q (by omega)
      obtain ⟨y, hy1, hy2⟩ := byts_nat hy q
      rw [hy1] at hcell
      obtain ⟨m, D, hm, hD, hmD, hm2, hD2⟩ : ∃ m D : Nat, ((c : Int) + (y : Int)).tmod 256 = (m : Int) ∧ ((c : Int) + (y : Int)).tdiv 256 = (D : Int) ∧ c + y = 256 * D + m ∧ m < 256 ∧ D < 4294967296 := by
        refine ⟨(c + y) % 256, (c + y) / 256, ?_, ?_, by omega, by omega, by omega⟩
        · rw [← Int.natCast_add]; rfl
        · rw [← Int.natCast_add]; rfl
      have hnew := add_step (X := be xs + n) (show q < xs.length by omega) HY.out hy1 hmD HB.out
      have HN : Hid (be (ys.set q (m : Int)) + D * 256 ^ (xs.length - q) = be xs + n) := hnew
      have hsetb := hy.set q (y := (m : Int)) (by omega) (by omega)
      have hown2 := owns_set hown q (m : Int)
      clear hy1 hp0 hmD hnew
      have i1 : (0 : Int) ≤ (q : Int) := by omega
      have i2 : (q : Int) < (xs.length : Int) := by omega
      go_wp2
      exact ⟨⟨q, D, _, ys.set q (m : Int), by omega, rfl, rfl, rfl, hD2, hsetb, by unfold Hid; rw [List.length_set]; exact HY.out, HN, hown2, bset1 hbw _ _ _ hg⟩, by simp [intOf]⟩
end Go.Proofs.YtidppkbphkcmeaaGreat
/- A choice is put, by the document. -/
namespace Go.Proofs.YtidppkbphkcmeaaGreat
open Go.RowKit
set_option linter.unusedVariables false
set_option linter.unusedSimpArgs false

theorem En.Ok.all_be {e : En} (h : e.Ok) : be e.all = e.N := by
  unfold En.all
  rw [be_beL, Nat.mod_eq_of_lt h.lt]
theorem En.Ok.raw_all {e : En} (h : e.Ok) (lo hi tot : Nat) : added e.all (ahead e.R lo tot) = (e.raw lo hi tot).all := by
  unfold added
  rw [h.all_be, En.all_length]
  rfl
theorem En.step_all (e : En) : e.step.all = e.all ++ [0] := by
  show beL (e.N * 256) (e.m + 1 + 4) = beL e.N (e.m + 4) ++ [0]
  rw [show e.m + 1 + 4 = (e.m + 4) + 1 by omega, beL, Nat.mul_div_cancel _ (by decide), Nat.mul_mod_left]
  rfl
theorem En.all_byts (e : En) : Byts e.all := beL_byts _ _
/-- A row of the call's own is not the struct whose first cell is of another kind. -/
theorem owns_ne {w : World} {base : Nat} {e : TypeId} {a : Option Addr} {n cap b : Nat} {xs : List Int} {r : Int} (h : w.ownsRow base e 1 (.slice a n cap) n (xs.map (Value.int .i64))) (hn : 0 < n) (hc : w.cell? ⟨b, 0, none⟩ = some (.int .u64 r)) : (Value.slice a n cap).ownBlock ≠ some b := by
  obtain ⟨g, rfl, _, _, hcell, _⟩ := owns_at h 0 hn
  intro hh
  simp [Value.ownBlock] at hh
  subst hh
  rw [hcell] at hc
  simp at hc
/-- How often a range is still to be moved on, of the document's struct. -/
def cellSh0 (w : World) (b : Nat) : Nat := match w.cell? ⟨b, 0, none⟩ with
  | some (.int _ r) => sh r.toNat
  | _ => 0
theorem cellSh0_of {w : World} {b : Nat} {k : IntKind} {r : Int} (h : w.cell? ⟨b, 0, none⟩ = some (.int k r)) : cellSh0 w b = sh r.toNat := by
  unfold cellSh0; rw [h]

/-- The value of an encoder, the document's. -/
def rEv (w : World) (R : Int) (a : Option Addr) (n cap : Nat) (e : En) : Prop := e.Ok ∧ R = e.R ∧ n = e.m + 4 ∧ Rw .i64 w (.slice a n cap) e.all
theorem rEv.below {w w' : World} {R : Int} {a : Option Addr} {n cap : Nat} {e : En} (h : rEv w R a n cap e) (hb : Below w.heap.size w w') : rEv w' R a n cap e := ⟨h.1, h.2.1, h.2.2.1, h.2.2.2.below hb⟩

set_option maxRecDepth 10000 in
set_option maxHeartbeats 2000000 in
theorem rput_arg (R : Int) (a : Option Addr) (n cap : Nat) (e : En) (lo hi tot : Int) (w : World) (h : rEv w R a n cap e) (hf : fairB lo hi tot = false) :
    Calls Tryz.prog 31 #[.agg #[.int .u64 R, .slice a n cap], .int .i64 lo, .int .i64 hi, .int .i64 tot] w fun x w' => x = .returned (.tuple #[.agg #[.int .u64 R, .slice a n cap], .int .i64 1]) ∧ Below w.heap.size w w' := by
  go_enter Tryz.func31, Tryz.ntmps31
  go_wp2_with (go_at_call 62; refine (rfair_any _ _ _ _).mono ?_; rw [hf]; rintro x w2 ⟨rfl, rfl⟩)
  exact bodyPost_ret (v := .tuple #[.agg #[.int .u64 R, .slice a n cap], .int .i64 1]) (by simp [results, Tryz.results31, go_sem]) rfl ⟨rfl, below2 _ _ _⟩
set_option maxRecDepth 10000 in
set_option maxHeartbeats 2000000 in
theorem rput_full (R : Int) (a : Option Addr) (n cap : Nat) (e : En) (lo hi tot : Int) (w : World) (h : rEv w R a n cap e) (hf : fairB lo hi tot = true) (hm : (4000 : Int) ≤ (n : Int)) :
    Calls Tryz.prog 31 #[.agg #[.int .u64 R, .slice a n cap], .int .i64 lo, .int .i64 hi, .int .i64 tot] w fun x w' => x = .returned (.tuple #[.agg #[.int .u64 R, .slice a n cap], .int .i64 3]) ∧ Below w.heap.size w w' := by
  go_enter Tryz.func31, Tryz.ntmps31
  go_wp2_with (go_at_call 62; refine (rfair_any _ _ _ _).mono ?_; rw [hf]; rintro x w2 ⟨rfl, rfl⟩)
  exact bodyPost_ret (v := .tuple #[.agg #[.int .u64 R, .slice a n cap], .int .i64 3]) (by simp [results, Tryz.results31, go_sem]) rfl ⟨rfl, below2 _ _ _⟩

set_option maxRecDepth 10000 in
set_option maxHeartbeats 2000000 in
theorem rput_ok (R : Int) (a : Option Addr) (n cap : Nat) (e : En) (lo hi tot : Nat) (w : World) (h : rEv w R a n cap e) (hf : Fair lo hi tot) (hm : (n : Int) < 4000) :
    Calls Tryz.prog 31 #[.agg #[.int .u64 R, .slice a n cap], .int .i64 lo, .int .i64 hi, .int .i64 tot] w fun x w' => ∃ R' a' n' cap', x = .returned (.tuple #[.agg #[.int .u64 R', .slice a' n' cap'], .int .i64 0]) ∧ rEv w' R' a' n' cap' (e.put lo hi tot) ∧ Below w.heap.size w w' := by
  obtain ⟨hok, rfl, hn, hrw⟩ := h
  have hm2 : e.m < 3996 := by omega
  have hpok := En.put_ok hok hf hm2
  have hmid := hok.rawMid hf hm2
  have HMid : Hid ((e.raw lo hi tot).Mid) := hmid
  have hal := ahead_width (R := e.R) hf
  have hr2 := hok.r.2
  have hA1 : ahead e.R lo tot < 4294967296 := by omega
  have hrw2 := hrw
  rw [hn, ← En.all_length] at hrw2
  have hadd : ∀ w', Rw .i64 w' (.slice a n cap) e.all → Calls Tryz.prog 64 #[.slice a n cap, .int .u64 (ahead e.R lo tot)] w' fun x w1 => ∃ a' cap', x = .returned (.slice a' n cap') ∧ w1.ownsRow w'.heap.size 3 1 (.slice a' n cap') n ((e.raw lo hi tot).all.map (Value.int .i64)) ∧ Below w'.heap.size w' w1 := fun w' hh => by
    rw [hn, ← En.all_length] at hh
    have := radd_any a cap (ahead e.R lo tot) e.all w' hh e.all_byts (by rw [En.all_length]; omega) (by rw [En.all_length]; omega) hA1
    rw [hok.raw_all lo hi tot, En.all_length] at this
    rw [hn]
    exact this
  have hpart := fun w => part_any e.R lo hi tot w hok.r hf
  have HPok : Hid ((e.put lo hi tot).Ok) := hpok
  rw [En.put_norm] at HPok ⊢
  obtain ⟨F, hF⟩ : ∃ F, F = (e.raw lo hi tot).norm := ⟨_, rfl⟩
  rw [← hF] at HPok ⊢
  have HF : Hid (F = (e.raw lo hi tot).norm) := hF
  have HRW : Hid ((e.raw lo hi tot).R = width e.R lo hi tot) := rfl
  have HRM : Hid ((e.raw lo hi tot).m + 4 = n) := hn.symm
  clear hF hmid hrw2 hal hA1 hpok
  generalize ahead e.R lo tot = A at *
  obtain ⟨W, hWi⟩ : ∃ W : Int, ((width e.R lo hi tot : Nat) : Int) = W := ⟨_, rfl⟩
  rw [hWi] at hpart
  have HWi : Hid (((width e.R lo hi tot : Nat) : Int) = W) := hWi
  have hff := fair_nat hf
  obtain ⟨i0, hi0, hz0, hz1, hz2⟩ := info_parts info3
  have hW := below2 w (.cells #[.int .u64 e.R, .slice a n cap] 65) (.cells #[.int .u64 0, .slice none 0 0] 65)
  generalize e.raw lo hi tot = E0 at *
  obtain ⟨ni, hni⟩ : ∃ ni : Int, (n : Int) = ni := ⟨_, rfl⟩
  have hnn : ¬ (4000 : Int) ≤ ni := by omega
  clear hWi hn hm2 hm
  go_enter Tryz.func31, Tryz.ntmps31
  go_wp2_with (first | (go_at_call 62; refine (rfair_any _ _ _ _).mono ?_; rw [hff]; rintro x w2 ⟨rfl, rfl⟩) | (go_at_call 63; refine (hpart _).mono ?_; rintro x w2 ⟨rfl, rfl⟩) | (go_at_call 64; refine (hadd _ (hrw.below hW)).mono ?_; rintro x w3 ⟨a3, cap3, rfl, hown, hb3⟩))
  have hown1 : w3.ownsRow (w.heap.size + 2) 3 1 (.slice a3 n cap3) n (E0.all.map (Value.int .i64)) := by simpa using hown
  have hbw3 := bthen hW hb3 hW.size
  have hR3 := ((B2.new2 w (.cells #[.int .u64 e.R, .slice a n cap] 65) (.int .u64 0) (.slice none 0 0) 65).below hb3).below (below1 w3 (.cells #[.int .u64 W, .slice a3 n cap3] 65))
  have hz3 := hb3.size
  simp at hz3
  have hB3 := B2.new w3 (.int .u64 W) (.slice a3 n cap3) 65
  have hbx := hbw3.alloc hbw3.size (.cells #[.int .u64 W, .slice a3 n cap3] 65)
  have hox := hown1.alloc (.cells #[.int .u64 W, .slice a3 n cap3] 65)
  clear hown hown1 hb3 hadd hpart hrw
  go_loopw [] (fun wr => ∃ (e' : En) (a' : Option Addr) (cap' Mx : Nat) (r : Int), Hid (e'.Mid) ∧ Hid (e'.norm = F) ∧ Hid (r = e'.R) ∧ Hid (e'.m + 4 = Mx) ∧ B2 wr w3.heap.size (.int .u64 r) (.slice a' Mx cap') ∧ B2 wr (w.heap.size + 1) (.int .u64 0) (.slice none 0 0) ∧ wr.ownsRow (w.heap.size + 2) 3 1 (.slice a' Mx cap') Mx (e'.all.map (Value.int .i64)) ∧ Below w.heap.size w wr) (fun wr => cellSh0 wr w3.heap.size)
  case atStart => exact ⟨E0, a3, cap3, n, W, HMid.out, HF.out.symm, by unfold Hid; rw [HRW.out]; exact HWi.out.symm, HRM.out, hB3, hR3, hox, hbx⟩
  case round =>
    clear hB3 hR3 hox hbx hff hni hnn
    obtain ⟨e', a', cap', Mx, r, HMd, HN, HR, HMx, hb3, hr3, hownx, hbr⟩ := hrel
    obtain ⟨z, c0, c1, f0, f1⟩ := id hb3
    have m0 : (256 : Int) ≤ r := by rw [HR.out]; have := HMd.out.r0; omega
    have m1 : r ≤ 4294967295 := by rw [HR.out]; have := HMd.out.r1; omega
    have hsz := hbr.size
    by_cases hlt : r < 16777216
    · have hR3 : e'.R < 16777216 := by have := HR.out; omega
      have HNs : Hid (e'.step.norm = F) := by unfold Hid; rw [← En.norm_step e' HMd.out.r0 hR3]; exact HN.out
      have HMs : Hid (e'.step.Mid) := HMd.out.step hR3
      have HSh : Hid (sh e'.R = sh (e'.R * 256) + 1) := sh_step e'.R HMd.out.r0 hR3
      have hMb : Hid (Mx ≤ 4002) := by unfold Hid; have := HMd.out.m; have := HMx.out; omega
      have hMp : Hid (0 < Mx) := by unfold Hid; have := HMx.out; omega
      have HO : Hid (e'.step.all.map (Value.int .i64) = e'.all.map (Value.int .i64) ++ [.int .i64 0]) := by
        unfold Hid; rw [En.step_all]; simp
      clear hR3
      have nb := owns_ne hownx hMp.out c0
      have hlt2 := hownx.lt
      have nr : (Value.slice a' Mx cap').ownBlock ≠ some (w.heap.size + 1) := fun hh => by have := (hlt2 _ hh).1; omega
      have hw1 := owns_off hownx w3.heap.size 0 nb (.int .u64 (r * 256))
      have hb3a := hb3.set0 (.int .u64 (r * 256))
      have hr3a := hr3.other w3.heap.size 0 (.int .u64 (r * 256)) (by omega)
      have hbra := bset1 hbr w3.heap.size 0 (.int .u64 (r * 256)) (by omega)
      have hs1 := cellSh0_of hb3.c0
      have hzz : (wr.setCell ⟨w3.heap.size, 0, none⟩ (.int .u64 (r * 256))).heap.size = wr.heap.size := by simp [World.setCell]
      go_wp2_with (at_builtin; refine wpList_append_own _ rfl _ _ 45 rfl (w.heap.size + 2) 3 i0 (.int .i64 0) 1 8 Tryz.underlying45 hi0 hz0 hz1 hz2 rfl (by decide) _ _ _ rfl (hw1.alloc _) ⟨wr.heap.size, 0, none⟩ 1 1 [.int .i64 0] rfl rfl (cell_one_at hzz _ _) ?c2 ?c3 ?c4 ?c5 ?_)
      case c2 => intro u hu; simp at hu; subst hu; rfl
      case c3 => have := hMb.out; unfold maxLen; omega
      case c4 => have := hMb.out; omega
      case c5 => simp [hzz]; omega
      intro v' w2 hown' hgrow _
      have hb4 := (hb3a.below (below1 _ (.cells #[.int .i64 0] 3))).grown hgrow nb
      have hr4 := (hr3a.below (below1 _ (.cells #[.int .i64 0] 3))).grown hgrow nr
      have hbw2 : Below w.heap.size w w2 := (hbra.alloc hbra.size _).grown hgrow (by simp [hzz]; omega) (fun k hk => by have := (hlt2 k hk).1; omega)
      obtain ⟨a2, cap2, rfl, hcap2, hmax2, _⟩ := owns_open hown'
      rw [← HO.out] at hown'
      have nb2 := owns_ne hown' (by omega) hb4.c0
      clear c0 c1 f0 f1 z hgrow hownx hlt2 nb nr hw1 hzz
      obtain ⟨z, c0, c1, f0, f1⟩ := id hb4
      go_wp2
      have hnew := hb4.set1 (.slice a2 (Mx + 1) cap2)
      have hs2 := cellSh0_of hnew.c0
      have hr2 : (r * 256).toNat = e'.R * 256 := by rw [HR.out]; omega
      have hr1 : r.toNat = e'.R := by rw [HR.out]; omega
      go_roundw
      case rel => exact ⟨e'.step, a2, cap2, Mx + 1, r * 256, HMs, HNs, by unfold Hid; rw [HR.out]; show _ = ((e'.R * 256 : Nat) : Int); omega, by unfold Hid; show e'.m + 1 + 4 = _; have := HMx.out; omega, hnew, hr4.other _ _ _ (by omega), owns_off hown' _ _ nb2 _, bset1 hbw2 _ _ _ (by omega)⟩
      case measure => rw [hs1, hs2, hr2, hr1, HSh.out]; omega
    · have hFe : Hid (e' = F) := by
        unfold Hid
        rw [← HN.out, En.norm_done _ (by have := HR.out; omega)]
      obtain ⟨rz, r0, r1, p0, p1⟩ := id hr3
      go_wp2
      refine bodyPost_ret (v := .tuple #[.agg #[.int .u64 r, .slice a' Mx cap'], .int .i64 0]) (by simp [results, Tryz.results31, go_sem, c0, c1, r0, r1, p0, p1]) rfl ⟨r, a', Mx, cap', rfl, ⟨HPok.out, ?_, ?_, ?_⟩, ?_⟩
      · rw [← hFe.out]; exact HR.out
      · rw [← hFe.out]; exact HMx.out.symm
      · rw [← hFe.out]
        exact Rw.of_owns (owns_other (owns_other hownx _ _ _ (by omega)) _ _ _ (by omega))
      · exact bset2' hbr _ _ _ (by omega)
end Go.Proofs.YtidppkbphkcmeaaGreat
/- Is it the document's encoder? -/
namespace Go.Proofs.YtidppkbphkcmeaaGreat
open Go.RowKit
set_option linter.unusedVariables false
set_option linter.unusedSimpArgs false

end Go.Proofs.YtidppkbphkcmeaaGreat
/- A choice is put alike by the program and by the document, whatever comes of it. -/
namespace Go.Proofs.YtidppkbphkcmeaaGreat
open Go.RowKit
set_option linter.unusedVariables false
set_option linter.unusedSimpArgs false

/-- What Put answers: the encoder, the error. -/
def putE (e : En) (lo hi tot : Int) : En := if fairB lo hi tot = true ∧ e.m < 3996 then e.put lo.toNat hi.toNat tot.toNat else e
def putF (e : En) (lo hi tot : Int) : Int := if fairB lo hi tot = true then (if e.m < 3996 then 0 else 3) else 1
theorem putE_ok {e : En} (h : e.Ok) (lo hi tot : Int) : (putE e lo hi tot).Ok := by
  unfold putE
  split
  · rename_i hh
    obtain ⟨l, h', t, rfl, rfl, rfl, hf⟩ := fair_of hh.1
    simp only [Int.toNat_natCast]
    exact En.put_ok h hf hh.2
  · exact h
/-- The program's encoder, as a call hands it back. -/
def OutE (w w' : World) (x : Value) (F : En) : Prop := ∃ a' cap', x = .agg #[.int .u64 F.low, .int .u32 F.R, .slice a' F.m cap'] ∧ w'.ownsRow w.heap.size 5 1 (.slice a' F.m cap') F.m (F.out.map (Value.int .u8)) ∧ Below w.heap.size w w'
theorem put_all (L R : Int) (a : Option Addr) (n cap : Nat) (e : En) (lo hi tot : Int) (w : World) (h : EvOf w L R a n cap e) :
    Calls Tryz.prog 52 #[.agg #[.int .u64 L, .int .u32 R, .slice a n cap], .int .i64 lo, .int .i64 hi, .int .i64 tot] w fun x w' => ∃ a' cap', x = .returned (.tuple #[.agg #[.int .u64 (putE e lo hi tot).low, .int .u32 (putE e lo hi tot).R, .slice a' (putE e lo hi tot).m cap'], .int .i64 (putF e lo hi tot)]) ∧ w'.ownsRow w.heap.size 5 1 (.slice a' (putE e lo hi tot).m cap') (putE e lo hi tot).m ((putE e lo hi tot).out.map (Value.int .u8)) ∧ Below w.heap.size w w' := by
  unfold putE putF
  cases hf : fairB lo hi tot
  · simp only [Bool.false_eq_true, false_and, if_false]
    exact put_arg L R a n cap e lo hi tot w h hf
  · by_cases hm : e.m < 3996
    · simp only [true_and, hm, if_true]
      obtain ⟨l, h', t, rfl, rfl, rfl, hff⟩ := fair_of hf
      simp only [Int.toNat_natCast]
      exact put_ok L R a n cap e l h' t w h hff (by omega)
    · simp only [true_and, hm, if_false, if_true]
      exact put_full L R a n cap e lo hi tot w h hf (by omega)
theorem rput_all (R : Int) (a : Option Addr) (n cap : Nat) (e : En) (lo hi tot : Int) (w : World) (h : rEv w R a n cap e) :
    Calls Tryz.prog 31 #[.agg #[.int .u64 R, .slice a n cap], .int .i64 lo, .int .i64 hi, .int .i64 tot] w fun x w' => ∃ R' a' n' cap', x = .returned (.tuple #[.agg #[.int .u64 R', .slice a' n' cap'], .int .i64 (putF e lo hi tot)]) ∧ rEv w' R' a' n' cap' (putE e lo hi tot) ∧ Below w.heap.size w w' := by
  unfold putE putF
  have hn := h.2.2.1
  cases hf : fairB lo hi tot
  · simp only [Bool.false_eq_true, false_and, if_false]
    refine (rput_arg R a n cap e lo hi tot w h hf).mono ?_
    rintro x w' ⟨rfl, hb⟩
    exact ⟨R, a, n, cap, rfl, h.below hb, hb⟩
  · by_cases hm : e.m < 3996
    · simp only [true_and, hm, if_true]
      obtain ⟨l, h', t, rfl, rfl, rfl, hff⟩ := fair_of hf
      simp only [Int.toNat_natCast]
      exact rput_ok R a n cap e l h' t w h hff (by omega)
    · simp only [true_and, hm, if_false, if_true]
      refine (rput_full R a n cap e lo hi tot w h hf (by omega)).mono ?_
      rintro x w' ⟨rfl, hb⟩
      exact ⟨R, a, n, cap, rfl, h.below hb, hb⟩
theorem finish_ev (L R : Int) (a : Option Addr) (n cap : Nat) (e : En) (K : Nat) (hK : e.m + 4 = K) (w : World) (h : EvOf w L R a n cap e) :
    Calls Tryz.prog 24 #[.agg #[.int .u64 L, .int .u32 R, .slice a n cap]] w fun x w' => ∃ a' cap', x = .returned (.slice a' K cap') ∧ Rw .u8 w' (.slice a' K cap') e.all ∧ Below w.heap.size w w' := by
  subst hK
  refine (finish_any L R a n cap e w h).mono ?_
  rintro x w' ⟨v', rfl, hown, hb⟩
  obtain ⟨a', cap', rfl, _⟩ := owns_open hown
  exact ⟨a', cap', rfl, Rw.of_owns hown, hb⟩
end Go.Proofs.YtidppkbphkcmeaaGreat
/- Choices that were put are taken as they were: on plain numbers. Nothing of the program is used. -/
namespace Go.Proofs.YtidppkbphkcmeaaGreat
open Go.RowKit
set_option linter.unusedVariables false
set_option linter.unusedSimpArgs false

/-- An encoder that has never lost what it carried. -/
structure En.Good (e : En) : Prop where
  r : Rok e.R
  n : e.N + e.R ≤ 256 ^ (e.m + 4)
theorem En.new_good : En.new.Good := ⟨En.new_ok.r, by show 0 + 4294967295 ≤ 256 ^ (0 + 4); decide⟩
theorem En.Good.lt {e : En} (h : e.Good) : e.N < 256 ^ (e.m + 4) := by have := h.r.1; have := h.n; omega
theorem En.put_plain {e : En} (h : e.Good) {lo hi tot : Nat} (hf : Fair lo hi tot) : e.put lo hi tot = ⟨(e.N + ahead e.R lo tot) * 256 ^ sh (width e.R lo hi tot), e.m + sh (width e.R lo hi tot), width e.R lo hi tot * 256 ^ sh (width e.R lo hi tot)⟩ := by
  have h1 := ahead_width (R := e.R) hf
  have h2 := width_256 h.r hf
  have h3 := h.n
  unfold En.put
  rw [Nat.mod_eq_of_lt (by omega)]
theorem En.Good.put {e : En} (h : e.Good) {lo hi tot : Nat} (hf : Fair lo hi tot) : (e.put lo hi tot).Good := by
  have h1 := ahead_width (R := e.R) hf
  have h2 := width_256 h.r hf
  have h3 := h.n
  have h4 := h.r.2
  rw [En.put_plain h hf]
  refine ⟨sh_ok h2 (by omega), ?_⟩
  show (e.N + ahead e.R lo tot) * 256 ^ sh (width e.R lo hi tot) + width e.R lo hi tot * 256 ^ sh (width e.R lo hi tot) ≤ 256 ^ (e.m + sh (width e.R lo hi tot) + 4)
  rw [← Nat.add_mul, show e.m + sh (width e.R lo hi tot) + 4 = (e.m + 4) + sh (width e.R lo hi tot) by omega, Nat.pow_add 256 (e.m + 4)]
  exact Nat.mul_le_mul_right _ (by omega)

/-- A number of M + 4 bytes that begins as the encoder says. -/
structure Within (V M : Nat) (e : En) : Prop where
  m : e.m ≤ M
  lo : e.N * 256 ^ (M - e.m) ≤ V
  hi : V < (e.N + e.R) * 256 ^ (M - e.m)
theorem Within.self {e : En} (h : e.Good) : Within e.N e.m e := ⟨Nat.le_refl _, by simp, by have := h.r.1; simp; omega⟩
theorem Within.raw {V M : Nat} {e : En} (h : e.Good) {lo hi tot : Nat} (hf : Fair lo hi tot) (hw : Within V M (e.put lo hi tot)) : e.m + sh (width e.R lo hi tot) ≤ M ∧ (e.N + ahead e.R lo tot) * 256 ^ (M - e.m) ≤ V ∧ V < (e.N + ahead e.R lo tot + width e.R lo hi tot) * 256 ^ (M - e.m) := by
  rw [En.put_plain h hf] at hw
  obtain ⟨h1, h2, h3⟩ := hw
  simp only at h1 h2 h3
  have hp : 256 ^ sh (width e.R lo hi tot) * 256 ^ (M - (e.m + sh (width e.R lo hi tot))) = 256 ^ (M - e.m) := by
    rw [← Nat.pow_add]; congr 1; omega
  rw [Nat.mul_assoc, hp] at h2
  rw [← Nat.add_mul, Nat.mul_assoc, hp] at h3
  exact ⟨h1, h2, h3⟩
theorem Within.back {V M : Nat} {e : En} (h : e.Good) {lo hi tot : Nat} (hf : Fair lo hi tot) (hw : Within V M (e.put lo hi tot)) : Within V M e := by
  obtain ⟨h1, h2, h3⟩ := Within.raw h hf hw
  have h4 := ahead_width (R := e.R) hf
  refine ⟨by omega, Nat.le_trans (Nat.mul_le_mul_right _ (by omega)) h2, Nat.lt_of_lt_of_le h3 (Nat.mul_le_mul_right _ (by omega))⟩

/-! ### Many choices -/
def puts : En → List (Nat × Nat × Nat) → En
  | e, [] => e
  | e, c :: l => puts (e.put c.1 c.2.1 c.2.2) l
def Fairs (l : List (Nat × Nat × Nat)) : Prop := ∀ c ∈ l, Fair c.1 c.2.1 c.2.2
theorem Fairs.cons {c : Nat × Nat × Nat} {l : List (Nat × Nat × Nat)} (h : Fairs (c :: l)) : Fair c.1 c.2.1 c.2.2 ∧ Fairs l := ⟨h c (by simp), fun x hx => h x (by simp [hx])⟩
theorem Fairs.snoc {l : List (Nat × Nat × Nat)} {lo hi tot : Nat} (h : Fairs l) (hf : Fair lo hi tot) : Fairs (l ++ [(lo, hi, tot)]) := fun x hx => by
  rcases List.mem_append.1 hx with hx | hx
  · exact h x hx
  · simp at hx; subst hx; exact hf
theorem puts_append (e : En) (l m : List (Nat × Nat × Nat)) : puts e (l ++ m) = puts (puts e l) m := by
  induction l generalizing e with
  | nil => rfl
  | cons c l ih => exact ih _
theorem puts_snoc (e : En) (l : List (Nat × Nat × Nat)) (lo hi tot : Nat) : puts e (l ++ [(lo, hi, tot)]) = (puts e l).put lo hi tot := by rw [puts_append]; rfl
theorem En.Good.puts {e : En} (h : e.Good) {l : List (Nat × Nat × Nat)} (hl : Fairs l) : (puts e l).Good := by
  induction l generalizing e with
  | nil => exact h
  | cons c l ih => obtain ⟨hc, hl⟩ := hl.cons; exact ih (h.put hc) hl
theorem Within.puts {V M : Nat} {e : En} (h : e.Good) {l : List (Nat × Nat × Nat)} (hl : Fairs l) (hw : Within V M (puts e l)) : Within V M e := by
  induction l generalizing e with
  | nil => exact hw
  | cons c l ih => obtain ⟨hc, hl⟩ := hl.cons; exact Within.back h hc (ih (h.put hc) hl hw)

/-! ### The decoder that goes along -/
structure Track (V M : Nat) (e : En) (d : De) : Prop where
  c : d.C + e.N = V / 256 ^ (M - e.m)
  r : d.R = e.R
  a : d.A = e.m + 4
  b : d.B = beL V (M + 4)
theorem beL_bAt (V n k : Nat) (h : k < n) : bAt (beL V n) k = V / 256 ^ (n - 1 - k) % 256 := by
  unfold bAt; rw [beL_getD _ _ _ h]; rfl
theorem div_step (V j : Nat) : V / 256 ^ (j + 1) * 256 + V / 256 ^ j % 256 = V / 256 ^ j := by
  rw [Nat.pow_succ, ← Nat.div_div_eq_div_mul]; omega
theorem openC_beL (V M : Nat) (hV : V < 256 ^ (M + 4)) (k : Nat) (hk : k ≤ 4) : openC (beL V (M + 4)) k = V / 256 ^ (M + 4 - k) := by
  induction k with
  | zero => rw [openC, Nat.sub_zero, Nat.div_eq_of_lt hV]
  | succ k ih =>
    rw [openC, ih (by omega), beL_bAt _ _ _ (by omega)]
    have := div_step V (M + 4 - (k + 1))
    rw [show M + 4 - (k + 1) + 1 = M + 4 - k by omega] at this
    rw [show M + 4 - 1 - k = M + 4 - (k + 1) by omega]
    exact this
theorem Track.init {V M : Nat} (hV : V < 256 ^ (M + 4)) : Track V M En.new (De.open (beL V (M + 4))) := by
  refine ⟨?_, rfl, rfl, rfl⟩
  show openC (beL V (M + 4)) 4 + 0 = V / 256 ^ (M - 0)
  rw [openC_beL V M hV 4 (Nat.le_refl _)]
  rfl
theorem Track.step {V M : Nat} {e : En} {d : De} (h : Track V M e d) (hm : e.m + 1 ≤ M) (hc : d.C < e.R) (hr : e.R < 16777216) : Track V M e.step d.step ∧ d.step.C < e.step.R := by
  have h1 : d.A < M + 4 := by rw [h.a]; omega
  have hb : bAt d.B d.A = V / 256 ^ (M - (e.m + 1)) % 256 := by
    rw [h.b, beL_bAt _ _ _ h1, h.a]; congr 3; omega
  have hlt : bAt d.B d.A < 256 := by rw [hb]; omega
  have hC : d.step.C = d.C * 256 + bAt d.B d.A := by
    have hm : d.C % 16777216 = d.C := Nat.mod_eq_of_lt (Nat.lt_trans hc hr)
    unfold De.step
    simp only
    rw [hm]
  refine ⟨⟨?_, ?_, ?_, h.b⟩, ?_⟩
  · rw [hC]
    show d.C * 256 + bAt d.B d.A + e.N * 256 = V / 256 ^ (M - (e.m + 1))
    have h2 := div_step V (M - (e.m + 1))
    rw [show M - (e.m + 1) + 1 = M - e.m by omega, ← h.c, ← hb] at h2
    rw [← h2, Nat.add_mul]
    exact Nat.add_right_comm _ _ _
  · show d.R * 256 = e.R * 256; rw [h.r]
  · show aAt d.B d.A = e.m + 1 + 4
    unfold aAt
    rw [h.b, beL_length, if_pos h1, h.a]
  · rw [hC]; show _ < e.R * 256; omega
theorem Track.norm {V M : Nat} {e : En} {d : De} (h : Track V M e d) (hm : e.m + sh e.R ≤ M) (hc : d.C < e.R) (h0 : 256 ≤ e.R) : Track V M e.norm d.norm := by
  have hr := h.r
  by_cases h1 : 16777216 ≤ e.R
  · rw [En.norm_done e h1, De.norm_done d (by omega)]; exact h
  · rw [sh_step e.R h0 (by omega)] at hm
    obtain ⟨g, gc⟩ := h.step (by omega) hc (by omega)
    rw [En.norm_step e h0 (by omega), De.norm_step d (by omega) (by omega)]
    have g0 : 256 ≤ e.step.R := by show 256 ≤ e.R * 256; omega
    have hr2 := g.r
    by_cases h2 : 16777216 ≤ e.step.R
    · rw [En.norm_done _ h2, De.norm_done _ (by omega)]; exact g
    · have hm2 : e.step.m + sh e.step.R ≤ M := by show e.m + 1 + sh (e.R * 256) ≤ M; omega
      rw [sh_step e.step.R g0 (by omega)] at hm2
      obtain ⟨k, kc⟩ := g.step (by omega) gc (by omega)
      rw [En.norm_step _ g0 (by omega), De.norm_step _ (by omega) (by omega)]
      have h3 : 16777216 ≤ e.step.step.R := by show 16777216 ≤ e.R * 256 * 256; omega
      have hr3 := k.r
      rw [En.norm_done _ h3, De.norm_done _ (by omega)]; exact k
theorem Track.bounds {V M : Nat} {e : En} {d : De} (h : Track V M e d) (hg : e.Good) {lo hi tot : Nat} (hf : Fair lo hi tot) (hw : Within V M (e.put lo hi tot)) : ahead e.R lo tot ≤ d.C ∧ d.C < ahead e.R lo tot + width e.R lo hi tot := by
  obtain ⟨h1, h2, h3⟩ := Within.raw hg hf hw
  have hp : 0 < 256 ^ (M - e.m) := Nat.pow_pos (by decide)
  rw [← Nat.le_div_iff_mul_le hp] at h2
  rw [← Nat.div_lt_iff_lt_mul hp] at h3
  rw [← h.c] at h2 h3
  omega
theorem Track.get {V M : Nat} {e : En} {d : De} (h : Track V M e d) (hg : e.Good) {lo hi tot : Nat} (hf : Fair lo hi tot) (hw : Within V M (e.put lo hi tot)) : lo ≤ d.get tot ∧ d.get tot < hi := by
  obtain ⟨h1, h2⟩ := h.bounds hg hf hw
  have hl := hf.lt
  have hl2 := hf.le
  have hq := unit_ge hg.r (show 0 < tot by omega) hf.top
  unfold De.get
  rw [h.r]
  unfold ahead at h1 h2
  have g1 : lo ≤ d.C / (e.R / tot) := by rw [Nat.le_div_iff_mul_le (by omega), Nat.mul_comm]; exact h1
  by_cases hh : hi = tot
  · omega
  · have : d.C / (e.R / tot) < hi := by
      rw [Nat.div_lt_iff_lt_mul (by omega)]
      unfold width at h2
      rw [if_neg hh, ← Nat.mul_add, show lo + (hi - lo) = hi by omega] at h2
      rw [Nat.mul_comm]; exact h2
    omega
theorem Track.take {V M : Nat} {e : En} {d : De} (h : Track V M e d) (hg : e.Good) {lo hi tot : Nat} (hf : Fair lo hi tot) (hw : Within V M (e.put lo hi tot)) : Track V M (e.put lo hi tot) (d.take lo hi tot) := by
  obtain ⟨h1, h2⟩ := h.bounds hg hf hw
  obtain ⟨k1, _, _⟩ := Within.raw hg hf hw
  have h256 := width_256 hg.r hf
  have e1 : e.put lo hi tot = En.norm ⟨e.N + ahead e.R lo tot, e.m, width e.R lo hi tot⟩ := En.put_plain hg hf
  rw [e1]
  unfold De.take
  rw [h.r, Nat.min_eq_right h1]
  refine Track.norm (e := ⟨e.N + ahead e.R lo tot, e.m, width e.R lo hi tot⟩) (d := ⟨d.C - ahead e.R lo tot, width e.R lo hi tot, d.A, d.B⟩) ⟨?_, rfl, h.a, h.b⟩ k1 ?_ h256
  · show d.C - ahead e.R lo tot + (e.N + ahead e.R lo tot) = V / 256 ^ (M - e.m)
    rw [← h.c]; omega
  · show d.C - ahead e.R lo tot < width e.R lo hi tot
    omega
/-- The choice at a place is taken as it was put. -/
theorem Track.at {K : List (Nat × Nat × Nat)} (hK : Fairs K) {q : Nat} (hq : q < K.length) {d : De} (h : Track (puts En.new K).N (puts En.new K).m (puts En.new (K.take q)) d) :
    (K.getD q (0, 0, 0)).1 ≤ d.get (K.getD q (0, 0, 0)).2.2 ∧ d.get (K.getD q (0, 0, 0)).2.2 < (K.getD q (0, 0, 0)).2.1 ∧ Fair (K.getD q (0, 0, 0)).1 (K.getD q (0, 0, 0)).2.1 (K.getD q (0, 0, 0)).2.2 ∧
      Track (puts En.new K).N (puts En.new K).m (puts En.new (K.take (q + 1))) (d.take (K.getD q (0, 0, 0)).1 (K.getD q (0, 0, 0)).2.1 (K.getD q (0, 0, 0)).2.2) := by
  have hget : K.getD q (0, 0, 0) = K[q] := by rw [List.getD_eq_getElem?_getD, List.getElem?_eq_getElem hq]; rfl
  rw [hget]
  have hc : Fair K[q].1 K[q].2.1 K[q].2.2 := hK _ (List.getElem_mem hq)
  have hT : Fairs (K.take q) := fun x hx => hK x (List.mem_of_mem_take hx)
  have hD : Fairs (K.drop (q + 1)) := fun x hx => hK x (List.mem_of_mem_drop hx)
  have hg := En.new_good.puts hT
  have htk : K.take (q + 1) = K.take q ++ [K[q]] := by rw [List.take_succ_eq_append_getElem hq]
  have hsn : puts En.new (K.take (q + 1)) = (puts En.new (K.take q)).put K[q].1 K[q].2.1 K[q].2.2 := by rw [htk]; exact puts_snoc _ _ _ _ _
  have hall : puts En.new K = puts (puts En.new (K.take (q + 1))) (K.drop (q + 1)) := by rw [← puts_append, List.take_append_drop]
  have hw : Within (puts En.new K).N (puts En.new K).m ((puts En.new (K.take q)).put K[q].1 K[q].2.1 K[q].2.2) := by
    have hself := Within.self (En.new_good.puts hK)
    rw [← hsn]
    refine Within.puts (l := K.drop (q + 1)) ?_ hD ?_
    · rw [hsn]; exact hg.put hc
    · rw [← hall]; exact hself
  obtain ⟨g1, g2⟩ := h.get hg hc hw
  refine ⟨g1, g2, hc, ?_⟩
  rw [hsn]
  exact h.take hg hc hw
end Go.Proofs.YtidppkbphkcmeaaGreat
/- Slices of structs that came in; rows of structs that are kept; structs that a region makes. -/
namespace Go.Proofs.YtidppkbphkcmeaaGreat
open Go.RowKit
set_option linter.unusedVariables false
set_option linter.unusedSimpArgs false

/-- The cells of a list of choices. -/
def cells3 (K : List (Nat × Nat × Nat)) : List Value := K.flatMap fun p => [.int .i64 (p.1 : Int), .int .i64 (p.2.1 : Int), .int .i64 (p.2.2 : Int)]
theorem cells3_snoc (K : List (Nat × Nat × Nat)) (l h t : Nat) : cells3 (K ++ [(l, h, t)]) = cells3 K ++ [.int .i64 (l : Int), .int .i64 (h : Int), .int .i64 (t : Int)] := by simp [cells3]
theorem cells3_at (K : List (Nat × Nat × Nat)) (j : Nat) (h : j < K.length) : (cells3 K)[j * 3]? = some (.int .i64 ((K.getD j (0, 0, 0)).1 : Int)) ∧ (cells3 K)[j * 3 + 1]? = some (.int .i64 ((K.getD j (0, 0, 0)).2.1 : Int)) ∧ (cells3 K)[j * 3 + 2]? = some (.int .i64 ((K.getD j (0, 0, 0)).2.2 : Int)) := by
  induction K generalizing j with
  | nil => simp at h
  | cons q K ih => cases j with
    | zero => exact ⟨rfl, rfl, rfl⟩
    | succ j =>
      have := ih j (by simpa using h)
      rw [show (j + 1) * 3 = j * 3 + 3 by omega]
      exact this
theorem own_triples {w : World} {base : Nat} {T : TypeId} {kv : Value} {K : List (Nat × Nat × Nat)} (h : w.ownsRow base T 3 kv K.length (cells3 K)) :
    ∃ a cap, kv = .slice a K.length cap ∧ (K.length = 0 ∨ ∃ b off, a = some ⟨b, off, none⟩ ∧ b < w.heap.size ∧ ∀ j, j < K.length → w.cell? ⟨b, off + j * 3, none⟩ = some (.int .i64 ((K.getD j (0, 0, 0)).1 : Int)) ∧ w.cell? ⟨b, off + j * 3 + 1, none⟩ = some (.int .i64 ((K.getD j (0, 0, 0)).2.1 : Int)) ∧ w.cell? ⟨b, off + j * 3 + 2, none⟩ = some (.int .i64 ((K.getD j (0, 0, 0)).2.2 : Int))) := by
  obtain ⟨h1, h2⟩ := h
  rcases h2 with ⟨rfl, h0⟩ | ⟨g, cap, cur, rfl, hg, hh, hcap, hm, hs, ht⟩
  · exact ⟨none, 0, by rw [h0], .inl h0⟩
  · refine ⟨_, cap, rfl, .inr ⟨g, 0, rfl, ?_, fun j hj => ?_⟩⟩
    · rcases Nat.lt_or_ge g w.heap.size with h | h
      · exact h
      · rw [Array.getElem?_eq_none h] at hh; cases hh
    · obtain ⟨c0, c1, c2⟩ := cells3_at K j hj
      rw [← ht, List.getElem?_take_of_lt (by omega)] at c0 c1 c2
      simp only [World.cell?, hh, Nat.zero_add]
      exact ⟨by simpa using c0, by simpa using c1, by simpa using c2⟩
/-! ### A struct that a region has made, before or behind the call that it calls -/
/-! ### What Put makes of a choice -/
theorem put_cases (E : En) (x0 x1 x2 : Int) : (∃ l h t : Nat, x0 = l ∧ x1 = h ∧ x2 = t ∧ Fair l h t ∧ putE E x0 x1 x2 = E.put l h t ∧ putF E x0 x1 x2 = 0) ∨ (putE E x0 x1 x2 = E ∧ (putF E x0 x1 x2 == 0) = false) := by
  unfold putE putF
  cases hf : fairB x0 x1 x2
  · right; simp
  · by_cases hm : E.m < 3996
    · left
      obtain ⟨l, h', t, rfl, rfl, rfl, hff⟩ := fair_of hf
      exact ⟨l, h', t, rfl, rfl, rfl, hff, by simp [hm], by simp [hm]⟩
    · right; simp [hm]
end Go.Proofs.YtidppkbphkcmeaaGreat
/- Decoders in the forms that the laws' second loops want. -/
namespace Go.Proofs.YtidppkbphkcmeaaGreat
open Go.RowKit
set_option linter.unusedVariables false
set_option linter.unusedSimpArgs false

theorem get_dec {d : De} (h : d.Ok) {tot : Nat} (h1 : 1 ≤ tot) (h2 : tot ≤ 65536) (a : Option Addr) (cap : Nat) (W : World) (hr : Rw .u8 W (.slice a d.B.length cap) d.B) :
    Calls Tryz.prog 67 #[.agg #[.int .u64 d.C, .int .u32 d.R, .slice a d.B.length cap, .int .i64 d.A], .int .i64 tot] W fun e w' => e = .returned (.tuple #[.int .i64 (d.get tot : Nat), .int .i64 0]) ∧ Below W.heap.size W w' :=
  get_any _ _ _ _ _ _ d tot W (h.dv hr) h1 h2
theorem take_dec {d : De} (h : d.Ok) {lo hi tot : Nat} (hf : Fair lo hi tot) (a : Option Addr) (cap : Nat) (W : World) (hr : Rw .u8 W (.slice a d.B.length cap) d.B) :
    Calls Tryz.prog 68 #[.agg #[.int .u64 d.C, .int .u32 d.R, .slice a d.B.length cap, .int .i64 d.A], .int .i64 lo, .int .i64 hi, .int .i64 tot] W fun e w' => ∃ a' cap', e = .returned (.tuple #[.agg #[.int .u64 (d.take lo hi tot).C, .int .u32 (d.take lo hi tot).R, .slice a' (d.take lo hi tot).B.length cap', .int .i64 (d.take lo hi tot).A], .int .i64 0]) ∧ (∀ w1, Rw .u8 w1 (.slice a d.B.length cap) d.B → Rw .u8 w1 (.slice a' (d.take lo hi tot).B.length cap') (d.take lo hi tot).B) ∧ Below W.heap.size W w' := by
  refine (take_any _ _ _ _ _ _ d lo hi tot W (h.dv hr) hf).mono ?_
  rintro e w' ⟨a', cap', rfl, hrw, hb⟩
  refine ⟨a', cap', rfl, fun w1 h1 => ?_, hb⟩
  rw [De.take_B]
  exact hrw w1 (h.dv h1)
theorem open_dec {B : List Int} (hB : Byts B) (hl : B.length ≤ 5000) (a : Option Addr) (cap : Nat) (W : World) (hr : Rw .u8 W (.slice a B.length cap) B) :
    Calls Tryz.prog 39 #[.slice a B.length cap] W fun e w' => e = .returned (.agg #[.int .u64 (De.open B).C, .int .u32 (De.open B).R, .slice a (De.open B).B.length cap, .int .i64 (De.open B).A]) ∧ Below W.heap.size W w' :=
  open_any a cap B W hr hB hl
theorem track_new {K : List (Nat × Nat × Nat)} (hK : Fairs K) : Track (puts En.new K).N (puts En.new K).m (puts En.new (K.take 0)) (De.open (puts En.new K).all) :=
  Track.init (En.new_good.puts hK).lt
end Go.Proofs.YtidppkbphkcmeaaGreat
/- The document's logarithm; how many bytes choices take. -/
namespace Go.Proofs.YtidppkbphkcmeaaGreat
open Go.RowKit
set_option linter.unusedVariables false
set_option linter.unusedSimpArgs false

/-- How many bits a number has. -/
def nb : Nat → Nat → Nat
  | 0, _ => 0
  | f + 1, x => if x = 0 then 0 else 1 + nb f (x / 2)
theorem nb_le (f x : Nat) : nb f x ≤ f := by
  induction f generalizing x with
  | zero => simp [nb]
  | succ f ih => unfold nb; split
                 · omega
                 · have := ih (x / 2); omega
theorem nb_lt (f x : Nat) (h : x < 2 ^ f) : x < 2 ^ nb f x := by
  induction f generalizing x with
  | zero => simpa [nb] using h
  | succ f ih =>
    unfold nb
    split
    · rename_i h0; subst h0; simp
    · have := ih (x / 2) (by rw [Nat.pow_succ] at h; omega)
      rw [Nat.add_comm, Nat.pow_succ]; omega
theorem rlog_any (f : Nat) (hf : f ≤ 64) : ∀ (x : Nat) (w : World), x < 2 ^ f → Calls Tryz.prog 120 #[.int .u64 x] w fun e w' => e = .returned (.int .i64 ((nb f x : Int) - 1)) ∧ w' = w := by
  induction f with
  | zero =>
    intro x w hx
    have : x = 0 := by simpa using hx
    subst this
    show Calls Tryz.prog 120 #[.int .u64 ((0 : Nat) : Int)] w fun e w' => e = .returned (.int .i64 (((0 : Nat) : Int) - 1)) ∧ w' = w
    go_enter Tryz.func120, Tryz.ntmps120
    go_wp2_with fail
    go_ret
    exact ⟨rfl, rfl⟩
  | succ f ih =>
    intro x w hx
    have h64 : (2 : Nat) ^ (f + 1) ≤ 2 ^ 64 := Nat.pow_le_pow_right (by decide) hf
    have hx64 : x < 18446744073709551616 := Nat.lt_of_lt_of_le hx h64
    by_cases h0 : x = 0
    · subst h0
      have e : nb (f + 1) 0 = 0 := by unfold nb; rw [if_pos rfl]
      rw [e]
      clear h64 hx
      go_enter Tryz.func120, Tryz.ntmps120
      go_wp2_with fail
      go_ret
      exact ⟨rfl, rfl⟩
    · have hb : Hid (nb (f + 1) x = 1 + nb f (x / 2)) := by unfold Hid; rw [nb, if_neg h0]
      have hl := nb_le f (x / 2)
      have hc := fun w => ih (by omega) (x / 2) w (by rw [Nat.pow_succ] at hx; omega)
      have e2 : ((x / 2 : Nat) : Int) = (x : Int) / 2 := by omega
      rw [e2] at hc
      generalize nb f (x / 2) = l at *
      clear e2 ih h64 hx
      go_enter Tryz.func120, Tryz.ntmps120
      go_wp2_with (go_at_call 120; refine (hc _).mono ?_; rintro e w' ⟨rfl, rfl⟩)
      go_ret
      exact ⟨ret_int (by rw [hb.out]; omega), rfl⟩

/-! ### How many bytes choices take -/
/-- The bits of a whole. -/
def wb (tot : Nat) : Nat := nb 16 (tot - 1)
theorem wb_le (tot : Nat) : wb tot ≤ 16 := nb_le _ _
theorem wb_ge {tot : Nat} (h1 : 1 ≤ tot) (h : tot ≤ 65536) : tot ≤ 2 ^ wb tot := by
  have := nb_lt 16 (tot - 1) (by show tot - 1 < 65536; omega)
  unfold wb; omega
def sumB : List (Nat × Nat × Nat) → Nat
  | [] => 0
  | c :: l => wb c.2.2 + sumB l
theorem sumB_append (l m : List (Nat × Nat × Nat)) : sumB (l ++ m) = sumB l + sumB m := by
  induction l with
  | nil => simp [sumB]
  | cons c l ih => simp only [List.cons_append, sumB, ih]; omega
theorem sumB_snoc (l : List (Nat × Nat × Nat)) (lo hi tot : Nat) : sumB (l ++ [(lo, hi, tot)]) = sumB l + wb tot := by rw [sumB_append]; rfl
theorem sumB_le (l : List (Nat × Nat × Nat)) : sumB l ≤ 16 * l.length := by
  induction l with
  | nil => simp [sumB]
  | cons c l ih => have := wb_le c.2.2; simp only [sumB, List.length_cons]; omega
theorem width_wide {R lo hi tot : Nat} (hR : Rok R) (hf : Fair lo hi tot) : 256 * R ≤ 257 * (width R lo hi tot * 2 ^ wb tot) := by
  have h1 := hf.lt
  have h2 := hf.le
  have hq := unit_ge hR (show 0 < tot by omega) hf.top
  have hw := width_unit (R := R) hf
  have hb := wb_ge (show 1 ≤ tot by omega) hf.top
  have hlt : R < tot * (R / tot + 1) := Nat.lt_mul_div_succ R (by omega)
  generalize R / tot = q at *
  generalize width R lo hi tot = W at *
  have e1 : q * tot ≤ W * 2 ^ wb tot := Nat.mul_le_mul hw hb
  have e2 : tot * (q + 1) = q * tot + tot := by rw [Nat.mul_add, Nat.mul_comm tot q]; omega
  have e3 : 256 * tot ≤ q * tot := Nat.mul_le_mul_right _ hq
  omega
/-- What holds of an encoder's bytes: none is more than the choices' bits say, and a 257th part. -/
def Spare (E : En) (S n : Nat) : Prop := 4294967295 * 256 ^ E.m * 256 ^ n ≤ E.R * 2 ^ S * 257 ^ n
theorem Spare.put {E : En} (hg : E.Good) {S n : Nat} (h : Spare E S n) {lo hi tot : Nat} (hf : Fair lo hi tot) : Spare (E.put lo hi tot) (S + wb tot) (n + 1) := by
  have hw := width_wide hg.r hf
  rw [En.put_plain hg hf]
  unfold Spare at *
  simp only
  generalize width E.R lo hi tot = W at *
  generalize sh W = s
  generalize E.R = R at *
  rw [Nat.pow_add 256 E.m s, Nat.pow_add 2 S, Nat.pow_succ, Nat.pow_succ]
  generalize 256 ^ E.m = P at *
  generalize 256 ^ s = Q
  generalize 256 ^ n = A at *
  generalize 257 ^ n = B at *
  generalize 2 ^ S = C at *
  generalize 2 ^ wb tot = D at *
  have e1 : 4294967295 * (P * Q) * (A * 256) = (4294967295 * P * A) * (256 * Q) := by simp only [Nat.mul_assoc, Nat.mul_comm, Nat.mul_left_comm]
  have e2 : W * Q * (C * D) * (B * 257) = (257 * (W * D)) * (C * B * Q) := by simp only [Nat.mul_assoc, Nat.mul_comm, Nat.mul_left_comm]
  rw [e1, e2]
  refine Nat.le_trans (Nat.mul_le_mul_right _ h) ?_
  have e3 : R * C * B * (256 * Q) = (256 * R) * (C * B * Q) := by simp only [Nat.mul_assoc, Nat.mul_comm, Nat.mul_left_comm]
  rw [e3]
  exact Nat.mul_le_mul_right _ hw
theorem Spare.all {K : List (Nat × Nat × Nat)} (hK : Fairs K) : Spare (puts En.new K) (sumB K) K.length := by
  suffices h : ∀ (l : List (Nat × Nat × Nat)) (E : En) (S n : Nat), E.Good → Spare E S n → Fairs l → Spare (puts E l) (S + sumB l) (n + l.length) by
    have := h K En.new 0 0 En.new_good (by unfold Spare; show 4294967295 * 256 ^ 0 * 256 ^ 0 ≤ 4294967295 * 2 ^ 0 * 257 ^ 0; decide) hK
    simpa using this
  intro l
  induction l with
  | nil => intro E S n _ h _; simpa [puts, sumB] using h
  | cons c l ih =>
    intro E S n hg h hl
    obtain ⟨hc, hl⟩ := hl.cons
    have := ih (E.put c.1 c.2.1 c.2.2) (S + wb c.2.2) (n + 1) (hg.put hc) (h.put hg hc) hl
    simp only [puts, sumB, List.length_cons]
    rw [← Nat.add_assoc, show n + (l.length + 1) = n + 1 + l.length by omega]
    exact this
theorem pow_hundred : 257 ^ 100 ≤ 2 * 256 ^ 100 := by decide
theorem pow_more (n : Nat) : 257 ^ n ≤ 2 ^ (n / 100 + 1) * 256 ^ n := by
  have hb : ∀ b, b ≤ 100 → 257 ^ b ≤ 2 * 256 ^ b := fun b hb => by
    have h1 : 257 ^ b * 256 ^ (100 - b) ≤ 257 ^ 100 := by
      have : 257 ^ b * 257 ^ (100 - b) = 257 ^ 100 := by rw [← Nat.pow_add]; congr 1; omega
      rw [← this]
      exact Nat.mul_le_mul_left _ (Nat.pow_le_pow_left (by decide) _)
    have h2 : 256 ^ b * 256 ^ (100 - b) = 256 ^ 100 := by rw [← Nat.pow_add]; congr 1; omega
    have h3 := Nat.le_trans h1 pow_hundred
    rw [← h2, ← Nat.mul_assoc] at h3
    exact Nat.le_of_mul_le_mul_right h3 (Nat.pow_pos (by decide))
  have ha : ∀ a, 257 ^ (100 * a) ≤ 2 ^ a * 256 ^ (100 * a) := fun a => by
    rw [Nat.pow_mul, Nat.pow_mul, ← Nat.mul_pow]
    exact Nat.pow_le_pow_left pow_hundred _
  have e : n = 100 * (n / 100) + n % 100 := by omega
  have h1 := ha (n / 100)
  have h2 := hb (n % 100) (by omega)
  generalize n / 100 = a at *
  generalize n % 100 = b at *
  subst e
  rw [Nat.pow_add 257, Nat.pow_add 256, Nat.pow_succ]
  have := Nat.mul_le_mul h1 h2
  refine Nat.le_trans this (Nat.le_of_eq ?_)
  simp only [Nat.mul_assoc, Nat.mul_comm, Nat.mul_left_comm]
theorem short_enough {K : List (Nat × Nat × Nat)} (hK : Fairs K) : 8 * (puts En.new K).m ≤ 1 + sumB K + K.length / 100 := by
  have h := Spare.all hK
  have hr := (En.new_good.puts hK).r.2
  unfold Spare at h
  generalize (puts En.new K).m = m at *
  generalize (puts En.new K).R = R at *
  have h2 := pow_more K.length
  generalize K.length = n at *
  generalize sumB K = S at *
  have h3 : 4294967295 * 256 ^ m * 256 ^ n ≤ 4294967295 * (2 ^ S * (2 ^ (n / 100 + 1) * 256 ^ n)) := by
    refine Nat.le_trans h ?_
    rw [Nat.mul_assoc]
    exact Nat.mul_le_mul hr (Nat.mul_le_mul_left _ h2)
  rw [Nat.mul_assoc] at h3
  have h4 := Nat.le_of_mul_le_mul_left h3 (by decide)
  rw [← Nat.mul_assoc] at h4
  have h5 := Nat.le_of_mul_le_mul_right h4 (Nat.pow_pos (by decide))
  rw [← Nat.pow_add, pow256] at h5
  have h6 := (Nat.pow_le_pow_iff_right (show 1 < 2 by decide)).1 h5
  omega
end Go.Proofs.YtidppkbphkcmeaaGreat
/- A number is put: the program. -/
namespace Go.Proofs.YtidppkbphkcmeaaGreat
open Go.RowKit
set_option linter.unusedVariables false
set_option linter.unusedSimpArgs false

theorem upper_any (n : Nat) (h1 : 1 ≤ n) (h2 : n ≤ 4294967296) (w : World) : Calls Tryz.prog 90 #[.int .u64 n] w fun x w' => x = .returned (.int .u64 (((n - 1) / 65536 + 1 : Nat) : Int)) ∧ w' = w := by
  obtain ⟨k, rfl⟩ : ∃ k, n = k + 1 := ⟨n - 1, by omega⟩
  obtain ⟨q, hq, hq2⟩ : ∃ q : Nat, ((k : Int).tdiv 65536) = (q : Int) ∧ q = k / 65536 := ⟨k / 65536, rfl, rfl⟩
  rw [show k + 1 - 1 = k by omega, ← hq2]
  have hq3 : q ≤ 65536 := by omega
  rw [show ((k + 1 : Nat) : Int) = (k : Int) + 1 by omega, show ((q + 1 : Nat) : Int) = (q : Int) + 1 by omega]
  clear hq2 h1
  go_enter Tryz.func90, Tryz.ntmps90
  go_wp2
  go_ret
  exact ⟨rfl, rfl⟩

set_option maxRecDepth 10000 in
set_option maxHeartbeats 2000000 in
theorem putOne_any (L R : Int) (a : Option Addr) (n cap : Nat) (e : En) (v t : Nat) (hv : v ≤ 4294967296) (ht : t ≤ 4294967296) (w : World) (h : EvOf w L R a n cap e) :
    Calls Tryz.prog 89 #[.agg #[.int .u64 L, .int .u32 R, .slice a n cap], .int .u64 v, .int .u64 t] w fun x w' => ∃ a' cap', x = .returned (.tuple #[.agg #[.int .u64 (putE e v (v + 1) t).low, .int .u32 (putE e v (v + 1) t).R, .slice a' (putE e v (v + 1) t).m cap'], .int .i64 (putF e v (v + 1) t)]) ∧ RwF w.heap.size .u8 w' (.slice a' (putE e v (v + 1) t).m cap') (putE e v (v + 1) t).out ∧ Below w.heap.size w w' := by
  have hW := below2 w (.cells #[.int .u64 L, .int .u32 R, .slice a n cap] 52) (.cells #[.int .u64 0, .int .u32 0, .slice none 0 0] 52)
  have hput := fun W h => put_all L R a n cap e v (v + 1) t W h
  generalize putE e v (v + 1) t = F at *
  generalize putF e v (v + 1) t = er at *
  have i1 : IntKind.i64.wrap (v : Int) = v := wraps_i64 _ (by omega) (by omega)
  have i2 : IntKind.i64.wrap (t : Int) = t := wraps_i64 _ (by omega) (by omega)
  go_enter Tryz.func89, Tryz.ntmps89
  go_wp2_with (go_at_call 52; refine (hput _ (h.below hW)).mono ?_; rintro x w1 ⟨a1, cap1, rfl, hown, hb1⟩; obtain ⟨rz, r0, r1, r2, p0, p1, p2⟩ := (B3.new2 w _ _ _ _ _).below hb1)
  have hbw := bthen hW hb1 hW.size
  refine bodyPost_ret (v := .tuple #[.agg #[.int .u64 F.low, .int .u32 F.R, .slice a1 F.m cap1], .int .i64 er]) (by simp [results, Tryz.results89, go_sem, r0, r1, r2, p0, p1, p2]) rfl ⟨a1, cap1, rfl, ?_, bset3 hbw _ _ _ _ (by omega)⟩
  have q := RwF.of_owns hown
  simp only [World.size_alloc] at q
  exact (((q.set _ _ _ (by omega)).set _ _ _ (by omega)).set _ _ _ (by omega)).mono (by omega)

/-! ### What PutNum answers -/
def putNE (e : En) (v n : Nat) : En :=
  if n = 0 ∨ 4294967296 < n ∨ n ≤ v then e
  else if n ≤ 65536 then putE e v (v + 1) n
  else if putF e (v / 65536 : Nat) ((v / 65536 : Nat) + 1) ((n - 1) / 65536 + 1 : Nat) = 0 then
    (if putF (putE e (v / 65536 : Nat) ((v / 65536 : Nat) + 1) ((n - 1) / 65536 + 1 : Nat)) (v % 65536 : Nat) ((v % 65536 : Nat) + 1) (65536 : Nat) = 0 then putE (putE e (v / 65536 : Nat) ((v / 65536 : Nat) + 1) ((n - 1) / 65536 + 1 : Nat)) (v % 65536 : Nat) ((v % 65536 : Nat) + 1) (65536 : Nat) else e)
  else e
def putNF (e : En) (v n : Nat) : Int :=
  if n = 0 ∨ 4294967296 < n ∨ n ≤ v then 1
  else if n ≤ 65536 then putF e v (v + 1) n
  else if putF e (v / 65536 : Nat) ((v / 65536 : Nat) + 1) ((n - 1) / 65536 + 1 : Nat) = 0 then
    putF (putE e (v / 65536 : Nat) ((v / 65536 : Nat) + 1) ((n - 1) / 65536 + 1 : Nat)) (v % 65536 : Nat) ((v % 65536 : Nat) + 1) (65536 : Nat)
  else putF e (v / 65536 : Nat) ((v / 65536 : Nat) + 1) ((n - 1) / 65536 + 1 : Nat)
theorem putNE_ok {e : En} (h : e.Ok) (v n : Nat) : (putNE e v n).Ok := by
  unfold putNE
  repeat' split
  all_goals first | exact h | exact putE_ok h _ _ _ | exact putE_ok (putE_ok h _ _ _) _ _ _

/-- The program's answer. -/
def PutN (w : World) (x : Ending) (w' : World) (F : En) (er : Int) : Prop := ∃ a' cap', x = .returned (.tuple #[.agg #[.int .u64 F.low, .int .u32 F.R, .slice a' F.m cap'], .int .i64 er]) ∧ RwF w.heap.size .u8 w' (.slice a' F.m cap') F.out ∧ Below w.heap.size w w'

theorem encFor_row (L R : Int) (a : Option Addr) (n cap : Nat) (e : En) (w : World) (h : EvOf w L R a n cap e) :
    Calls Tryz.prog 58 #[.agg #[.int .u64 L, .int .u32 R, .slice a n cap]] w fun x w' => ∃ a' cap', x = .returned (.agg #[.int .u64 e.low, .int .u32 e.R, .slice a' e.m cap']) ∧ RwF w.heap.size .u8 w' (.slice a' e.m cap') e.out ∧ Below w.heap.size w w' := by
  refine (encFor_any L R a n cap e w h).mono ?_
  rintro x w' ⟨a', cap', rfl, hown, hb⟩
  exact ⟨a', cap', rfl, RwF.of_owns hown, hb⟩

set_option maxRecDepth 10000 in
set_option maxHeartbeats 2000000 in
theorem putNum_arg (L R : Int) (a : Option Addr) (m cap : Nat) (e : En) (v n : Nat) (hn : n = 0 ∨ 4294967296 < n ∨ n ≤ v) (w : World) (h : EvOf w L R a m cap e) :
    Calls Tryz.prog 57 #[.agg #[.int .u64 L, .int .u32 R, .slice a m cap], .int .u64 v, .int .u64 n] w fun x w' => PutN w x w' e 1 := by
  have hW := below2 w (.cells #[.int .u64 L, .int .u32 R, .slice a m cap] 52) (.cells #[.int .u64 0, .int .u32 0, .slice none 0 0] 52)
  have h3 : (n : Int) < 1 ∨ (¬ (n : Int) < 1 ∧ (4294967296 : Int) < n) ∨ (¬ (n : Int) < 1 ∧ ¬ (4294967296 : Int) < n ∧ (n : Int) ≤ v) := by omega
  clear hn
  rcases h3 with h1 | ⟨h1, h2⟩ | ⟨h1, h2, h3⟩
  all_goals
    go_enter Tryz.func57, Tryz.ntmps57
    go_wp2_with (go_at_call 58; refine (encFor_row _ _ _ _ _ e _ (h.below hW)).mono ?_; rintro x w1 ⟨a1, cap1, rfl, q, hb1⟩; obtain ⟨rz, r0, r1, r2, p0, p1, p2⟩ := (B3.new2 w _ _ _ _ _).below hb1)
    have hbw := bthen hW hb1 hW.size
    refine bodyPost_ret (v := .tuple #[.agg #[.int .u64 e.low, .int .u32 e.R, .slice a1 e.m cap1], .int .i64 1]) (by simp [results, Tryz.results57, go_sem, r0, r1, r2, p0, p1, p2]) rfl ⟨a1, cap1, rfl, ?_, bset3 hbw _ _ _ _ (by omega)⟩
    simp only [World.size_alloc] at q
    exact (((q.set _ _ _ (by omega)).set _ _ _ (by omega)).set _ _ _ (by omega)).mono (by omega)

set_option maxRecDepth 10000 in
set_option maxHeartbeats 2000000 in
theorem putNum_small (L R : Int) (a : Option Addr) (m cap : Nat) (e : En) (v n : Nat) (h1 : 1 ≤ n) (h2 : n ≤ 65536) (h3 : v < n) (w : World) (h : EvOf w L R a m cap e) :
    Calls Tryz.prog 57 #[.agg #[.int .u64 L, .int .u32 R, .slice a m cap], .int .u64 v, .int .u64 n] w fun x w' => PutN w x w' (putE e v (v + 1) n) (putF e v (v + 1) n) := by
  have hW := below2 w (.cells #[.int .u64 L, .int .u32 R, .slice a m cap] 52) (.cells #[.int .u64 0, .int .u32 0, .slice none 0 0] 52)
  have hone := fun W h => putOne_any L R a m cap e v n (by omega) (by omega) W h
  generalize putE e v (v + 1) n = F at *
  generalize putF e v (v + 1) n = er at *
  have k1 : ¬ (n : Int) < 1 := by omega
  have k2 : ¬ (4294967296 : Int) < n := by omega
  have k3 : ¬ (n : Int) ≤ v := by omega
  have k4 : (n : Int) ≤ 65536 := by omega
  clear h1 h2 h3
  go_enter Tryz.func57, Tryz.ntmps57
  go_wp2_with (go_at_call 89; refine (hone _ (h.below hW)).mono ?_; rintro x w1 ⟨a1, cap1, rfl, q, hb1⟩; obtain ⟨rz, r0, r1, r2, p0, p1, p2⟩ := (B3.new2 w _ _ _ _ _).below hb1)
  have hbw := bthen hW hb1 hW.size
  refine bodyPost_ret (v := .tuple #[.agg #[.int .u64 F.low, .int .u32 F.R, .slice a1 F.m cap1], .int .i64 er]) (by simp [results, Tryz.results57, go_sem, r0, r1, r2, p0, p1, p2]) rfl ⟨a1, cap1, rfl, ?_, bset3 hbw _ _ _ _ (by omega)⟩
  simp only [World.size_alloc] at q
  exact (((q.set _ _ _ (by omega)).set _ _ _ (by omega)).set _ _ _ (by omega)).mono (by omega)
end Go.Proofs.YtidppkbphkcmeaaGreat
/- A number is put: the program, at a great one; the document. -/
namespace Go.Proofs.YtidppkbphkcmeaaGreat
open Go.RowKit
set_option linter.unusedVariables false
set_option linter.unusedSimpArgs false

def NumPost (w : World) (x : Ending) (w' : World) (e F2 : En) (er1 er2 : Int) : Prop := (er1 = 0 ∧ er2 = 0 → PutN w x w' F2 0) ∧ (er1 = 0 ∧ (er2 == 0) = false → PutN w x w' e er2) ∧ ((er1 == 0) = false → PutN w x w' e er1)
set_option maxRecDepth 10000 in
set_option maxHeartbeats 4000000 in
theorem putNum_great (L R : Int) (a : Option Addr) (m cap : Nat) (e F1 F2 : En) (er1 er2 : Int) (v n q1 r1 u : Nat) (h2 : 65536 < n) (h3 : n ≤ 4294967296) (hv : v < n) (hq1 : q1 = v / 65536) (hr1 : r1 = v % 65536) (hu : u = (n - 1) / 65536 + 1) (hok1 : F1.Ok)
    (hone1 : ∀ W, EvOf W L R a m cap e → Calls Tryz.prog 89 #[.agg #[.int .u64 L, .int .u32 R, .slice a m cap], .int .u64 q1, .int .u64 u] W fun x w' => ∃ a' cap', x = .returned (.tuple #[.agg #[.int .u64 F1.low, .int .u32 F1.R, .slice a' F1.m cap'], .int .i64 er1]) ∧ RwF W.heap.size .u8 w' (.slice a' F1.m cap') F1.out ∧ Below W.heap.size W w')
    (hone2 : ∀ W a c, EvOf W F1.low F1.R a F1.m c F1 → Calls Tryz.prog 89 #[.agg #[.int .u64 F1.low, .int .u32 F1.R, .slice a F1.m c], .int .u64 r1, .int .u64 65536] W fun x w' => ∃ a' cap', x = .returned (.tuple #[.agg #[.int .u64 F2.low, .int .u32 F2.R, .slice a' F2.m cap'], .int .i64 er2]) ∧ RwF W.heap.size .u8 w' (.slice a' F2.m cap') F2.out ∧ Below W.heap.size W w')
    (w : World) (h : EvOf w L R a m cap e) :
    Calls Tryz.prog 57 #[.agg #[.int .u64 L, .int .u32 R, .slice a m cap], .int .u64 v, .int .u64 n] w fun x w' => NumPost w x w' e F2 er1 er2 := by
  have hup := fun W => upper_any n (by omega) h3 W
  rw [← hu] at hup
  have hd1 : ((v : Int).tdiv 65536) = (q1 : Int) := by rw [hq1]; rfl
  have hd2 : ((v : Int).tmod 65536) = (r1 : Int) := by rw [hr1]; rfl
  have k1 : ¬ (n : Int) < 1 := by omega
  have k2 : ¬ (4294967296 : Int) < n := by omega
  have k3 : ¬ (n : Int) ≤ v := by omega
  have k4 : ¬ (n : Int) ≤ 65536 := by omega
  have k5 : q1 ≤ 65536 := by omega
  have k6 : r1 < 65536 := by omega
  have i1 : IntKind.u64.wrap (q1 : Int) = q1 := nat_u64 _ (by omega)
  have i2 : IntKind.u64.wrap (r1 : Int) = r1 := nat_u64 _ (by omega)
  have i3 : IntKind.u64.wrap ((v : Int).tdiv 65536) = q1 := by rw [hd1, i1]
  have hW := below2 w (.cells #[.int .u64 L, .int .u32 R, .slice a m cap] 52) (.cells #[.int .u64 0, .int .u32 0, .slice none 0 0] 52)
  have hBe := (B3.new w (.int .u64 L) (.int .u32 R) (.slice a m cap) 52).below (below1 _ (.cells #[.int .u64 0, .int .u32 0, .slice none 0 0] 52))
  have hBr := B3.new2 w (.cells #[.int .u64 L, .int .u32 R, .slice a m cap] 52) (.int .u64 0) (.int .u32 0) (.slice none 0 0) 52
  have hev := h.below hW
  have hsz : w.heap.size + 2 ≤ ((w.alloc (.cells #[.int .u64 L, .int .u32 R, .slice a m cap] 52)).alloc (.cells #[.int .u64 0, .int .u32 0, .slice none 0 0] 52)).heap.size := by simp
  have h0 := h
  clear hq1 hr1 hu h2 h3 hv h
  go_enter Tryz.func57, Tryz.ntmps57
  go_wp2_with fail
  generalize ((w.alloc (.cells #[.int .u64 L, .int .u32 R, .slice a m cap] 52)).alloc (.cells #[.int .u64 0, .int .u32 0, .slice none 0 0] 52)) = W at *
  go_cut [8, 9] (fun p8 p9 wz => ∃ x9 c9, p9 = .int .i64 er1 ∧ RwF W.heap.size .u8 wz (.slice x9 F1.m c9) F1.out ∧ Made3 W wz p8 (.int .u64 F1.low) (.int .u32 F1.R) (.slice x9 F1.m c9))
  case first =>
    go_region_held3 (fun w' => w'.cell? ⟨w.heap.size, 0, none⟩ = some (.int .u64 L) ∧ w'.cell? ⟨w.heap.size, 1, none⟩ = some (.int .u32 R) ∧ w'.cell? ⟨w.heap.size, 2, none⟩ = some (.slice a m cap)) (exact held3 (by first | exact (Below.refl _ _).drew | exact ((Below.refl _ _).alloc (Nat.le_refl _) _).drew | exact hy1 | exact hy1.alloc hy1.size _ | exact bset3 hy1 _ _ _ _ (Nat.le_refl _)) hBe) (first | (go_at_call 90; refine (hup _).mono ?_; rintro x y0 ⟨rfl, rfl⟩) | (go_at_call 89; refine (hone1 _ (hev.below (by first | exact (Below.refl _ _).drew | exact ((Below.refl _ _).alloc (Nat.le_refl _) _).drew))).mono ?_; rintro x y1 ⟨x9, c9, rfl, q9, e1⟩; have hy1 : Below W.heap.size W y1 := bthen' (by first | exact (Below.refl _ _).drew | exact ((Below.refl _ _).alloc (Nat.le_refl _) _).drew) e1; obtain ⟨hcA, hfA⟩ := bcell e1))
    all_goals go_wp2
    all_goals go_meet
    all_goals first | exact ⟨x9, c9, rfl, row_after q9 _, made3_after hy1⟩ | exact ⟨x9, c9, rfl, row_before3 q9 _ _ _, made3_before e1⟩
  case rest =>
    obtain ⟨x9, c9, rfl, r9, bx, rfl, hbx, mlo, mbel⟩ := hcut
    have hbw : Below w.heap.size w wc := bthen hW mbel hW.size
    have hBe2 := hBe.below mbel
    have hBr2 := hBr.below mbel
    have hev2 := hev.below mbel
    have hevF := hok1.ev r9.rw
    have hmz := mbel.size
    clear hBe hBr hev mbel hone1 hup
    obtain ⟨bz, b0, b1, b2, g0, g1, g2⟩ := id hbx
    obtain ⟨ez, e0, e1, e2, eg0, eg1, eg2⟩ := id hBe2
    obtain ⟨rz, r0, rr1, r2, p0, p1, p2⟩ := id hBr2
    by_cases her1 : er1 = 0
    · subst her1
      have hbq : ∀ y, Below wc.heap.size wc y → Below w.heap.size w y := fun y hy => bthen hbw hy hbw.size
      cases her2 : er2 == 0
      · go_wp2_with (first | (go_at_call 89; refine (hone2 _ _ _ hevF).mono ?_; rintro x w3 ⟨a3, c3, rfl, q3, hb3⟩; obtain ⟨bz', b0', b1', b2', g0', g1', g2'⟩ := hbx.below hb3; obtain ⟨ez', e0', e1', e2', eg0', eg1', eg2'⟩ := hBe2.below hb3; have hB3e := (((hBe2.below hb3).other bx 0 (.int .u64 F2.low) (by omega)).other bx 1 (.int .u32 F2.R) (by omega)).other bx 2 (.slice a3 F2.m c3) (by omega); have hB3r := (((hBr2.below hb3).other bx 0 (.int .u64 F2.low) (by omega)).other bx 1 (.int .u32 F2.R) (by omega)).other bx 2 (.slice a3 F2.m c3) (by omega); have hX3 := bset3 (hbq _ hb3) bx (.int .u64 F2.low) (.int .u32 F2.R) (.slice a3 F2.m c3) (by omega); have hevX : EvOf _ L R a m cap e := h0.below hX3) | (go_at_call 58; refine (encFor_row _ _ _ _ _ e _ hevX).mono ?_; rintro x w4 ⟨a4, c4, rfl, q4, hb4⟩; obtain ⟨rz', r0', rr1', r2', p0', p1', p2'⟩ := hB3r.below hb4))
        have hX4 := bthen hX3 hb4 hX3.size
        have hz3 := hX3.size
        have hz4 := hB3r.z
        have hz5 : w.heap.size + 2 ≤ (((w3.setCell ⟨bx, 0, none⟩ (.int .u64 F2.low)).setCell ⟨bx, 1, none⟩ (.int .u32 F2.R)).setCell ⟨bx, 2, none⟩ (.slice a3 F2.m c3)).heap.size := by have := hb3.size; simp [World.setCell]; omega
        refine bodyPost_ret (v := .tuple #[.agg #[.int .u64 e.low, .int .u32 e.R, .slice a4 e.m c4], .int .i64 er2]) (by simp [results, Tryz.results57, go_sem, r0', rr1', r2', p0', p1', p2']) rfl ?_
        refine ⟨fun hh => (by rw [hh.2] at her2; simp at her2), fun _ => ⟨a4, c4, rfl, ?_, bset3 hX4 _ _ _ _ (by omega)⟩, fun hh => (by simp at hh)⟩
        exact ((((q4.mono hz5).set _ _ _ (by omega)).set _ _ _ (by omega)).set _ _ _ (by omega)).mono (by omega)
      · have her : er2 = 0 := by simpa using her2
        subst her
        go_wp2_with (go_at_call 89; refine (hone2 _ _ _ hevF).mono ?_; rintro x w3 ⟨a3, c3, rfl, q3, hb3⟩; obtain ⟨bz', b0', b1', b2', g0', g1', g2'⟩ := hbx.below hb3; have hB3r := (((hBr2.below hb3).other bx 0 (.int .u64 F2.low) (by omega)).other bx 1 (.int .u32 F2.R) (by omega)).other bx 2 (.slice a3 F2.m c3) (by omega); have hX3 := bset3 (hbq _ hb3) bx (.int .u64 F2.low) (.int .u32 F2.R) (.slice a3 F2.m c3) (by omega); obtain ⟨rz', r0', rr1', r2', p0', p1', p2'⟩ := id hB3r)
        refine bodyPost_ret (v := .tuple #[.agg #[.int .u64 F2.low, .int .u32 F2.R, .slice a3 F2.m c3], .int .i64 0]) (by simp [results, Tryz.results57, go_sem, r0', rr1', r2', p0', p1', p2']) rfl ?_
        refine ⟨fun _ => ⟨a3, c3, rfl, ?_, bset3 hX3 _ _ _ _ (by omega)⟩, fun hh => (by simp at hh), fun hh => (by simp at hh)⟩
        exact ((((((q3.set _ _ _ bz).set _ _ _ bz).set _ _ _ bz).set _ _ _ rz).set _ _ _ rz).set _ _ _ rz).mono (by omega)
    · have her1' : (er1 == 0) = false := by simpa using her1
      have hevX : EvOf wc L R a m cap e := h0.below hbw
      go_wp2_with (go_at_call 58; refine (encFor_row _ _ _ _ _ e _ hevX).mono ?_; rintro x w4 ⟨a4, c4, rfl, q4, hb4⟩; obtain ⟨rz', r0', rr1', r2', p0', p1', p2'⟩ := hBr2.below hb4)
      have hX4 := bthen hbw hb4 hbw.size
      refine bodyPost_ret (v := .tuple #[.agg #[.int .u64 e.low, .int .u32 e.R, .slice a4 e.m c4], .int .i64 er1]) (by simp [results, Tryz.results57, go_sem, r0', rr1', r2', p0', p1', p2']) rfl ?_
      refine ⟨fun hh => absurd hh.1 her1, fun hh => absurd hh.1 her1, fun _ => ⟨a4, c4, rfl, ?_, bset3 hX4 _ _ _ _ (by omega)⟩⟩
      exact ((((q4.set _ _ _ rz).set _ _ _ rz).set _ _ _ rz)).mono (by omega)

/-- PutNum, whatever comes of it. -/
theorem putNum_any (L R : Int) (a : Option Addr) (m cap : Nat) (e : En) (v n : Nat) (w : World) (h : EvOf w L R a m cap e) :
    Calls Tryz.prog 57 #[.agg #[.int .u64 L, .int .u32 R, .slice a m cap], .int .u64 v, .int .u64 n] w fun x w' => PutN w x w' (putNE e v n) (putNF e v n) := by
  unfold putNE putNF
  by_cases h1 : n = 0 ∨ 4294967296 < n ∨ n ≤ v
  · simp only [h1, if_true]
    exact putNum_arg L R a m cap e v n h1 w h
  · simp only [h1, if_false]
    by_cases h2 : n ≤ 65536
    · simp only [h2, if_true]
      exact putNum_small L R a m cap e v n (by omega) h2 (by omega) w h
    · simp only [h2, if_false]
      have hq : v / 65536 ≤ 4294967296 := by omega
      have hu : (n - 1) / 65536 + 1 ≤ 4294967296 := by omega
      have hr : v % 65536 ≤ 4294967296 := by omega
      have hok1 := putE_ok h.1 (v / 65536 : Nat) ((v / 65536 : Nat) + 1) ((n - 1) / 65536 + 1 : Nat)
      have key := putNum_great L R a m cap e _ _ _ _ v n (v / 65536) (v % 65536) ((n - 1) / 65536 + 1) (by omega) (by omega) (by omega) rfl rfl rfl hok1 (fun W hh => putOne_any L R a m cap e (v / 65536) ((n - 1) / 65536 + 1) hq hu W hh) (fun W a c hh => putOne_any _ _ a _ c _ (v % 65536) 65536 hr (by omega) W hh) w h
      refine key.mono fun x w' hp => ?_
      obtain ⟨g1, g2, g3⟩ := hp
      by_cases k1 : putF e (v / 65536 : Nat) ((v / 65536 : Nat) + 1) ((n - 1) / 65536 + 1 : Nat) = 0
      · simp only [k1, if_true]
        by_cases k2 : putF (putE e (v / 65536 : Nat) ((v / 65536 : Nat) + 1) ((n - 1) / 65536 + 1 : Nat)) (v % 65536 : Nat) ((v % 65536 : Nat) + 1) (65536 : Nat) = 0
        · simp only [k2, if_true]
          exact g1 ⟨k1, k2⟩
        · simp only [k2, if_false]
          exact g2 ⟨k1, by simpa using k2⟩
      · simp only [k1, if_false]
        exact g3 (by simpa using k1)
end Go.Proofs.YtidppkbphkcmeaaGreat
/- A number is put: the document. -/
namespace Go.Proofs.YtidppkbphkcmeaaGreat
open Go.RowKit
set_option linter.unusedVariables false
set_option linter.unusedSimpArgs false

/-- A row lies not in a block that is a struct. -/
theorem row_not {w : World} {a : Option Addr} {n cap b : Nat} {xs : List Int} {x : Int} {s : Option Addr} {l c : Nat} {t : TypeId} (h : Rw .i64 w (.slice a n cap) xs) (hn : 0 < xs.length) (hb : w.heap[b]? = some (.cells #[.int .u64 x, .slice s l c] t (0, 0))) : ∀ b' off, a = some ⟨b', off, none⟩ → b' ≠ b := by
  obtain ⟨a', cap', he, ha⟩ := h
  simp only [Value.slice.injEq] at he
  obtain ⟨rfl, _, rfl⟩ := he
  obtain ⟨b1, off, rfl, hz, hc⟩ := ha.resolve_left (by intro h; subst h; simp at hn)
  intro b' off' hh
  simp only [Option.some.injEq, Addr.mk.injEq, and_true] at hh
  obtain ⟨rfl, rfl⟩ := hh
  intro hbb
  subst hbb
  have h0 := hc 0 hn
  simp only [World.cell?, hb, Nat.add_zero] at h0
  match off, h0 with
  | 0, h0 => simp at h0
  | 1, h0 => simp at h0
  | k + 2, h0 => simp at h0
theorem rEv.store {w : World} {R : Int} {a : Option Addr} {n cap b : Nat} {e : En} {x : Int} {s : Option Addr} {l c : Nat} {t : TypeId} (h : rEv w R a n cap e) (hb : w.heap[b]? = some (.cells #[.int .u64 x, .slice s l c] t (0, 0))) (y0 y1 : Value) : rEv ((w.setCell ⟨b, 0, none⟩ y0).setCell ⟨b, 1, none⟩ y1) R a n cap e := by
  have hn : 0 < e.all.length := by rw [En.all_length]; omega
  have hne := row_not h.2.2.2 hn hb
  exact ⟨h.1, h.2.1, h.2.2.1, (h.2.2.2.off hne 0 y0).off hne 1 y1⟩
/-- The document's answer. -/
def RPut (w : World) (x : Ending) (w' : World) (F : En) (er : Int) : Prop := ∃ R' a' n' cap', x = .returned (.tuple #[.agg #[.int .u64 R', .slice a' n' cap'], .int .i64 er]) ∧ rEv w' R' a' n' cap' F ∧ Below w.heap.size w w'

set_option maxRecDepth 10000 in
set_option maxHeartbeats 2000000 in
theorem rputNum_arg (R : Int) (a : Option Addr) (m cap : Nat) (e : En) (v n : Nat) (hn : n = 0 ∨ 4294967296 < n ∨ n ≤ v) (w : World) (h : rEv w R a m cap e) :
    Calls Tryz.prog 34 #[.agg #[.int .u64 R, .slice a m cap], .int .u64 v, .int .u64 n] w fun x w' => RPut w x w' e 1 := by
  have h3 : ((n : Int) == 0) = true ∨ (((n : Int) == 0) = false ∧ (4294967296 : Int) < n) ∨ (((n : Int) == 0) = false ∧ ¬ (4294967296 : Int) < n ∧ (n : Int) ≤ v) := by
    have e1 : ((n : Int) == 0) = decide (n = 0) := by by_cases h : n = 0 <;> simp [h]
    rw [e1]
    by_cases h : n = 0
    · simp [h]
    · simp [h]; omega
  clear hn
  have hW := below2 w (.cells #[.int .u64 R, .slice a m cap] 65) (.cells #[.int .u64 0, .slice none 0 0] 65)
  rcases h3 with h1 | ⟨h1, h2⟩ | ⟨h1, h2, h3⟩
  all_goals
    go_enter Tryz.func34, Tryz.ntmps34
    go_wp2
    refine bodyPost_ret (v := .tuple #[.agg #[.int .u64 R, .slice a m cap], .int .i64 1]) (by simp [results, Tryz.results34, go_sem]) rfl ⟨R, a, m, cap, rfl, h.below (below2 _ _ _), below2 _ _ _⟩

set_option maxRecDepth 10000 in
set_option maxHeartbeats 2000000 in
theorem rputNum_small (R : Int) (a : Option Addr) (m cap : Nat) (e : En) (v n : Nat) (h1 : 1 ≤ n) (h2 : n ≤ 65536) (h3 : v < n) (w : World) (h : rEv w R a m cap e) :
    Calls Tryz.prog 34 #[.agg #[.int .u64 R, .slice a m cap], .int .u64 v, .int .u64 n] w fun x w' => RPut w x w' (putE e v (v + 1) n) (putF e v (v + 1) n) := by
  have hW := below2 w (.cells #[.int .u64 R, .slice a m cap] 65) (.cells #[.int .u64 0, .slice none 0 0] 65)
  have hone := fun W h => rput_all R a m cap e v (v + 1) n W h
  generalize putE e v (v + 1) n = F at *
  generalize putF e v (v + 1) n = er at *
  have k1 : ((n : Int) == 0) = false := by simp; omega
  have k2 : ¬ (4294967296 : Int) < n := by omega
  have k3 : ¬ (n : Int) ≤ v := by omega
  have k4 : (n : Int) ≤ 65536 := by omega
  have i1 : IntKind.i64.wrap (v : Int) = v := wraps_i64 _ (by omega) (by omega)
  have i2 : IntKind.i64.wrap (n : Int) = n := wraps_i64 _ (by omega) (by omega)
  clear h1 h2 h3
  go_enter Tryz.func34, Tryz.ntmps34
  go_wp2_with (go_at_call 31; refine (hone _ (h.below hW)).mono ?_; rintro x w1 ⟨R1, a1, n1, cap1, rfl, q, hb1⟩; obtain ⟨rz, r0, r1, p0, p1⟩ := (B2.new2 w _ _ _ _).below hb1)
  have hbw := bthen hW hb1 hW.size
  exact bodyPost_ret (v := .tuple #[.agg #[.int .u64 R1, .slice a1 n1 cap1], .int .i64 er]) (by simp [results, Tryz.results34, go_sem, r0, r1, p0, p1]) rfl ⟨R1, a1, n1, cap1, rfl, q.store (res_block hb1) _ _, bset2' hbw _ _ _ (by omega)⟩

def RNumPost (w : World) (x : Ending) (w' : World) (e F2 : En) (er1 er2 : Int) : Prop := (er1 = 0 ∧ er2 = 0 → RPut w x w' F2 0) ∧ (er1 = 0 ∧ (er2 == 0) = false → RPut w x w' e er2) ∧ ((er1 == 0) = false → RPut w x w' e er1)
set_option maxRecDepth 10000 in
set_option maxHeartbeats 4000000 in
theorem rputNum_great (R : Int) (a : Option Addr) (m cap : Nat) (e F1 F2 : En) (er1 er2 : Int) (v n q1 r1 u : Nat) (h2 : 65536 < n) (h3 : n ≤ 4294967296) (hv : v < n) (hq1 : q1 = v / 65536) (hr1 : r1 = v % 65536) (hu : u = (n - 1) / 65536)
    (hone1 : ∀ W, rEv W R a m cap e → Calls Tryz.prog 31 #[.agg #[.int .u64 R, .slice a m cap], .int .i64 q1, .int .i64 ((q1 : Int) + 1), .int .i64 ((u : Int) + 1)] W fun x w' => RPut W x w' F1 er1)
    (hone2 : ∀ W R a m c, rEv W R a m c F1 → Calls Tryz.prog 31 #[.agg #[.int .u64 R, .slice a m c], .int .i64 r1, .int .i64 ((r1 : Int) + 1), .int .i64 65536] W fun x w' => RPut W x w' F2 er2)
    (w : World) (h : rEv w R a m cap e) :
    Calls Tryz.prog 34 #[.agg #[.int .u64 R, .slice a m cap], .int .u64 v, .int .u64 n] w fun x w' => RNumPost w x w' e F2 er1 er2 := by
  have hd1 : ((v : Int).tdiv 65536) = (q1 : Int) := by rw [hq1]; rfl
  have hd2 : ((v : Int).tmod 65536) = (r1 : Int) := by rw [hr1]; rfl
  obtain ⟨k, rfl⟩ : ∃ k, n = k + 1 := ⟨n - 1, by omega⟩
  have hd3 : ((k : Int).tdiv 65536) = (u : Int) := by rw [hu]; rfl
  rw [show ((k + 1 : Nat) : Int) = (k : Int) + 1 by omega]
  have k1 : (((k : Int) + 1) == 0) = false := by simp; omega
  have k2 : ¬ (4294967296 : Int) < (k : Int) + 1 := by omega
  have k3 : ¬ ((k : Int) + 1) ≤ v := by omega
  have k4 : ¬ ((k : Int) + 1) ≤ 65536 := by omega
  have k5 : q1 ≤ 65536 := by omega
  have k6 : r1 < 65536 := by omega
  have k7 : u ≤ 65536 := by omega
  have i1 : IntKind.i64.wrap (q1 : Int) = q1 := wraps_i64 _ (by omega) (by omega)
  have i2 : IntKind.i64.wrap (r1 : Int) = r1 := wraps_i64 _ (by omega) (by omega)
  have i3 : IntKind.i64.wrap (u : Int) = u := wraps_i64 _ (by omega) (by omega)
  have hW := below2 w (.cells #[.int .u64 R, .slice a m cap] 65) (.cells #[.int .u64 0, .slice none 0 0] 65)
  clear hq1 hr1 hu h2 h3 hv
  by_cases her1 : er1 = 0
  · subst her1
    cases her2 : er2 == 0
    · have HER : Hid ((er2 == 0) = false) := her2
      have hne : (er2 != 0) = true := by simp [bne, her2]
      clear her2
      go_enter Tryz.func34, Tryz.ntmps34
      go_wp2_with (first | (go_at_call_of 31 (Value.int IntKind.i64 (q1 : Int)); refine (hone1 _ (h.below hW)).mono ?_; rintro x w1 ⟨R1, a1, n1, cap1, rfl, q, hb1⟩; have hBe := (((B2.new w (.int .u64 R) (.slice a m cap) 65).below (below1 _ (.cells #[.int .u64 0, .slice none 0 0] 65))).below hb1).below (below1 w1 (.cells #[.int .u64 R1, .slice a1 n1 cap1] 65)); have hBr := ((B2.new2 w (.cells #[.int .u64 R, .slice a m cap] 65) (.int .u64 0) (.slice none 0 0) 65).below hb1).below (below1 w1 (.cells #[.int .u64 R1, .slice a1 n1 cap1] 65)); have hbk := res_block (bthen' hb1 (below1 w1 (.cells #[.int .u64 R1, .slice a1 n1 cap1] 65))); have hbw := bthen hW hb1 hW.size; have hbx := hbw.alloc hbw.size (.cells #[.int .u64 R1, .slice a1 n1 cap1] 65); have q1' := q.below (below1 w1 (.cells #[.int .u64 R1, .slice a1 n1 cap1] 65)); obtain ⟨ez, e0, e1, eg0, eg1⟩ := id hBe; obtain ⟨rz, r0, rr1, p0, p1⟩ := id hBr) | (go_at_call_of 31 (Value.int IntKind.i64 (r1 : Int)); refine (hone2 _ _ _ _ _ q1').mono ?_; rintro x w2 ⟨R2, a2, n2, cap2, rfl, q2, hb2⟩; have hBe2 := (hBe.below hb2).below (below1 w2 (.cells #[.int .u64 R2, .slice a2 n2 cap2] 65)); have hBr2 := (hBr.below hb2).below (below1 w2 (.cells #[.int .u64 R2, .slice a2 n2 cap2] 65)); have hbx2a := bthen hbx hb2 hbx.size; have hbx2 := hbx2a.alloc hbx2a.size (.cells #[.int .u64 R2, .slice a2 n2 cap2] 65); have q2' := q2.below (below1 w2 (.cells #[.int .u64 R2, .slice a2 n2 cap2] 65)); have hbk2 := (bthen' hb2 (below1 w2 (.cells #[.int .u64 R2, .slice a2 n2 cap2] 65))).block (w.heap.size + 1) hBr.z; rw [hbk] at hbk2; obtain ⟨ez2, f0, f1, fg0, fg1⟩ := id hBe2; obtain ⟨rz2, s0, ss1, t0, t1⟩ := id hBr2))
      refine bodyPost_ret (v := .tuple #[.agg #[.int .u64 R, .slice a m cap], .int .i64 er2]) (by simp [results, Tryz.results34, go_sem, s0, ss1, t0, t1]) rfl ?_
      exact ⟨fun hh => (by have her2 := HER.out; rw [hh.2] at her2; simp at her2), fun _ => ⟨R, a, m, cap, rfl, (h.below hbx2).store hbk2 _ _, bset2' hbx2 _ _ _ (by omega)⟩, fun hh => (by simp at hh)⟩
    · have her : er2 = 0 := by simpa using her2
      subst her
      go_enter Tryz.func34, Tryz.ntmps34
      go_wp2_with (first | (go_at_call_of 31 (Value.int IntKind.i64 (q1 : Int)); refine (hone1 _ (h.below hW)).mono ?_; rintro x w1 ⟨R1, a1, n1, cap1, rfl, q, hb1⟩; have hBe := (((B2.new w (.int .u64 R) (.slice a m cap) 65).below (below1 _ (.cells #[.int .u64 0, .slice none 0 0] 65))).below hb1).below (below1 w1 (.cells #[.int .u64 R1, .slice a1 n1 cap1] 65)); have hBr := ((B2.new2 w (.cells #[.int .u64 R, .slice a m cap] 65) (.int .u64 0) (.slice none 0 0) 65).below hb1).below (below1 w1 (.cells #[.int .u64 R1, .slice a1 n1 cap1] 65)); have hbk := res_block (bthen' hb1 (below1 w1 (.cells #[.int .u64 R1, .slice a1 n1 cap1] 65))); have hbw := bthen hW hb1 hW.size; have hbx := hbw.alloc hbw.size (.cells #[.int .u64 R1, .slice a1 n1 cap1] 65); have q1' := q.below (below1 w1 (.cells #[.int .u64 R1, .slice a1 n1 cap1] 65)); obtain ⟨ez, e0, e1, eg0, eg1⟩ := id hBe; obtain ⟨rz, r0, rr1, p0, p1⟩ := id hBr) | (go_at_call_of 31 (Value.int IntKind.i64 (r1 : Int)); refine (hone2 _ _ _ _ _ q1').mono ?_; rintro x w2 ⟨R2, a2, n2, cap2, rfl, q2, hb2⟩; have hBe2 := (hBe.below hb2).below (below1 w2 (.cells #[.int .u64 R2, .slice a2 n2 cap2] 65)); have hBr2 := (hBr.below hb2).below (below1 w2 (.cells #[.int .u64 R2, .slice a2 n2 cap2] 65)); have hbx2a := bthen hbx hb2 hbx.size; have hbx2 := hbx2a.alloc hbx2a.size (.cells #[.int .u64 R2, .slice a2 n2 cap2] 65); have q2' := q2.below (below1 w2 (.cells #[.int .u64 R2, .slice a2 n2 cap2] 65)); have hbk2 := (bthen' hb2 (below1 w2 (.cells #[.int .u64 R2, .slice a2 n2 cap2] 65))).block (w.heap.size + 1) hBr.z; rw [hbk] at hbk2; obtain ⟨ez2, f0, f1, fg0, fg1⟩ := id hBe2; obtain ⟨rz2, s0, ss1, t0, t1⟩ := id hBr2))
      refine bodyPost_ret (v := .tuple #[.agg #[.int .u64 R2, .slice a2 n2 cap2], .int .i64 0]) (by simp [results, Tryz.results34, go_sem, s0, ss1, t0, t1]) rfl ?_
      exact ⟨fun _ => ⟨R2, a2, n2, cap2, rfl, q2'.store hbk2 _ _, bset2' hbx2 _ _ _ (by omega)⟩, fun hh => (by simp at hh), fun hh => (by simp at hh)⟩
  · have HER : Hid (¬ er1 = 0) := her1
    have hne : (er1 != 0) = true := by simpa using her1
    clear her1
    go_enter Tryz.func34, Tryz.ntmps34
    go_wp2_with (go_at_call_of 31 (Value.int IntKind.i64 (q1 : Int)); refine (hone1 _ (h.below hW)).mono ?_; rintro x w1 ⟨R1, a1, n1, cap1, rfl, q, hb1⟩; have hBe := (((B2.new w (.int .u64 R) (.slice a m cap) 65).below (below1 _ (.cells #[.int .u64 0, .slice none 0 0] 65))).below hb1).below (below1 w1 (.cells #[.int .u64 R1, .slice a1 n1 cap1] 65)); have hBr := ((B2.new2 w (.cells #[.int .u64 R, .slice a m cap] 65) (.int .u64 0) (.slice none 0 0) 65).below hb1).below (below1 w1 (.cells #[.int .u64 R1, .slice a1 n1 cap1] 65)); have hbk := res_block (bthen' hb1 (below1 w1 (.cells #[.int .u64 R1, .slice a1 n1 cap1] 65))); have hbw := bthen hW hb1 hW.size; have hbx := hbw.alloc hbw.size (.cells #[.int .u64 R1, .slice a1 n1 cap1] 65); have q1' := q.below (below1 w1 (.cells #[.int .u64 R1, .slice a1 n1 cap1] 65)); obtain ⟨ez, e0, e1, eg0, eg1⟩ := id hBe; obtain ⟨rz, r0, rr1, p0, p1⟩ := id hBr)
    refine bodyPost_ret (v := .tuple #[.agg #[.int .u64 R, .slice a m cap], .int .i64 er1]) (by simp [results, Tryz.results34, go_sem, r0, rr1, p0, p1]) rfl ?_
    exact ⟨fun hh => absurd hh.1 HER.out, fun hh => absurd hh.1 HER.out, fun _ => ⟨R, a, m, cap, rfl, (h.below hbx).store hbk _ _, bset2' hbx _ _ _ (by omega)⟩⟩

theorem rputNum_any (R : Int) (a : Option Addr) (m cap : Nat) (e : En) (v n : Nat) (w : World) (h : rEv w R a m cap e) :
    Calls Tryz.prog 34 #[.agg #[.int .u64 R, .slice a m cap], .int .u64 v, .int .u64 n] w fun x w' => RPut w x w' (putNE e v n) (putNF e v n) := by
  unfold putNE putNF
  by_cases h1 : n = 0 ∨ 4294967296 < n ∨ n ≤ v
  · simp only [h1, if_true]
    exact rputNum_arg R a m cap e v n h1 w h
  · simp only [h1, if_false]
    by_cases h2 : n ≤ 65536
    · simp only [h2, if_true]
      exact rputNum_small R a m cap e v n (by omega) h2 (by omega) w h
    · simp only [h2, if_false]
      have hc : (((n - 1) / 65536 + 1 : Nat) : Int) = (((n - 1) / 65536 : Nat) : Int) + 1 := by omega
      have key := rputNum_great R a m cap e _ _ _ _ v n (v / 65536) (v % 65536) ((n - 1) / 65536) (by omega) (by omega) (by omega) rfl rfl rfl (fun W hh => by have := rput_all R a m cap e (v / 65536 : Nat) ((v / 65536 : Nat) + 1) ((n - 1) / 65536 + 1 : Nat) W hh; rw [hc] at this; exact this) (fun W R a m c hh => rput_all R a m c _ (v % 65536 : Nat) ((v % 65536 : Nat) + 1) (65536 : Nat) W hh) w h
      rw [← hc] at key
      refine key.mono fun x w' hp => ?_
      obtain ⟨g1, g2, g3⟩ := hp
      by_cases k1 : putF e (v / 65536 : Nat) ((v / 65536 : Nat) + 1) ((n - 1) / 65536 + 1 : Nat) = 0
      · simp only [k1, if_true]
        by_cases k2 : putF (putE e (v / 65536 : Nat) ((v / 65536 : Nat) + 1) ((n - 1) / 65536 + 1 : Nat)) (v % 65536 : Nat) ((v % 65536 : Nat) + 1) (65536 : Nat) = 0
        · simp only [k2, if_true]
          exact g1 ⟨k1, k2⟩
        · simp only [k2, if_false]
          exact g2 ⟨k1, by simpa using k2⟩
      · simp only [k1, if_false]
        exact g3 (by simpa using k1)
end Go.Proofs.YtidppkbphkcmeaaGreat
/- A number is taken: the program. -/
namespace Go.Proofs.YtidppkbphkcmeaaGreat
open Go.RowKit
set_option linter.unusedVariables false
set_option linter.unusedSimpArgs false

theorem De.get_le (d : De) (tot : Nat) : d.get tot ≤ tot - 1 := by unfold De.get; omega
/-- A decoder that a call hands back; the rows of what was handed in stay as they are. -/
def OutD (w : World) (w' : World) (C R : Int) (a : Option Addr) (n cap : Nat) (A : Int) (d D : De) (a' : Option Addr) (cap' : Nat) : Prop := (∀ w1, DvOf w1 C R a n cap A d → Rw .u8 w1 (.slice a' D.B.length cap') D.B) ∧ Below w.heap.size w w'

set_option maxRecDepth 10000 in
set_option maxHeartbeats 2000000 in
theorem takeOne_any (C R : Int) (a : Option Addr) (n cap : Nat) (A : Int) (d : De) (t : Nat) (h1 : 1 ≤ t) (h2 : t ≤ 65536) (w : World) (h : DvOf w C R a n cap A d) :
    Calls Tryz.prog 116 #[.agg #[.int .u64 C, .int .u32 R, .slice a n cap, .int .i64 A], .int .u64 t] w fun x w' => ∃ a' cap', x = .returned (.tuple #[.agg #[.int .u64 (d.take (d.get t) (d.get t + 1) t).C, .int .u32 (d.take (d.get t) (d.get t + 1) t).R, .slice a' (d.take (d.get t) (d.get t + 1) t).B.length cap', .int .i64 (d.take (d.get t) (d.get t + 1) t).A], .int .u64 (d.get t : Nat)]) ∧ OutD w w' C R a n cap A d (d.take (d.get t) (d.get t + 1) t) a' cap' := by
  have hle := De.get_le d t
  have hf : Fair (d.get t) (d.get t + 1) t := ⟨by omega, by omega, h2⟩
  have hget := fun W h => get_any C R a n cap A d t W h h1 h2
  have htk0 := fun W h => take_any C R a n cap A d (d.get t) (d.get t + 1) t W h hf
  have hB := De.take_B d (d.get t) (d.get t + 1) t
  generalize d.take (d.get t) (d.get t + 1) t = D at *
  generalize d.get t = V at *
  have htk : ∀ W, DvOf W C R a n cap A d → Calls Tryz.prog 68 #[.agg #[.int .u64 C, .int .u32 R, .slice a n cap, .int .i64 A], .int .i64 V, .int .i64 ((V : Int) + 1), .int .i64 t] W fun e w' => ∃ a' cap', e = .returned (.tuple #[.agg #[.int .u64 D.C, .int .u32 D.R, .slice a' D.B.length cap', .int .i64 D.A], .int .i64 0]) ∧ (∀ w1, DvOf w1 C R a n cap A d → Rw .u8 w1 (.slice a' D.B.length cap') D.B) ∧ Below W.heap.size W w' := fun W hh => by
    have := htk0 W hh
    rw [show ((V + 1 : Nat) : Int) = (V : Int) + 1 by omega] at this
    rw [hB]
    unfold decV at this
    rw [hB] at this
    exact this
  have i1 : IntKind.i64.wrap (t : Int) = t := wraps_i64 _ (by omega) (by omega)
  have i2 : IntKind.u64.wrap (V : Int) = V := nat_u64 _ (by omega)
  have hW := below2 w (.cells #[.int .u64 C, .int .u32 R, .slice a n cap, .int .i64 A] 75) (.cells #[.int .u64 0, .int .u32 0, .slice none 0 0, .int .i64 0] 75)
  clear hB htk0 hf
  go_enter Tryz.func116, Tryz.ntmps116
  go_wp2_with (first | (go_at_call 67; refine (hget _ (h.below hW)).mono ?_; rintro x w1 ⟨rfl, hb1⟩; have hbw1 := bthen hW hb1 hW.size; have hBd := ((B4.new w (.int .u64 C) (.int .u32 R) (.slice a n cap) (.int .i64 A) 75).below (below1 _ (.cells #[.int .u64 0, .int .u32 0, .slice none 0 0, .int .i64 0] 75))).below hb1; have hBr := (B4.new2 w (.cells #[.int .u64 C, .int .u32 R, .slice a n cap, .int .i64 A] 75) (.int .u64 0) (.int .u32 0) (.slice none 0 0) (.int .i64 0) 75).below hb1; obtain ⟨dz, d0, d1, d2, d3, df0, df1, df2, df3⟩ := id hBd) | (go_at_call 68; refine (htk _ (h.below hbw1)).mono ?_; rintro x w2 ⟨a2, c2, rfl, hrw, hb2⟩; have hbw2 := bthen hbw1 hb2 hbw1.size; obtain ⟨ez, e0, e1, e2, e3, ef0, ef1, ef2, ef3⟩ := hBd.below hb2; obtain ⟨rz, r0, r1, r2, r3, p0, p1, p2, p3⟩ := hBr.below hb2))
  refine bodyPost_ret (v := .tuple #[.agg #[.int .u64 D.C, .int .u32 D.R, .slice a2 D.B.length c2, .int .i64 D.A], .int .u64 V]) (by simp [results, Tryz.results116, go_sem, r0, r1, r2, r3, p0, p1, p2, p3, e0, e1, e2, e3]) rfl ⟨a2, c2, rfl, hrw, ?_⟩
  exact bset4 (bset4 hbw2 _ _ _ _ _ (by omega)) _ _ _ _ _ (by omega)

/-! ### What TakeNum answers -/
def De.upD (d : De) (n : Nat) : De := d.take (d.get ((n - 1) / 65536 + 1)) (d.get ((n - 1) / 65536 + 1) + 1) ((n - 1) / 65536 + 1)
def De.numD (d : De) (n : Nat) : De := if n ≤ 65536 then d.take (d.get n) (d.get n + 1) n else (d.upD n).take ((d.upD n).get 65536) ((d.upD n).get 65536 + 1) 65536
def De.numV (d : De) (n : Nat) : Nat := if n ≤ 65536 then d.get n else min (d.get ((n - 1) / 65536 + 1) * 65536 + (d.upD n).get 65536) (n - 1)

set_option maxRecDepth 10000 in
set_option maxHeartbeats 2000000 in
theorem takeNum_arg (C R : Int) (a : Option Addr) (m cap : Nat) (A : Int) (d : De) (n : Nat) (hn : n < 1 ∨ 4294967296 < n) (w : World) (h : DvOf w C R a m cap A d) :
    Calls Tryz.prog 105 #[.agg #[.int .u64 C, .int .u32 R, .slice a m cap, .int .i64 A], .int .u64 n] w fun x w' => ∃ a' cap', x = .returned (.tuple #[.agg #[.int .u64 d.C, .int .u32 d.R, .slice a' d.B.length cap', .int .i64 d.A], .int .u64 0, .int .i64 1]) ∧ OutD w w' C R a m cap A d d a' cap' := by
  have hW := below2 w (.cells #[.int .u64 C, .int .u32 R, .slice a m cap, .int .i64 A] 75) (.cells #[.int .u64 0, .int .u32 0, .slice none 0 0, .int .i64 0] 75)
  have h3 : (n : Int) < 1 ∨ (¬ (n : Int) < 1 ∧ (4294967296 : Int) < n) := by omega
  clear hn
  rcases h3 with h1 | ⟨h1, h2⟩
  all_goals
    go_enter Tryz.func105, Tryz.ntmps105
    go_wp2_with (go_at_call 94; refine (decFor_any _ _ _ _ _ _ d w _ h).mono ?_; rintro x w1 ⟨a1, c1, rfl, hrw, hb1⟩; unfold decV; obtain ⟨rz, r0, r1, r2, r3, p0, p1, p2, p3⟩ := (B4.new2 w _ _ _ _ _ _).below hb1)
    refine bodyPost_ret (v := .tuple #[.agg #[.int .u64 d.C, .int .u32 d.R, .slice a1 d.B.length c1, .int .i64 d.A], .int .u64 0, .int .i64 1]) (by simp [results, Tryz.results105, go_sem, r0, r1, r2, r3, p0, p1, p2, p3]) rfl ⟨a1, c1, rfl, hrw, ?_⟩
    exact bset4 (bthen hW hb1 hW.size) _ _ _ _ _ (by omega)

set_option maxRecDepth 10000 in
set_option maxHeartbeats 2000000 in
theorem takeNum_small (C R : Int) (a : Option Addr) (m cap : Nat) (A : Int) (d D : De) (V n : Nat) (h1 : 1 ≤ n) (h2 : n ≤ 65536)
    (htk : ∀ W, DvOf W C R a m cap A d → Calls Tryz.prog 116 #[.agg #[.int .u64 C, .int .u32 R, .slice a m cap, .int .i64 A], .int .u64 n] W fun x w' => ∃ a' cap', x = .returned (.tuple #[.agg #[.int .u64 D.C, .int .u32 D.R, .slice a' D.B.length cap', .int .i64 D.A], .int .u64 V]) ∧ OutD W w' C R a m cap A d D a' cap')
    (w : World) (h : DvOf w C R a m cap A d) :
    Calls Tryz.prog 105 #[.agg #[.int .u64 C, .int .u32 R, .slice a m cap, .int .i64 A], .int .u64 n] w fun x w' => ∃ a' cap', x = .returned (.tuple #[.agg #[.int .u64 D.C, .int .u32 D.R, .slice a' D.B.length cap', .int .i64 D.A], .int .u64 V, .int .i64 0]) ∧ OutD w w' C R a m cap A d D a' cap' := by
  have hW := below2 w (.cells #[.int .u64 C, .int .u32 R, .slice a m cap, .int .i64 A] 75) (.cells #[.int .u64 0, .int .u32 0, .slice none 0 0, .int .i64 0] 75)
  have k1 : ¬ (n : Int) < 1 := by omega
  have k2 : ¬ (4294967296 : Int) < n := by omega
  have k3 : (n : Int) ≤ 65536 := by omega
  clear h1 h2
  go_enter Tryz.func105, Tryz.ntmps105
  go_wp2_with (go_at_call 116; refine (htk _ (h.below hW)).mono ?_; rintro x w1 ⟨a1, c1, rfl, hrw, hb1⟩; have hBr := ((B4.new2 w (.cells #[.int .u64 C, .int .u32 R, .slice a m cap, .int .i64 A] 75) (.int .u64 0) (.int .u32 0) (.slice none 0 0) (.int .i64 0) 75).below hb1).below (below1 w1 (.cells #[.int .u64 D.C, .int .u32 D.R, .slice a1 D.B.length c1, .int .i64 D.A] 75)); obtain ⟨rz, r0, r1, r2, r3, p0, p1, p2, p3⟩ := id hBr)
  have hbw := bthen hW hb1 hW.size
  refine bodyPost_ret (v := .tuple #[.agg #[.int .u64 D.C, .int .u32 D.R, .slice a1 D.B.length c1, .int .i64 D.A], .int .u64 V, .int .i64 0]) (by simp [results, Tryz.results105, go_sem, r0, r1, r2, r3, p0, p1, p2, p3]) rfl ⟨a1, c1, rfl, hrw, ?_⟩
  exact bset4 (hbw.alloc hbw.size _) _ _ _ _ _ (by omega)
end Go.Proofs.YtidppkbphkcmeaaGreat
/- A number is taken: the program, at a great one; the document. -/
namespace Go.Proofs.YtidppkbphkcmeaaGreat
open Go.RowKit
set_option linter.unusedVariables false
set_option linter.unusedSimpArgs false

set_option maxRecDepth 10000 in
set_option maxHeartbeats 4000000 in
theorem takeNum_great (C R : Int) (a : Option Addr) (m cap : Nat) (A : Int) (d D1 D2 : De) (V1 V2 V n u : Nat) (h1 : 65536 < n) (h2 : n ≤ 4294967296) (hu : u = (n - 1) / 65536 + 1) (hV1 : V1 ≤ 65535) (hV2 : V2 ≤ 65535) (hV : V = min (V1 * 65536 + V2) (n - 1))
    (htk : ∀ W, DvOf W C R a m cap A d → Calls Tryz.prog 116 #[.agg #[.int .u64 C, .int .u32 R, .slice a m cap, .int .i64 A], .int .u64 u] W fun x w' => ∃ a' cap', x = .returned (.tuple #[.agg #[.int .u64 D1.C, .int .u32 D1.R, .slice a' D1.B.length cap', .int .i64 D1.A], .int .u64 V1]) ∧ OutD W w' C R a m cap A d D1 a' cap')
    (htk2 : ∀ W a c, Rw .u8 W (.slice a D1.B.length c) D1.B → Calls Tryz.prog 116 #[.agg #[.int .u64 D1.C, .int .u32 D1.R, .slice a D1.B.length c, .int .i64 D1.A], .int .u64 65536] W fun x w' => ∃ a' cap', x = .returned (.tuple #[.agg #[.int .u64 D2.C, .int .u32 D2.R, .slice a' D2.B.length cap', .int .i64 D2.A], .int .u64 V2]) ∧ (∀ w1, Rw .u8 w1 (.slice a D1.B.length c) D1.B → Rw .u8 w1 (.slice a' D2.B.length cap') D2.B) ∧ Below W.heap.size W w')
    (w : World) (h : DvOf w C R a m cap A d) :
    Calls Tryz.prog 105 #[.agg #[.int .u64 C, .int .u32 R, .slice a m cap, .int .i64 A], .int .u64 n] w fun x w' => ∃ a' cap', x = .returned (.tuple #[.agg #[.int .u64 D2.C, .int .u32 D2.R, .slice a' D2.B.length cap', .int .i64 D2.A], .int .u64 V, .int .i64 0]) ∧ OutD w w' C R a m cap A d D2 a' cap' := by
  have hup := fun W => upper_any n (by omega) h2 W
  rw [← hu] at hup
  have hW := below2 w (.cells #[.int .u64 C, .int .u32 R, .slice a m cap, .int .i64 A] 75) (.cells #[.int .u64 0, .int .u32 0, .slice none 0 0, .int .i64 0] 75)
  have hBd := (B4.new w (.int .u64 C) (.int .u32 R) (.slice a m cap) (.int .i64 A) 75).below (below1 _ (.cells #[.int .u64 0, .int .u32 0, .slice none 0 0, .int .i64 0] 75))
  have hBr := B4.new2 w (.cells #[.int .u64 C, .int .u32 R, .slice a m cap, .int .i64 A] 75) (.int .u64 0) (.int .u32 0) (.slice none 0 0) (.int .i64 0) 75
  have hd := h.below hW
  have k1 : ¬ (n : Int) < 1 := by omega
  have k2 : ¬ (4294967296 : Int) < n := by omega
  have k3 : ¬ (n : Int) ≤ 65536 := by omega
  have hVi : (V : Int) = min ((V1 : Int) * 65536 + V2) ((n : Int) - 1) := by omega
  have HV : Hid ((V : Int) = min ((V1 : Int) * 65536 + V2) ((n : Int) - 1)) := hVi
  have k4 : (V1 : Int) * 65536 + V2 < 4294967296 := by omega
  have hsz : w.heap.size + 2 ≤ ((w.alloc (.cells #[.int .u64 C, .int .u32 R, .slice a m cap, .int .i64 A] 75)).alloc (.cells #[.int .u64 0, .int .u32 0, .slice none 0 0, .int .i64 0] 75)).heap.size := by simp
  clear hu h1 h2 hV hVi
  have h3 : ((V1 : Int) * 65536 + V2 < (n : Int) - 1) ∨ ((V1 : Int) * 65536 + V2 ≤ (n : Int) - 1 ∧ (n : Int) - 1 ≤ (V1 : Int) * 65536 + V2) ∨ ((n : Int) - 1 < (V1 : Int) * 65536 + V2) := by omega
  rcases h3 with h3 | ⟨h3, h4⟩ | h3
  all_goals
    go_enter Tryz.func105, Tryz.ntmps105
    go_wp2_with fail
    generalize ((w.alloc (.cells #[.int .u64 C, .int .u32 R, .slice a m cap, .int .i64 A] 75)).alloc (.cells #[.int .u64 0, .int .u32 0, .slice none 0 0, .int .i64 0] 75)) = W at *
    obtain ⟨dz, d0, d1, d2, d3, df0, df1, df2, df3⟩ := id hBd
    go_cut [9] (fun p9 wz => ∃ x9 c9, p9 = .int .u64 V1 ∧ (∀ w1, DvOf w1 C R a m cap A d → Rw .u8 w1 (.slice x9 D1.B.length c9) D1.B) ∧ B4 wz w.heap.size (.int .u64 D1.C) (.int .u32 D1.R) (.slice x9 D1.B.length c9) (.int .i64 D1.A) ∧ B4 wz (w.heap.size + 1) (.int .u64 0) (.int .u32 0) (.slice none 0 0) (.int .i64 0) ∧ Below w.heap.size w wz)
    case first =>
      go_region_with (first | (go_at_call 90; refine (hup _).mono ?_; rintro x y0 ⟨rfl, rfl⟩) | (go_at_call 116; refine (htk _ (hd.below (Below.refl W.heap.size W).drew)).mono ?_; rintro x y1 ⟨x9, c9, rfl, q9, e1⟩; have hBd1 := hBd.below (drew_below e1); have hBr1 := hBr.below (drew_below e1); have hbw1 := bthen hW (drew_below e1) hW.size; obtain ⟨ez, e0, e1', e2, e3, ef0, ef1, ef2, ef3⟩ := id hBd1))
      all_goals go_wp2
      all_goals go_meet
      all_goals exact ⟨x9, c9, rfl, q9, hBd1.set _ _ _ _, (((hBr1.other _ _ _ (by omega)).other _ _ _ (by omega)).other _ _ _ (by omega)).other _ _ _ (by omega), bset4 hbw1 _ _ _ _ _ (by omega)⟩
    case rest =>
      obtain ⟨x9, c9, rfl, q9, hB1, hR1, hbw⟩ := hcut
      clear d0 d1 d2 d3 df0 df1 df2 df3 dz hBd hBr htk hup
      obtain ⟨dz, d0, d1, d2, d3, df0, df1, df2, df3⟩ := id hB1
      have hrw1 := (q9 _ h).below hbw
      have hR1z := hR1.z
      go_wp2_with (go_at_call 116; refine (htk2 _ _ _ hrw1).mono ?_; rintro x w3 ⟨a3, c3, rfl, q3, hb3⟩; obtain ⟨ez, e0, e1, e2, e3, ef0, ef1, ef2, ef3⟩ := hB1.below hb3; have hR3 := (((((hR1.below hb3).other w.heap.size 0 (.int .u64 D2.C) (by omega)).other w.heap.size 1 (.int .u32 D2.R) (by omega)).other w.heap.size 2 (.slice a3 D2.B.length c3) (by omega)).other w.heap.size 3 (.int .i64 D2.A) (by omega)); obtain ⟨rz, r0, r1, r2, r3, p0, p1, p2, p3⟩ := id hR3)
      have e := HV.out
      first
        | (have hX : (V : Int) = (V1 : Int) * 65536 + V2 := by omega
           rw [hX]
           exact bodyPost_ret (v := .tuple #[.agg #[.int .u64 D2.C, .int .u32 D2.R, .slice a3 D2.B.length c3, .int .i64 D2.A], .int .u64 ((V1 : Int) * 65536 + V2), .int .i64 0]) (by simp [results, Tryz.results105, go_sem, r0, r1, r2, r3, p0, p1, p2, p3, e0, e1, e2, e3]) rfl ⟨a3, c3, rfl, fun w1 hh => q3 w1 (q9 w1 hh), bset4 (bset4 (bthen hbw hb3 hbw.size) _ _ _ _ _ (by omega)) _ _ _ _ _ (by omega)⟩)
        | (have hX : (V : Int) = (n : Int) - 1 := by omega
           rw [hX]
           exact bodyPost_ret (v := .tuple #[.agg #[.int .u64 D2.C, .int .u32 D2.R, .slice a3 D2.B.length c3, .int .i64 D2.A], .int .u64 ((n : Int) - 1), .int .i64 0]) (by simp [results, Tryz.results105, go_sem, r0, r1, r2, r3, p0, p1, p2, p3, e0, e1, e2, e3]) rfl ⟨a3, c3, rfl, fun w1 hh => q3 w1 (q9 w1 hh), bset4 (bset4 (bthen hbw hb3 hbw.size) _ _ _ _ _ (by omega)) _ _ _ _ _ (by omega)⟩)

theorem takeNum_any (C R : Int) (a : Option Addr) (m cap : Nat) (A : Int) (d : De) (n : Nat) (h1 : 1 ≤ n) (h2 : n ≤ 4294967296) (w : World) (h : DvOf w C R a m cap A d) :
    Calls Tryz.prog 105 #[.agg #[.int .u64 C, .int .u32 R, .slice a m cap, .int .i64 A], .int .u64 n] w fun x w' => ∃ a' cap', x = .returned (.tuple #[.agg #[.int .u64 (d.numD n).C, .int .u32 (d.numD n).R, .slice a' (d.numD n).B.length cap', .int .i64 (d.numD n).A], .int .u64 (d.numV n : Nat), .int .i64 0]) ∧ OutD w w' C R a m cap A d (d.numD n) a' cap' := by
  unfold De.numD De.numV
  by_cases hn : n ≤ 65536
  · simp only [hn, if_true]
    exact takeNum_small C R a m cap A d _ _ n h1 hn (fun W hh => takeOne_any C R a m cap A d n h1 hn W hh) w h
  · simp only [hn, if_false]
    have hu1 : 1 ≤ (n - 1) / 65536 + 1 := by omega
    have hu2 : (n - 1) / 65536 + 1 ≤ 65536 := by omega
    have hf1 : Fair (d.get ((n - 1) / 65536 + 1)) (d.get ((n - 1) / 65536 + 1) + 1) ((n - 1) / 65536 + 1) := ⟨by omega, by have := De.get_le d ((n - 1) / 65536 + 1); omega, hu2⟩
    have hok1 : (d.upD n).Ok := h.1.take hf1
    have g1 := De.get_le d ((n - 1) / 65536 + 1)
    have g2 := De.get_le (d.upD n) 65536
    refine takeNum_great C R a m cap A d (d.upD n) _ (d.get ((n - 1) / 65536 + 1)) ((d.upD n).get 65536) _ n ((n - 1) / 65536 + 1) (by omega) h2 rfl (by omega) (by omega) rfl (fun W hh => takeOne_any C R a m cap A d _ hu1 hu2 W hh) (fun W a c hr => ?_) w h
    refine (takeOne_any _ _ a _ c _ (d.upD n) 65536 (by omega) (by omega) W (hok1.dv hr)).mono ?_
    rintro x w' ⟨a', c', rfl, q, hb⟩
    exact ⟨a', c', rfl, fun w1 hh => q w1 (hok1.dv hh), hb⟩
theorem De.Ok.numD {d : De} (h : d.Ok) {n : Nat} (h1 : 1 ≤ n) (h2 : n ≤ 4294967296) : (d.numD n).Ok := by
  unfold De.numD
  split
  · rename_i hn
    exact h.take ⟨by omega, by have := De.get_le d n; omega, hn⟩
  · have hok1 : (d.upD n).Ok := h.take ⟨by omega, by have := De.get_le d ((n - 1) / 65536 + 1); omega, by omega⟩
    exact hok1.take ⟨by omega, by have := De.get_le (d.upD n) 65536; omega, by omega⟩
theorem De.numD_B (d : De) (n : Nat) : (d.numD n).B = d.B := by
  unfold De.numD De.upD
  split
  · exact De.take_B _ _ _ _
  · rw [De.take_B, De.take_B]
end Go.Proofs.YtidppkbphkcmeaaGreat
/- A number is taken: the document. -/
namespace Go.Proofs.YtidppkbphkcmeaaGreat
open Go.RowKit
set_option linter.unusedVariables false
set_option linter.unusedSimpArgs false

theorem rget_w (a : Option Addr) (cap : Nat) (d : De) (tot : Nat) (w : World) (h : d.Ok) (h1 : 1 ≤ tot) (h2 : tot ≤ 65536) :
    Calls Tryz.prog 44 #[.agg #[.int .u64 d.C, .int .u64 d.R, .slice a d.B.length cap, .int .i64 d.A], .int .i64 tot] w fun e w' => e = .returned (.int .i64 (d.get tot : Nat)) ∧ Below w.heap.size w w' := rget_any a cap d tot w h h1 h2
theorem rtake_w (a : Option Addr) (cap : Nat) (d : De) (v tot : Nat) (w : World) (h : d.Ok) (hr : Rw .u8 w (.slice a d.B.length cap) d.B) (hf : Fair v (v + 1) tot) :
    Calls Tryz.prog 45 #[.agg #[.int .u64 d.C, .int .u64 d.R, .slice a d.B.length cap, .int .i64 d.A], .int .i64 v, .int .i64 ((v : Int) + 1), .int .i64 tot] w fun e w' => e = .returned (.agg #[.int .u64 (d.take v (v + 1) tot).C, .int .u64 (d.take v (v + 1) tot).R, .slice a (d.take v (v + 1) tot).B.length cap, .int .i64 (d.take v (v + 1) tot).A]) ∧ Below w.heap.size w w' := by
  have := rtake_any a cap d v (v + 1) tot w h hr hf
  rw [show ((v + 1 : Nat) : Int) = (v : Int) + 1 by omega] at this
  exact this

set_option maxRecDepth 10000 in
set_option maxHeartbeats 2000000 in
theorem rtakeNum_small (a : Option Addr) (cap : Nat) (d : De) (n : Nat) (h1 : 1 ≤ n) (h2 : n ≤ 65536) (w : World) (h : d.Ok) (hr : Rw .u8 w (.slice a d.B.length cap) d.B) :
    Calls Tryz.prog 47 #[.agg #[.int .u64 d.C, .int .u64 d.R, .slice a d.B.length cap, .int .i64 d.A], .int .u64 n] w fun x w' => x = .returned (.tuple #[decW a cap (d.take (d.get n) (d.get n + 1) n), .int .u64 (d.get n : Nat)]) ∧ Below w.heap.size w w' := by
  have hle := De.get_le d n
  have hf : Fair (d.get n) (d.get n + 1) n := ⟨by omega, by omega, h2⟩
  have hget := fun W => rget_w a cap d n W h h1 h2
  have htk := fun W hr => rtake_w a cap d (d.get n) n W h hr hf
  unfold decW
  generalize d.take (d.get n) (d.get n + 1) n = D at *
  generalize d.get n = V at *
  have i1 : IntKind.i64.wrap (n : Int) = n := wraps_i64 _ (by omega) (by omega)
  have i2 : IntKind.u64.wrap (V : Int) = V := nat_u64 _ (by omega)
  have k3 : (n : Int) ≤ 65536 := by omega
  have hW := below2 w (.cells #[.int .u64 d.C, .int .u64 d.R, .slice a d.B.length cap, .int .i64 d.A] 86) (.cells #[.int .u64 0, .int .u64 0, .slice none 0 0, .int .i64 0] 86)
  clear hf
  go_enter Tryz.func47, Tryz.ntmps47
  go_wp2_with (first | (go_at_call 44; refine (hget _).mono ?_; rintro x w1 ⟨rfl, hb1⟩; have hbw1 := bthen hW hb1 hW.size; have hBd := ((B4.new w (.int .u64 d.C) (.int .u64 d.R) (.slice a d.B.length cap) (.int .i64 d.A) 86).below (below1 _ (.cells #[.int .u64 0, .int .u64 0, .slice none 0 0, .int .i64 0] 86))).below hb1; have hBr := (B4.new2 w (.cells #[.int .u64 d.C, .int .u64 d.R, .slice a d.B.length cap, .int .i64 d.A] 86) (.int .u64 0) (.int .u64 0) (.slice none 0 0) (.int .i64 0) 86).below hb1; obtain ⟨dz, d0, d1, d2, d3, df0, df1, df2, df3⟩ := id hBd) | (go_at_call 45; refine (htk _ (hr.below hbw1)).mono ?_; rintro x w2 ⟨rfl, hb2⟩; have hbw2 := bthen hbw1 hb2 hbw1.size; obtain ⟨rz, r0, r1, r2, r3, p0, p1, p2, p3⟩ := hBr.below hb2))
  exact bodyPost_ret (v := .tuple #[.agg #[.int .u64 D.C, .int .u64 D.R, .slice a D.B.length cap, .int .i64 D.A], .int .u64 V]) (by simp [results, Tryz.results47, go_sem, r0, r1, r2, r3, p0, p1, p2, p3]) rfl ⟨rfl, bset4 hbw2 _ _ _ _ _ (by omega)⟩

set_option maxRecDepth 10000 in
set_option maxHeartbeats 4000000 in
theorem rtakeNum_great (a : Option Addr) (cap : Nat) (d D1 D2 : De) (V1 V2 V k q : Nat) (h1 : 65536 ≤ k) (h2 : k < 4294967296) (hq : q = k / 65536) (hV1 : V1 ≤ 65535) (hV2 : V2 ≤ 65535) (hV : V = min (V1 * 65536 + V2) k)
    (hget1 : ∀ W, Calls Tryz.prog 44 #[.agg #[.int .u64 d.C, .int .u64 d.R, .slice a d.B.length cap, .int .i64 d.A], .int .i64 ((q : Int) + 1)] W fun e w' => e = .returned (.int .i64 V1) ∧ Below W.heap.size W w')
    (htk1 : ∀ W, Rw .u8 W (.slice a d.B.length cap) d.B → Calls Tryz.prog 45 #[.agg #[.int .u64 d.C, .int .u64 d.R, .slice a d.B.length cap, .int .i64 d.A], .int .i64 V1, .int .i64 ((V1 : Int) + 1), .int .i64 ((q : Int) + 1)] W fun e w' => e = .returned (.agg #[.int .u64 D1.C, .int .u64 D1.R, .slice a D1.B.length cap, .int .i64 D1.A]) ∧ Below W.heap.size W w')
    (hget2 : ∀ W, Calls Tryz.prog 44 #[.agg #[.int .u64 D1.C, .int .u64 D1.R, .slice a D1.B.length cap, .int .i64 D1.A], .int .i64 65536] W fun e w' => e = .returned (.int .i64 V2) ∧ Below W.heap.size W w')
    (htk2 : ∀ W, Rw .u8 W (.slice a D1.B.length cap) D1.B → Calls Tryz.prog 45 #[.agg #[.int .u64 D1.C, .int .u64 D1.R, .slice a D1.B.length cap, .int .i64 D1.A], .int .i64 V2, .int .i64 ((V2 : Int) + 1), .int .i64 65536] W fun e w' => e = .returned (.agg #[.int .u64 D2.C, .int .u64 D2.R, .slice a D2.B.length cap, .int .i64 D2.A]) ∧ Below W.heap.size W w')
    (w : World) (hr : Rw .u8 w (.slice a d.B.length cap) d.B) (hr1 : Rw .u8 w (.slice a D1.B.length cap) D1.B) :
    Calls Tryz.prog 47 #[.agg #[.int .u64 d.C, .int .u64 d.R, .slice a d.B.length cap, .int .i64 d.A], .int .u64 ((k : Int) + 1)] w fun x w' => x = .returned (.tuple #[.agg #[.int .u64 D2.C, .int .u64 D2.R, .slice a D2.B.length cap, .int .i64 D2.A], .int .u64 V]) ∧ Below w.heap.size w w' := by
  have hd3 : ((k : Int).tdiv 65536) = (q : Int) := by rw [hq]; rfl
  have k3 : ¬ ((k : Int) + 1) ≤ 65536 := by omega
  have k5 : q ≤ 65536 := by omega
  have hVi : (V : Int) = min ((V1 : Int) * 65536 + V2) (k : Int) := by omega
  have HV : Hid ((V : Int) = min ((V1 : Int) * 65536 + V2) (k : Int)) := hVi
  have k4 : (V1 : Int) * 65536 + V2 < 4294967296 := by omega
  have i1 : IntKind.i64.wrap (q : Int) = q := wraps_i64 _ (by omega) (by omega)
  have i2 : IntKind.u64.wrap (V1 : Int) = V1 := nat_u64 _ (by omega)
  have i3 : IntKind.u64.wrap (V2 : Int) = V2 := nat_u64 _ (by omega)
  have hW := below2 w (.cells #[.int .u64 d.C, .int .u64 d.R, .slice a d.B.length cap, .int .i64 d.A] 86) (.cells #[.int .u64 0, .int .u64 0, .slice none 0 0, .int .i64 0] 86)
  obtain ⟨P, hP⟩ : ∃ P : Int, (V1 : Int) * 65536 + V2 = P := ⟨_, rfl⟩
  have hP0 : 0 ≤ P := by omega
  have hP1 : P < 4294967296 := by omega
  have HVP : Hid ((V : Int) = min P (k : Int)) := by unfold Hid; omega
  have h3 : (P ≤ (k : Int)) ∨ ((k : Int) < P) := by omega
  clear HV k4
  have k6 : (k : Int) < 4294967296 := by omega
  obtain ⟨M, hM⟩ : ∃ M : Int, (V1 : Int) * 65536 = M := ⟨_, rfl⟩
  have hM0 : 0 ≤ M := by omega
  have hM1 : M < 4294967296 := by omega
  rw [hM] at hP
  clear hq hV hVi h1 h2 hV1 hV2
  obtain ⟨N, hN⟩ : ∃ N : Int, (k : Int) = N := ⟨_, rfl⟩
  rw [hN] at hd3 k3 k6 HVP h3 ⊢
  clear hN
  have k9 : 65536 ≤ N := by omega
  rcases h3 with h3 | h3
  all_goals
    go_enter Tryz.func47, Tryz.ntmps47
    go_wp2_with (first | (go_at_call_of 44 (Value.agg #[.int .u64 d.C, .int .u64 d.R, .slice a d.B.length cap, .int .i64 d.A]); refine (hget1 _).mono ?_; rintro x w1 ⟨rfl, hb1⟩; have hbw1 := bthen hW hb1 hW.size; have hBd := ((B4.new w (.int .u64 d.C) (.int .u64 d.R) (.slice a d.B.length cap) (.int .i64 d.A) 86).below (below1 _ (.cells #[.int .u64 0, .int .u64 0, .slice none 0 0, .int .i64 0] 86))).below hb1; have hBr := (B4.new2 w (.cells #[.int .u64 d.C, .int .u64 d.R, .slice a d.B.length cap, .int .i64 d.A] 86) (.int .u64 0) (.int .u64 0) (.slice none 0 0) (.int .i64 0) 86).below hb1; obtain ⟨dz, d0, d1, d2, d3, df0, df1, df2, df3⟩ := id hBd) | (go_at_call_of 45 (Value.int IntKind.i64 (V1 : Int)); refine (htk1 _ (hr.below hbw1)).mono ?_; rintro x w2 ⟨rfl, hb2⟩; have hB2 := (hBd.below hb2).set (.int .u64 D1.C) (.int .u64 D1.R) (.slice a D1.B.length cap) (.int .i64 D1.A); have hR2 := (((((hBr.below hb2).other w.heap.size 0 (.int .u64 D1.C) (by omega)).other w.heap.size 1 (.int .u64 D1.R) (by omega)).other w.heap.size 2 (.slice a D1.B.length cap) (by omega)).other w.heap.size 3 (.int .i64 D1.A) (by omega)); have hbw2 := bset4 (bthen hbw1 hb2 hbw1.size) w.heap.size (.int .u64 D1.C) (.int .u64 D1.R) (.slice a D1.B.length cap) (.int .i64 D1.A) (Nat.le_refl _); obtain ⟨ez, e0, e1, e2, e3, ef0, ef1, ef2, ef3⟩ := hBd.below hb2) | (go_at_call_of 44 (Value.agg #[.int .u64 D1.C, .int .u64 D1.R, .slice a D1.B.length cap, .int .i64 D1.A]); refine (hget2 _).mono ?_; rintro x w3 ⟨rfl, hb3⟩; have hB3 := hB2.below hb3; have hR3 := hR2.below hb3; have hbw3 := bthen hbw2 hb3 hbw2.size; obtain ⟨gz, g0, g1, g2, g3, gf0, gf1, gf2, gf3⟩ := id hB3) | (go_at_call_of 45 (Value.int IntKind.i64 (V2 : Int)); refine (htk2 _ (hr1.below hbw3)).mono ?_; rintro x w4 ⟨rfl, hb4⟩; clear k5; have hR4 := (((((hR3.below hb4).other w.heap.size 0 (.int .u64 D2.C) (by omega)).other w.heap.size 1 (.int .u64 D2.R) (by omega)).other w.heap.size 2 (.slice a D2.B.length cap) (by omega)).other w.heap.size 3 (.int .i64 D2.A) (by omega)); have hbw4 := bset4 (bthen hbw3 hb4 hbw3.size) w.heap.size (.int .u64 D2.C) (.int .u64 D2.R) (.slice a D2.B.length cap) (.int .i64 D2.A) (Nat.le_refl _); obtain ⟨kz, k0, k1, k2, k3, kf0, kf1, kf2, kf3⟩ := hB3.below hb4; obtain ⟨rz, r0, r1, r2, r3, p0, p1, p2, p3⟩ := id hR4))
    have e := HVP.out
    first
      | (have hX : (V : Int) = P := by omega
         rw [hX]
         exact bodyPost_ret (v := .tuple #[.agg #[.int .u64 D2.C, .int .u64 D2.R, .slice a D2.B.length cap, .int .i64 D2.A], .int .u64 P]) (by simp [results, Tryz.results47, go_sem, r0, r1, r2, r3, p0, p1, p2, p3, k0, k1, k2, k3]) rfl ⟨rfl, bset4 hbw4 _ _ _ _ _ (by omega)⟩)
      | (have hX : (V : Int) = N := by omega
         rw [hX]
         exact bodyPost_ret (v := .tuple #[.agg #[.int .u64 D2.C, .int .u64 D2.R, .slice a D2.B.length cap, .int .i64 D2.A], .int .u64 N]) (by simp [results, Tryz.results47, go_sem, r0, r1, r2, r3, p0, p1, p2, p3, k0, k1, k2, k3]) rfl ⟨rfl, bset4 hbw4 _ _ _ _ _ (by omega)⟩)

theorem rtakeNum_any (a : Option Addr) (cap : Nat) (d : De) (n : Nat) (h1 : 1 ≤ n) (h2 : n ≤ 4294967296) (w : World) (h : d.Ok) (hr : Rw .u8 w (.slice a d.B.length cap) d.B) :
    Calls Tryz.prog 47 #[.agg #[.int .u64 d.C, .int .u64 d.R, .slice a d.B.length cap, .int .i64 d.A], .int .u64 n] w fun x w' => x = .returned (.tuple #[decW a cap (d.numD n), .int .u64 (d.numV n : Nat)]) ∧ Below w.heap.size w w' := by
  unfold De.numD De.numV
  by_cases hn : n ≤ 65536
  · simp only [hn, if_true]
    exact rtakeNum_small a cap d n h1 hn w h hr
  · simp only [hn, if_false]
    obtain ⟨k, rfl⟩ : ∃ k, n = k + 1 := ⟨n - 1, by omega⟩
    have hc : ((k / 65536 + 1 : Nat) : Int) = ((k / 65536 : Nat) : Int) + 1 := by omega
    have hup : d.upD (k + 1) = d.take (d.get (k / 65536 + 1)) (d.get (k / 65536 + 1) + 1) (k / 65536 + 1) := rfl
    have hf1 : Fair (d.get (k / 65536 + 1)) (d.get (k / 65536 + 1) + 1) (k / 65536 + 1) := ⟨by omega, by have := De.get_le d (k / 65536 + 1); omega, by omega⟩
    have hok1 : (d.upD (k + 1)).Ok := h.take hf1
    have hf2 : Fair ((d.upD (k + 1)).get 65536) ((d.upD (k + 1)).get 65536 + 1) 65536 := ⟨by omega, by have := De.get_le (d.upD (k + 1)) 65536; omega, by omega⟩
    have g1 := De.get_le d (k / 65536 + 1)
    have g2 := De.get_le (d.upD (k + 1)) 65536
    have hB1 : (d.upD (k + 1)).B = d.B := De.take_B _ _ _ _
    have t1 := fun W => rget_w a cap d (k / 65536 + 1) W h (by omega) (by omega)
    have t2 := fun W hr => rtake_w a cap d (d.get (k / 65536 + 1)) (k / 65536 + 1) W h hr hf1
    rw [hc] at t1 t2
    rw [← hup] at t2
    have := rtakeNum_great a cap d (d.upD (k + 1)) ((d.upD (k + 1)).take ((d.upD (k + 1)).get 65536) ((d.upD (k + 1)).get 65536 + 1) 65536) (d.get (k / 65536 + 1)) ((d.upD (k + 1)).get 65536) (min (d.get (k / 65536 + 1) * 65536 + (d.upD (k + 1)).get 65536) k) k (k / 65536) (by omega) (by omega) rfl (by omega) (by omega) rfl t1 t2 (fun W => rget_w a cap (d.upD (k + 1)) 65536 W hok1 (by omega) (by omega)) (fun W hr => rtake_w a cap (d.upD (k + 1)) ((d.upD (k + 1)).get 65536) 65536 W hok1 hr hf2) w hr (by rw [hB1]; exact hr)
    rw [show ((k + 1 : Nat) : Int) = (k : Int) + 1 by omega]
    exact this
end Go.Proofs.YtidppkbphkcmeaaGreat
/- Numbers that were put are taken as they were: on plain numbers; rows of pairs. -/
namespace Go.Proofs.YtidppkbphkcmeaaGreat
open Go.RowKit
set_option linter.unusedVariables false
set_option linter.unusedSimpArgs false

/-- The choices of a number. -/
def chs (v n : Nat) : List (Nat × Nat × Nat) := if n ≤ 65536 then [(v, v + 1, n)] else [(v / 65536, v / 65536 + 1, (n - 1) / 65536 + 1), (v % 65536, v % 65536 + 1, 65536)]
structure NumOk (v n : Nat) : Prop where
  one : 1 ≤ n
  top : n ≤ 4294967296
  lt : v < n
theorem chs_fair {v n : Nat} (h : NumOk v n) : Fairs (chs v n) := by
  have h1 := h.one
  have h2 := h.top
  have h3 := h.lt
  unfold chs
  split
  · intro c hc
    simp at hc; subst hc
    exact ⟨by show v < v + 1; omega, by show v + 1 ≤ n; omega, by show n ≤ 65536; omega⟩
  · intro c hc
    simp at hc
    rcases hc with rfl | rfl
    · exact ⟨by show v / 65536 < v / 65536 + 1; omega, by show v / 65536 + 1 ≤ (n - 1) / 65536 + 1; omega, by show (n - 1) / 65536 + 1 ≤ 65536; omega⟩
    · exact ⟨by show v % 65536 < v % 65536 + 1; omega, by show v % 65536 + 1 ≤ 65536; omega, by show 65536 ≤ 65536; omega⟩
theorem put_zero {E : En} {l h t : Nat} (he : putF E l h t = 0) : putE E l h t = E.put l h t := by
  rcases put_cases E l h t with ⟨l', h', t', e1, e2, e3, _, e4, _⟩ | ⟨_, e⟩
  · have : l = l' := by omega
    have : h = h' := by omega
    have : t = t' := by omega
    subst l h t
    exact e4
  · rw [he] at e; simp at e
theorem putN_cases (E : En) (v n : Nat) : (NumOk v n ∧ putNE E v n = puts E (chs v n) ∧ putNF E v n = 0) ∨ (putNE E v n = E ∧ (putNF E v n == 0) = false) := by
  unfold putNE putNF
  by_cases h1 : n = 0 ∨ 4294967296 < n ∨ n ≤ v
  · right; simp [h1]
  · simp only [h1, if_false]
    have hok : NumOk v n := ⟨by omega, by omega, by omega⟩
    by_cases h2 : n ≤ 65536
    · simp only [h2, if_true]
      rcases put_cases E v (v + 1) n with ⟨l, h, t, e1, e2, e3, _, e4, e5⟩ | ⟨e1, e2⟩
      · left
        refine ⟨hok, ?_, e5⟩
        have : l = v := by omega
        have : h = v + 1 := by omega
        have : t = n := by omega
        subst l h t
        rw [e4]
        unfold chs
        rw [if_pos h2]
        rfl
      · exact .inr ⟨e1, e2⟩
    · simp only [h2, if_false]
      have c1 : (((v / 65536 : Nat) : Int) + 1) = ((v / 65536 + 1 : Nat) : Int) := by omega
      have c2 : (((v % 65536 : Nat) : Int) + 1) = ((v % 65536 + 1 : Nat) : Int) := by omega
      rw [c1, c2]
      by_cases k1 : putF E (v / 65536 : Nat) (v / 65536 + 1 : Nat) ((n - 1) / 65536 + 1 : Nat) = 0
      · simp only [k1, if_true]
        have z1 := put_zero k1
        rw [z1]
        by_cases k2 : putF (E.put (v / 65536) (v / 65536 + 1) ((n - 1) / 65536 + 1)) (v % 65536 : Nat) (v % 65536 + 1 : Nat) (65536 : Nat) = 0
        · simp only [k2, if_true]
          left
          refine ⟨hok, ?_, trivial⟩
          rw [put_zero k2]
          unfold chs
          rw [if_neg h2]
          rfl
        · simp only [k2, if_false]
          right
          exact ⟨trivial, by simpa using k2⟩
      · simp only [k1, if_false]
        right
        exact ⟨trivial, by simpa using k1⟩

theorem Fairs.append {l m : List (Nat × Nat × Nat)} (h : Fairs l) (k : Fairs m) : Fairs (l ++ m) := fun x hx => by
  rcases List.mem_append.1 hx with hx | hx
  · exact h x hx
  · exact k x hx
theorem get_only {V M : Nat} {e : En} {d : De} (h : Track V M e d) (hg : e.Good) {v tot : Nat} (hf : Fair v (v + 1) tot) (hw : Within V M (e.put v (v + 1) tot)) : d.get tot = v := by
  have := h.get hg hf hw
  omega
/-- A number is taken as it was put. -/
theorem Track.num {V M : Nat} {e : En} {d : De} (h : Track V M e d) (hg : e.Good) {v n : Nat} (hn : NumOk v n) (hw : Within V M (puts e (chs v n))) : d.numV n = v ∧ Track V M (puts e (chs v n)) (d.numD n) := by
  have hfs := chs_fair hn
  have h3 := hn.lt
  unfold chs at *
  unfold De.numV De.numD
  by_cases h2 : n ≤ 65536
  · simp only [h2, if_true] at *
    have hf := (Fairs.cons hfs).1
    have e1 := get_only h hg hf hw
    rw [e1]
    exact ⟨rfl, h.take hg hf hw⟩
  · simp only [h2, if_false] at *
    obtain ⟨f1, f2⟩ := Fairs.cons hfs
    have f2 := (Fairs.cons f2).1
    have hg1 := hg.put f1
    have hw1 : Within V M (e.put (v / 65536) (v / 65536 + 1) ((n - 1) / 65536 + 1)) := Within.back hg1 f2 hw
    have e1 := get_only h hg f1 hw1
    have t1 := h.take hg f1 hw1
    have e2 := get_only t1 hg1 f2 hw
    unfold De.upD
    simp only [e1] at *
    simp only [e2]
    exact ⟨by omega, t1.take hg1 f2 hw⟩

def flatC (K : List (Nat × Nat)) : List (Nat × Nat × Nat) := K.flatMap fun p => chs p.1 p.2
def NumsOk (K : List (Nat × Nat)) : Prop := ∀ p ∈ K, NumOk p.1 p.2
theorem NumsOk.snoc {K : List (Nat × Nat)} {v n : Nat} (h : NumsOk K) (hn : NumOk v n) : NumsOk (K ++ [(v, n)]) := fun x hx => by
  rcases List.mem_append.1 hx with hx | hx
  · exact h x hx
  · simp at hx; subst hx; exact hn
theorem flat_fair {K : List (Nat × Nat)} (h : NumsOk K) : Fairs (flatC K) := fun c hc => by
  simp only [flatC, List.mem_flatMap] at hc
  obtain ⟨p, hp, hc⟩ := hc
  exact chs_fair (h p hp) c hc
theorem flat_append (K L : List (Nat × Nat)) : flatC (K ++ L) = flatC K ++ flatC L := by simp [flatC]
theorem flat_snoc (K : List (Nat × Nat)) (v n : Nat) : flatC (K ++ [(v, n)]) = flatC K ++ chs v n := by simp [flatC]
theorem Track.numAt {K : List (Nat × Nat)} (hK : NumsOk K) {q : Nat} (hq : q < K.length) {d : De} (h : Track (puts En.new (flatC K)).N (puts En.new (flatC K)).m (puts En.new (flatC (K.take q))) d) :
    d.numV (K.getD q (0, 0)).2 = (K.getD q (0, 0)).1 ∧ NumOk (K.getD q (0, 0)).1 (K.getD q (0, 0)).2 ∧ Track (puts En.new (flatC K)).N (puts En.new (flatC K)).m (puts En.new (flatC (K.take (q + 1)))) (d.numD (K.getD q (0, 0)).2) := by
  have hget : K.getD q (0, 0) = K[q] := by rw [List.getD_eq_getElem?_getD, List.getElem?_eq_getElem hq]; rfl
  rw [hget]
  have hc : NumOk K[q].1 K[q].2 := hK _ (List.getElem_mem hq)
  have hT : NumsOk (K.take q) := fun x hx => hK x (List.mem_of_mem_take hx)
  have hD : NumsOk (K.drop (q + 1)) := fun x hx => hK x (List.mem_of_mem_drop hx)
  have hg := En.new_good.puts (flat_fair hT)
  have htk : K.take (q + 1) = K.take q ++ [K[q]] := by rw [List.take_succ_eq_append_getElem hq]
  have hsn : puts En.new (flatC (K.take (q + 1))) = puts (puts En.new (flatC (K.take q))) (chs K[q].1 K[q].2) := by rw [htk, ← puts_append]; congr 1; exact flat_snoc _ _ _
  have hall : puts En.new (flatC K) = puts (puts En.new (flatC (K.take (q + 1)))) (flatC (K.drop (q + 1))) := by rw [← puts_append, ← flat_append, List.take_append_drop]
  have hw : Within (puts En.new (flatC K)).N (puts En.new (flatC K)).m (puts (puts En.new (flatC (K.take q))) (chs K[q].1 K[q].2)) := by
    have hself := Within.self (En.new_good.puts (flat_fair hK))
    rw [← hsn]
    refine Within.puts (l := flatC (K.drop (q + 1))) ?_ (flat_fair hD) ?_
    · rw [hsn]; exact hg.puts (chs_fair hc)
    · rw [← hall]; exact hself
  obtain ⟨g1, g2⟩ := h.num hg hc hw
  refine ⟨g1, hc, ?_⟩
  rw [hsn]
  exact g2
theorem num_new {K : List (Nat × Nat)} (hK : NumsOk K) : Track (puts En.new (flatC K)).N (puts En.new (flatC K)).m (puts En.new (flatC (K.take 0))) (De.open (puts En.new (flatC K)).all) :=
  Track.init (En.new_good.puts (flat_fair hK)).lt

/-! ### Rows of pairs -/
def cells2 (K : List (Nat × Nat)) : List Value := K.flatMap fun p => [.int .u64 (p.1 : Int), .int .u64 (p.2 : Int)]
theorem cells2_snoc (K : List (Nat × Nat)) (v n : Nat) : cells2 (K ++ [(v, n)]) = cells2 K ++ [.int .u64 (v : Int), .int .u64 (n : Int)] := by simp [cells2]
theorem cells2_at (K : List (Nat × Nat)) (j : Nat) (h : j < K.length) : (cells2 K)[j * 2]? = some (.int .u64 ((K.getD j (0, 0)).1 : Int)) ∧ (cells2 K)[j * 2 + 1]? = some (.int .u64 ((K.getD j (0, 0)).2 : Int)) := by
  induction K generalizing j with
  | nil => simp at h
  | cons q K ih => cases j with
    | zero => exact ⟨rfl, rfl⟩
    | succ j =>
      have := ih j (by simpa using h)
      rw [show (j + 1) * 2 = j * 2 + 2 by omega]
      exact this
theorem own_pairs {w : World} {base : Nat} {T : TypeId} {kv : Value} {K : List (Nat × Nat)} (h : w.ownsRow base T 2 kv K.length (cells2 K)) :
    ∃ a cap, kv = .slice a K.length cap ∧ (K.length = 0 ∨ ∃ b off, a = some ⟨b, off, none⟩ ∧ b < w.heap.size ∧ ∀ j, j < K.length → w.cell? ⟨b, off + j * 2, none⟩ = some (.int .u64 ((K.getD j (0, 0)).1 : Int)) ∧ w.cell? ⟨b, off + j * 2 + 1, none⟩ = some (.int .u64 ((K.getD j (0, 0)).2 : Int))) := by
  obtain ⟨h1, h2⟩ := h
  rcases h2 with ⟨rfl, h0⟩ | ⟨g, cap, cur, rfl, hg, hh, hcap, hm, hs, ht⟩
  · exact ⟨none, 0, by rw [h0], .inl h0⟩
  · refine ⟨_, cap, rfl, .inr ⟨g, 0, rfl, ?_, fun j hj => ?_⟩⟩
    · rcases Nat.lt_or_ge g w.heap.size with h | h
      · exact h
      · rw [Array.getElem?_eq_none h] at hh; cases hh
    · obtain ⟨c0, c1⟩ := cells2_at K j hj
      rw [← ht, List.getElem?_take_of_lt (by omega)] at c0 c1
      simp only [World.cell?, hh, Nat.zero_add]
      exact ⟨by simpa using c0, by simpa using c1⟩
theorem takeNum_dec {d : De} (h : d.Ok) {n : Nat} (h1 : 1 ≤ n) (h2 : n ≤ 4294967296) (a : Option Addr) (cap : Nat) (W : World) (hr : Rw .u8 W (.slice a d.B.length cap) d.B) :
    Calls Tryz.prog 105 #[.agg #[.int .u64 d.C, .int .u32 d.R, .slice a d.B.length cap, .int .i64 d.A], .int .u64 n] W fun e w' => ∃ a' cap', e = .returned (.tuple #[.agg #[.int .u64 (d.numD n).C, .int .u32 (d.numD n).R, .slice a' (d.numD n).B.length cap', .int .i64 (d.numD n).A], .int .u64 (d.numV n : Nat), .int .i64 0]) ∧ (∀ w1, Rw .u8 w1 (.slice a d.B.length cap) d.B → Rw .u8 w1 (.slice a' (d.numD n).B.length cap') (d.numD n).B) ∧ Below W.heap.size W w' := by
  refine (takeNum_any _ _ _ _ _ _ d n h1 h2 W (h.dv hr)).mono ?_
  rintro e w' ⟨a', cap', rfl, hrw, hb⟩
  exact ⟨a', cap', rfl, fun w1 hh => hrw w1 (h.dv hh), hb⟩
end Go.Proofs.YtidppkbphkcmeaaGreat
