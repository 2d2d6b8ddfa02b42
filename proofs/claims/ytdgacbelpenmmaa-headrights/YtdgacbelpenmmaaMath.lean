/- Plain facts on lists of bytes as numbers: the byte at place i counts 256^i. Nothing of the program is imported. -/
import Derived.Test.YtdgacbelpenmmaaBase
import Derived.ChangeSlices
namespace Go.Proofs.Ytdgacbelpenmmaa
open Go.RowKit
set_option linter.unusedVariables false
set_option linter.unusedSimpArgs false

/-- The number of a list of bytes, the lowest one first. -/
def bv : List Int → Nat
  | [] => 0
  | x :: l => x.toNat + 256 * bv l

def Byts (l : List Int) : Prop := ∀ x ∈ l, 0 ≤ x ∧ x < 256

theorem Byts.nil : Byts [] := fun _ h => by cases h
theorem Byts.cons {x : Int} {l : List Int} (h : Byts (x :: l)) : (0 ≤ x ∧ x < 256) ∧ Byts l :=
  ⟨h x (by simp), fun y hy => h y (by simp [hy])⟩
theorem Byts.append {l m : List Int} (h : Byts l) (k : Byts m) : Byts (l ++ m) := fun x hx => by
  rcases List.mem_append.1 hx with h' | h'
  · exact h x h'
  · exact k x h'
theorem Byts.replicate (n : Nat) : Byts (List.replicate n 0) := fun x hx => by
  rw [List.eq_of_mem_replicate hx]; omega
theorem Byts.getD {l : List Int} (h : Byts l) (i : Nat) : 0 ≤ l.getD i 0 ∧ l.getD i 0 < 256 := by
  rw [List.getD_eq_getElem?_getD]
  by_cases hi : i < l.length
  · rw [List.getElem?_eq_getElem hi]; exact h _ (List.getElem_mem hi)
  · rw [List.getElem?_eq_none (by omega)]; simp
theorem Byts.set {l : List Int} (h : Byts l) (i : Nat) {y : Int} (h0 : 0 ≤ y) (h1 : y < 256) : Byts (l.set i y) := fun x hx => by
  rcases List.mem_or_eq_of_mem_set hx with h' | h'
  · exact h x h'
  · subst h'; exact ⟨h0, h1⟩
theorem Byts.take {l : List Int} (h : Byts l) (n : Nat) : Byts (l.take n) := fun x hx => h x (List.mem_of_mem_take hx)

theorem pow256 (i : Nat) : (256 : Nat) ^ i = 2 ^ (8 * i) := by rw [Nat.pow_mul]

theorem bv_lt {l : List Int} (h : Byts l) : bv l < 256 ^ l.length := by
  induction l with
  | nil => simp [bv]
  | cons x l ih =>
    obtain ⟨hx, hl⟩ := h.cons
    have := ih hl
    simp only [bv, List.length_cons, Nat.pow_succ]
    omega

theorem bv_append (l m : List Int) : bv (l ++ m) = bv l + 256 ^ l.length * bv m := by
  induction l with
  | nil => simp [bv]
  | cons x l ih =>
    simp only [List.cons_append, bv, ih, List.length_cons, Nat.pow_succ, Nat.mul_add]
    rw [Nat.mul_comm (256 ^ l.length) 256, Nat.mul_assoc]
    omega

theorem bv_zero (n : Nat) : bv (List.replicate n 0) = 0 := by
  induction n with
  | zero => rfl
  | succ n ih => simp [List.replicate_succ, bv, ih]

theorem bv_get {l : List Int} (h : Byts l) (i : Nat) : bv l / 256 ^ i % 256 = (l.getD i 0).toNat := by
  induction l generalizing i with
  | nil => simp [bv]
  | cons x l ih =>
    obtain ⟨hx, hl⟩ := h.cons
    cases i with
    | zero => simp [bv]; omega
    | succ i =>
      have h1 : bv (x :: l) / 256 ^ (i + 1) = bv l / 256 ^ i := by
        rw [Nat.pow_succ, Nat.mul_comm, ← Nat.div_div_eq_div_mul]
        congr 1
        simp only [bv]; omega
      rw [h1, ih hl]
      simp

theorem bv_set (l : List Int) (i : Nat) (y : Int) (hi : i < l.length) : bv (l.set i y) + (l.getD i 0).toNat * 256 ^ i = bv l + y.toNat * 256 ^ i := by
  induction l generalizing i with
  | nil => simp at hi
  | cons x l ih =>
    cases i with
    | zero => simp [bv]; omega
    | succ i =>
      have := ih i (by simpa using hi)
      simp only [List.set_cons_succ, bv, List.getD_cons_succ, Nat.pow_succ]
      have e1 : (l.getD i 0).toNat * (256 ^ i * 256) = 256 * ((l.getD i 0).toNat * 256 ^ i) := by
        rw [Nat.mul_comm (256 ^ i) 256, Nat.mul_left_comm]
      have e2 : y.toNat * (256 ^ i * 256) = 256 * (y.toNat * 256 ^ i) := by
        rw [Nat.mul_comm (256 ^ i) 256, Nat.mul_left_comm]
      rw [e1, e2]; omega

theorem bv_inj {l m : List Int} (hl : Byts l) (hm : Byts m) (he : l.length = m.length) (h : bv l = bv m) : l = m := by
  induction l generalizing m with
  | nil => cases m with
    | nil => rfl
    | cons y m => simp at he
  | cons x l ih => cases m with
    | nil => simp at he
    | cons y m =>
      obtain ⟨hx, hl⟩ := hl.cons
      obtain ⟨hy, hm⟩ := hm.cons
      simp only [bv] at h
      have e1 : x = y := by omega
      have e2 : bv l = bv m := by omega
      rw [e1, ih hl hm (by simpa using he) e2]

/-- The bit at place p. -/
theorem bv_bit {l : List Int} (h : Byts l) (p : Nat) : bv l / 2 ^ p % 2 = (l.getD (p / 8) 0).toNat / 2 ^ (p % 8) % 2 := by
  have h1 := bv_get h (p / 8)
  rw [← h1, pow256]
  have hp : p = 8 * (p / 8) + p % 8 := by omega
  have e1 : bv l / 2 ^ p = bv l / 2 ^ (8 * (p / 8)) / 2 ^ (p % 8) := by
    rw [Nat.div_div_eq_div_mul, ← Nat.pow_add, ← hp]
  rw [e1]
  generalize bv l / 2 ^ (8 * (p / 8)) = X
  have hr : p % 8 < 8 := Nat.mod_lt _ (by decide)
  generalize p % 8 = r at hr
  have : r = 0 ∨ r = 1 ∨ r = 2 ∨ r = 3 ∨ r = 4 ∨ r = 5 ∨ r = 6 ∨ r = 7 := by omega
  rcases this with rfl | rfl | rfl | rfl | rfl | rfl | rfl | rfl <;> simp <;> omega

/-- The bits up to k + 1: those up to k, and the next one. -/
theorem mod_two_pow_succ (V k : Nat) : V % 2 ^ (k + 1) = V % 2 ^ k + V / 2 ^ k % 2 * 2 ^ k := by
  rw [Nat.pow_succ, Nat.mod_mul, Nat.mul_comm (2 ^ k) (_ % 2)]

/-- A writer's bits from N on are 0: by the last byte alone. -/
theorem bv_last {l : List Int} (h : Byts l) (N : Nat) (hl : l.length = (N + 7) / 8) :
    bv l < 2 ^ N ↔ (N % 8 = 0 ∨ (l.getD (l.length - 1) 0).toNat / 2 ^ (N % 8) = 0) := by
  have hlt := bv_lt h
  by_cases h8 : N % 8 = 0
  · have : 8 * l.length = N := by omega
    rw [pow256, this] at hlt
    simp [h8, hlt]
  · have hN : 8 * (l.length - 1) + N % 8 = N := by omega
    have hg := bv_get h (l.length - 1)
    have hq : bv l / 256 ^ (l.length - 1) < 256 := by
      rw [Nat.div_lt_iff_lt_mul (Nat.pow_pos (by decide))]
      have : 256 ^ l.length = 256 * 256 ^ (l.length - 1) := by
        conv => lhs; rw [show l.length = (l.length - 1) + 1 by omega, Nat.pow_succ, Nat.mul_comm]
      omega
    rw [Nat.mod_eq_of_lt hq] at hg
    rw [← hg]
    have e : bv l < 2 ^ N ↔ bv l / 256 ^ (l.length - 1) < 2 ^ (N % 8) := by
      rw [Nat.div_lt_iff_lt_mul (Nat.pow_pos (by decide)), pow256, ← Nat.pow_add, Nat.add_comm (N % 8), hN]
    rw [e, Nat.div_eq_zero_iff]
    have : 2 ^ (N % 8) ≠ 0 := by simp
    simp [h8, this]

/-- The bit at place p, as a number; the first m bits. -/
def bitAt (V p : Nat) : Int := ((V / 2 ^ p % 2 : Nat) : Int)
def bl (V m : Nat) : List Int := (List.range m).map (bitAt V)
theorem bl_length (V m : Nat) : (bl V m).length = m := by simp [bl]
theorem bl_succ (V m : Nat) : bl V (m + 1) = bl V m ++ [bitAt V m] := by simp [bl, List.range_succ]
theorem bl_zero (V : Nat) : bl V 0 = [] := rfl
theorem bl_getD (V m i : Nat) (h : i < m) : (bl V m).getD i 0 = bitAt V i := by simp [bl, h]
theorem bitAt_01 (V p : Nat) : bitAt V p = 0 ∨ bitAt V p = 1 := by unfold bitAt; omega
/-- The first n bytes of a number. -/
def byteAt (V i : Nat) : Int := ((V / 256 ^ i % 256 : Nat) : Int)
def byL (V n : Nat) : List Int := (List.range n).map (byteAt V)
theorem byL_length (V n : Nat) : (byL V n).length = n := by simp [byL]
theorem byL_succ (V n : Nat) : byL V (n + 1) = byL V n ++ [byteAt V n] := by simp [byL, List.range_succ]
theorem byL_byts (V n : Nat) : Byts (byL V n) := fun x hx => by
  simp only [byL, List.mem_map] at hx
  obtain ⟨i, _, rfl⟩ := hx
  unfold byteAt; omega
theorem byL_bv (V n : Nat) : bv (byL V n) = V % 256 ^ n := by
  induction n with
  | zero => simp [byL, bv, Nat.mod_one]
  | succ n ih =>
    rw [byL_succ, bv_append, ih, byL_length, Nat.pow_succ, Nat.mod_mul]
    simp only [bv, byteAt, Int.toNat_natCast, Nat.mul_zero, Nat.add_zero]
theorem byL_eq {l : List Int} (h : Byts l) {V : Nat} (hv : bv l = V) : l = byL V l.length := by
  refine bv_inj h (byL_byts _ _) (by simp [byL_length]) ?_
  rw [byL_bv, ← hv, Nat.mod_eq_of_lt (bv_lt h)]

/-- One bit more, from above: what the loop over a byte's bits gathers. -/
theorem bits_up (V i k : Nat) (hk : k < 8) : V / 2 ^ (i + k) % 2 ^ (8 - k) = V / 2 ^ (i + (k + 1)) % 2 ^ (8 - (k + 1)) * 2 + V / 2 ^ (i + k) % 2 := by
  have e : 8 - k = (8 - (k + 1)) + 1 := by omega
  rw [e, Nat.pow_succ, Nat.mul_comm (2 ^ _) 2, Nat.mod_mul, ← Nat.add_assoc i k 1, Nat.pow_succ, ← Nat.div_div_eq_div_mul]
  omega
theorem bits_above (V m p : Nat) (h : V < 2 ^ m) (hp : m ≤ p) : V / 2 ^ p = 0 := by
  rw [Nat.div_eq_zero_iff]
  exact .inr (Nat.lt_of_lt_of_le h (Nat.pow_le_pow_right (by decide) hp))

theorem str_inj {xs ys : List Int} (hx : Byts xs) (hy : Byts ys) : ((strOfNums xs).toList == (strOfNums ys).toList) = decide (xs = ys) := by
  rw [Bool.eq_iff_iff, beq_iff_eq, decide_eq_true_eq]
  constructor
  · intro h
    have h1 : xs.map (fun n => UInt8.ofNat n.toNat) = ys.map (fun n => UInt8.ofNat n.toNat) := by
      rw [ByteArray.toList_eq, ByteArray.toList_eq, strOfNums_data, strOfNums_data] at h
      exact h
    have inj : ∀ (a b : Int), (0 ≤ a ∧ a < 256) → (0 ≤ b ∧ b < 256) → UInt8.ofNat a.toNat = UInt8.ofNat b.toNat → a = b := by
      intro a b ha hb h
      have := congrArg UInt8.toNat h
      simp at this
      omega
    clear h
    induction xs generalizing ys with
    | nil => cases ys with
      | nil => rfl
      | cons y ys => simp at h1
    | cons x xs ih => cases ys with
      | nil => simp at h1
      | cons y ys =>
        simp only [List.map_cons, List.cons.injEq] at h1
        rw [inj x y hx.cons.1 hy.cons.1 h1.1, ih hx.cons.2 hy.cons.2 h1.2]
  · rintro rfl; rfl

/-- WHAT THE WALK IS TOLD OF A SLICE OF INTEGERS THAT CAME IN: it is nil; or it leads to a row of 'cap' cells, the numbers 'zs' (the first 'len' are its elements, the rest its spare room), each fitting its kind. -/
def IsRow (k : IntKind) (w : World) (a : Option Addr) (len cap : Nat) (zs : List Int) : Prop :=
  (a = none ∧ len = 0 ∧ cap = 0 ∧ zs = []) ∨
  ∃ x, a = some x ∧ len ≤ cap ∧ cap ≤ maxLen ∧ zs.length = cap ∧ (∀ i, i < zs.length → w.cell? (x.add i) = some (.int k (zs.getD i 0))) ∧ ∀ n ∈ zs, (Lit.int k n).wf = true

/-- A slice of integers of any kind, as its first 'len' numbers. -/
theorem row_rw_any {k : IntKind} {w : World} {a : Option Addr} {len cap : Nat} {zs : List Int} (h : IsRow k w a len cap zs) : ∃ xs, xs.length = len ∧ Rw k w (.slice a len cap) xs ∧ ∀ y ∈ xs, (Lit.int k y).wf = true := by
  rcases h with ⟨rfl, rfl, rfl, rfl⟩ | ⟨x, rfl, hl, hm, hz, hcell, hwz⟩
  · exact ⟨[], rfl, ⟨none, 0, rfl, .inl rfl⟩, fun y hy => by cases hy⟩
  · have hlen : (zs.take len).length = len := by rw [List.length_take]; omega
    refine ⟨zs.take len, hlen, ?_, fun y hy => hwz y (List.mem_of_mem_take hy)⟩
    refine ⟨some x, cap, by rw [hlen], ?_⟩
    by_cases h0 : len = 0
    · left; subst h0; simp
    · right
      obtain ⟨b, off, spot⟩ := x
      have hc := hcell 0 (by omega)
      have hspot : spot = none := by simpa [Addr.add] using World.cell?_spot hc
      subst hspot
      refine ⟨b, off, rfl, World.block_lt_of_cell? w _ hc, fun i hi => ?_⟩
      rw [hlen] at hi
      have := hcell i (by omega)
      rw [Addr.add_lit] at this
      rw [this]
      simp [List.getD, hi]
/-- The first 'len' bytes of a slice of bytes. -/
theorem row_rw {w : World} {a : Option Addr} {len cap : Nat} {zs : List Int} (h : IsRow .u8 w a len cap zs) : ∃ xs, xs.length = len ∧ Rw .u8 w (.slice a len cap) xs ∧ Byts xs := by
  obtain ⟨xs, h1, h2, h3⟩ := row_rw_any h
  refine ⟨xs, h1, h2, fun y hy => ?_⟩
  have := h3 y hy
  simp [Lit.wf, IntKind.min, IntKind.max, IntKind.bits, IntKind.signed] at this
  omega

theorem row_cap {k : IntKind} {w : World} {a : Option Addr} {len cap : Nat} {zs : List Int} (h : IsRow k w a len cap zs) : a = none → cap = 0 := by
  intro ha
  subst ha
  rcases h with ⟨_, _, h, _⟩ | ⟨x, hx, _⟩
  · exact h
  · cases hx
theorem u64_nat {a : Int} (h : (Lit.int .u64 a).wf = true) : ∃ V : Nat, a = V ∧ V < 2 ^ 64 := by
  simp [Lit.wf, IntKind.min, IntKind.max, IntKind.bits, IntKind.signed] at h
  exact ⟨a.toNat, by omega, by omega⟩
/-- A slice of integers, as a reading met it. -/
theorem ints_of_trod {H : Type} {enc : TypeId × Value → H} {P : Program} {w : World} {t e : TypeId} {k : IntKind} {fuel : Nat} {c : Value} {x : DataW H × List MemPlace} (ht : P.underlying t = some (.slice e)) (he : P.underlying e = some (.int k)) (hc : P.cellsOf e = 1)
    (h : DataW.trod enc P w 0 (fun _ => true) true fuel t [c] = some x) : ∃ a len cap zs, c = .slice a len cap ∧ IsRow k w a len cap zs := by
  rcases ChangeShapes.open_ints ht he hc h with ⟨hcs, _⟩ | ⟨x, l, c, zs, hcs, _, hl, hm, hz, _, hcell, hwz⟩
  · simp only [List.cons.injEq, and_true] at hcs
    exact ⟨none, 0, 0, [], hcs, .inl ⟨rfl, rfl, rfl, rfl⟩⟩
  · simp only [List.cons.injEq, and_true] at hcs
    exact ⟨some x, l, c, zs, hcs, .inr ⟨x, rfl, hl, hm, by simpa using hz, hcell, hwz⟩⟩
end Go.Proofs.Ytdgacbelpenmmaa
