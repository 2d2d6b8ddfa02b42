/- A decoder: what opens it, the one that stands for it, where a choice lies, what becomes of it by one. The program and the document. -/
import Derived.Test.YtkfpphccpkfenaaCc
namespace Go.Proofs.Ytkfpphccpkfenaa
open Go.RowKit
set_option linter.unusedVariables false
set_option linter.unusedSimpArgs false

/-! ### A decoder, as plain numbers -/
structure De where
  C : Nat
  R : Nat
  A : Nat
  B : List Int
structure De.Ok (d : De) : Prop where
  c : d.C < 4294967296
  r : Rok d.R
  a : d.A < 9223372036854775808
  b : Byts d.B
  l : d.B.length ≤ 5000
def openC (B : List Int) : Nat → Nat
  | 0 => 0
  | k + 1 => openC B k * 256 + bAt B k
theorem openC_lt {B : List Int} (h : Byts B) (k : Nat) : openC B k < 256 ^ k := by
  induction k with
  | zero => simp [openC]
  | succ k ih => have := bAt_lt h k; rw [openC, Nat.pow_succ]; omega
def De.open (B : List Int) : De := ⟨openC B 4, 4294967295, 4, B⟩
theorem De.open_ok {B : List Int} (h : Byts B) (hl : B.length ≤ 5000) : (De.open B).Ok := by
  have := openC_lt h 4
  exact ⟨this, ⟨by show 16777216 ≤ 4294967295; omega, by show 4294967295 ≤ 4294967295; omega⟩, by show 4 < _; omega, h, hl⟩
theorem De.open_nil : De.open [] = ⟨0, 4294967295, 4, []⟩ := by simp [De.open, openC, bAt]
def De.step (d : De) : De := ⟨d.C % 16777216 * 256 + bAt d.B d.A, d.R * 256, aAt d.B d.A, d.B⟩
def De.steps : Nat → De → De
  | 0, d => d
  | k + 1, d => De.steps k d.step
def De.norm (d : De) : De := De.steps (sh d.R) d
theorem De.norm_done (d : De) (h : 16777216 ≤ d.R) : d.norm = d := by
  have : sh d.R = 0 := by unfold sh; rw [if_neg (by omega), if_neg (by omega)]
  unfold De.norm; rw [this]; rfl
theorem sh_step (R : Nat) (h0 : 256 ≤ R) (h : R < 16777216) : sh R = sh (R * 256) + 1 := by
  unfold sh; split
  · rw [if_neg (by omega), if_pos (by omega)]
  · rw [if_neg (by omega), if_neg (by omega)]
theorem De.norm_step (d : De) (h0 : 256 ≤ d.R) (h : d.R < 16777216) : d.norm = d.step.norm := by
  unfold De.norm
  rw [sh_step d.R h0 h]
  rfl
def De.take (d : De) (lo hi tot : Nat) : De := De.norm ⟨d.C - min d.C (ahead d.R lo tot), width d.R lo hi tot, d.A, d.B⟩
/-- What holds of a decoder on the way. -/
structure De.Mid (d : De) : Prop where
  c : d.C < 4294967296
  r0 : 256 ≤ d.R
  r1 : d.R ≤ 4294967295
  a : d.A < 9223372036854775808
  b : Byts d.B
  l : d.B.length ≤ 5000
theorem aAt_lt {B : List Int} {A : Nat} (h : A < 9223372036854775808) (hl : B.length ≤ 5000) : aAt B A < 9223372036854775808 := by unfold aAt; split <;> omega
theorem De.Mid.step {d : De} (h : d.Mid) (hr : d.R < 16777216) : d.step.Mid := by
  have := bAt_lt h.b d.A
  have := h.r0
  exact ⟨by show _ % _ * 256 + _ < _; omega, by show 256 ≤ d.R * 256; omega, by show d.R * 256 ≤ _; omega, aAt_lt h.a h.l, h.b, h.l⟩
theorem De.Mid.done {d : De} (h : d.Mid) (hr : 16777216 ≤ d.R) : d.Ok := ⟨h.c, ⟨hr, h.r1⟩, h.a, h.b, h.l⟩
theorem De.Mid.norm {d : De} (h : d.Mid) : d.norm.Ok := by
  by_cases h1 : 16777216 ≤ d.R
  · rw [De.norm_done d h1]; exact h.done h1
  · rw [De.norm_step d h.r0 (by omega)]
    have m1 := h.step (by omega)
    by_cases h2 : 16777216 ≤ d.step.R
    · rw [De.norm_done _ h2]; exact m1.done h2
    · rw [De.norm_step _ m1.r0 (by omega)]
      have m2 := m1.step (by omega)
      have : 16777216 ≤ d.step.step.R := by show 16777216 ≤ d.R * 256 * 256; have := h.r0; omega
      rw [De.norm_done _ this]; exact m2.done this
theorem De.Ok.mid {d : De} (h : d.Ok) {lo hi tot : Nat} (hf : Fair lo hi tot) : (De.mk (d.C - min d.C (ahead d.R lo tot)) (width d.R lo hi tot) d.A d.B).Mid := by
  have h1 := width_256 h.r hf
  have h2 := ahead_width (R := d.R) hf
  have h3 := h.r.2
  have h4 := h.c
  exact ⟨by show d.C - _ < _; omega, h1, by show width _ _ _ _ ≤ _; omega, h.a, h.b, h.l⟩
theorem De.Ok.take {d : De} (h : d.Ok) {lo hi tot : Nat} (hf : Fair lo hi tot) : (d.take lo hi tot).Ok := (h.mid hf).norm
theorem De.norm_B (d : De) : d.norm.B = d.B := by
  unfold De.norm
  generalize sh d.R = k
  induction k generalizing d with
  | zero => rfl
  | succ k ih => exact ih d.step
theorem De.take_B (d : De) (lo hi tot : Nat) : (d.take lo hi tot).B = d.B := De.norm_B _
def De.get (d : De) (tot : Nat) : Nat := min (d.C / (d.R / tot)) (tot - 1)

/-- The values of a decoder: the program's, the document's. -/
def decV (a : Option Addr) (cap : Nat) (d : De) : Value := .agg #[.int .u64 d.C, .int .u32 d.R, .slice a d.B.length cap, .int .i64 d.A]
def decW (a : Option Addr) (cap : Nat) (d : De) : Value := .agg #[.int .u64 d.C, .int .u64 d.R, .slice a d.B.length cap, .int .i64 d.A]

/-! ### Open -/
def mn (B : List Int) (k : Nat) : Nat := min k B.length
theorem mn_byte (B : List Int) (k : Nat) : bAt B (mn B k) = bAt B k := by
  unfold mn
  by_cases h : k ≤ B.length
  · rw [Nat.min_eq_left h]
  · rw [Nat.min_eq_right (by omega), bAt_past (Nat.le_refl _), bAt_past (by omega)]
theorem mn_next (B : List Int) (k : Nat) : aAt B (mn B k) = mn B (k + 1) := by unfold aAt mn; split <;> omega
theorem openC_small {B : List Int} (hB : Byts B) {k : Nat} (hk : k < 4) : openC B k < 16777216 := by
  have h1 := openC_lt hB k
  have h2 : (256 : Nat) ^ k ≤ 256 ^ 3 := Nat.pow_le_pow_right (by decide) (by omega)
  omega
set_option maxHeartbeats 1000000 in
theorem open_any (a : Option Addr) (cap : Nat) (B : List Int) (w : World) (hv : Rw .u8 w (.slice a B.length cap) B) (hB : Byts B) (hl : B.length ≤ 5000) :
    Calls Try.prog 23 #[.slice a B.length cap] w fun e w' => e = .returned (decV a cap (De.open B)) ∧ Below w.heap.size w w' := by
  unfold decV De.open
  simp only
  go_enter Try.func23, Try.ntmps23
  go_wp2
  go_loopw [6] (fun i wr => ∃ k : Nat, k ≤ 4 ∧ i = .int .i64 k ∧ B4 wr w.heap.size (.int .u64 0) (.int .u32 0) (.slice none 0 0) (.int .i64 0) ∧ B4 wr (w.heap.size + 1) (.int .u64 (openC B k : Nat)) (.int .u32 4294967295) (.slice a B.length cap) (.int .i64 (mn B k : Nat)) ∧ Below w.heap.size w wr) (fun i _ => 4 - (intOf i).toNat)
  case atStart =>
    refine ⟨0, by omega, rfl, (B4.new w _ _ _ _ _).below (below1 _ _), ?_, below2 _ _ _⟩
    have : mn B 0 = 0 := by simp [mn]
    rw [this]
    exact B4.new2 _ _ _ _ _ _ _
  case round =>
    obtain ⟨k, hk, rfl, hr4, hb4, hb⟩ := hrel
    by_cases hlt : k < 4
    · obtain ⟨z, c0, c1, c2, c3, f0, f1, f2, f3⟩ := id hb4
      have hsmall := openC_small hB hlt
      have hcall := nextByte_any (openC B k) 4294967295 (mn B k) a cap B wr (hv.below hb) hB hl (by omega) (by unfold mn; omega)
      rw [mn_byte, mn_next, Nat.mod_eq_of_lt hsmall] at hcall
      have hO : openC B k * 256 + bAt B k = openC B (k + 1) := rfl
      rw [hO] at hcall
      clear hO
      go_wp2_with (go_at_call 41; refine hcall.mono ?_; rintro e w' ⟨rfl, hb1⟩; obtain ⟨z', c0', c1', c2', c3', f0', f1', f2', f3'⟩ := hb4.below hb1)
      go_roundw
      case rel => exact ⟨k + 1, by omega, by go_num, ((((hr4.below hb1).other _ _ _ (by omega)).other _ _ _ (by omega)).other _ _ _ (by omega)).other _ _ _ (by omega), (hb4.below hb1).set _ _ _ _, bset4 (bthen hb hb1 hb.size) _ _ _ _ _ (by omega)⟩
      case measure => simp [intOf]; omega
    · have hk4 : k = 4 := by omega
      subst hk4
      obtain ⟨z, c0, c1, c2, c3, f0, f1, f2, f3⟩ := id hb4
      obtain ⟨rz, r0, r1, r2, r3, p0, p1, p2, p3⟩ := id hr4
      go_wp2
      refine bodyPost_ret (v := .agg #[.int .u64 (openC B 4 : Nat), .int .u32 4294967295, .slice a B.length cap, .int .i64 4]) (by simp [results, Try.results23, go_sem, c0, c1, c2, c3, r0, r1, r2, r3, p0, p1, p2, p3]) rfl ⟨rfl, ?_⟩
      exact bset4 (bset1 hb _ _ _ (by omega)) _ _ _ _ _ (by omega)

/-! ### The document's next, Open -/
theorem rnext_any (a : Option Addr) (cap : Nat) (B : List Int) (A : Nat) (w : World) (hv : Rw .u8 w (.slice a B.length cap) B) (hB : Byts B) (hl : B.length ≤ 5000) (hA : A < 9223372036854775808) :
    Calls Try.prog 50 #[.slice a B.length cap, .int .i64 A] w fun e w' => e = .returned (.tuple #[.int .u64 (bAt B A : Nat), .int .i64 (aAt B A : Nat)]) ∧ w' = w := by
  by_cases h : A < B.length
  · have hA' : aAt B A = A + 1 := by unfold aAt; rw [if_pos h]
    rw [hA', show ((A + 1 : Nat) : Int) = (A : Int) + 1 by omega]
    obtain ⟨b, off, rfl, hb, hcell⟩ := hv.at A h
    rw [bAt_get hB] at hcell
    have hy := bAt_lt hB A
    generalize bAt B A = y at *
    go_enter Try.func50, Try.ntmps50
    go_wp2
    exact bodyPost_ret (v := .tuple #[_, _]) (by simp [results, Try.results50, go_sem]) rfl ⟨rfl, rfl⟩
  · have hA' : aAt B A = A := by unfold aAt; rw [if_neg h]
    rw [hA', bAt_past (by omega)]
    go_enter Try.func50, Try.ntmps50
    go_wp2
    exact bodyPost_ret (v := .tuple #[_, _]) (by simp [results, Try.results50, go_sem]) rfl ⟨rfl, rfl⟩

set_option maxHeartbeats 1000000 in
theorem ropen_any (a : Option Addr) (cap : Nat) (B : List Int) (w : World) (hv : Rw .u8 w (.slice a B.length cap) B) (hB : Byts B) (hl : B.length ≤ 5000) :
    Calls Try.prog 40 #[.slice a B.length cap] w fun e w' => e = .returned (decW a cap (De.open B)) ∧ Below w.heap.size w w' := by
  unfold decW De.open
  simp only
  go_enter Try.func40, Try.ntmps40
  go_wp2
  go_loopw [4, 5] (fun at_ i wr => ∃ k : Nat, k ≤ 4 ∧ i = .int .i64 k ∧ at_ = .int .i64 (mn B k : Nat) ∧ B4 wr w.heap.size (.int .u64 0) (.int .u64 0) (.slice none 0 0) (.int .i64 0) ∧ B4 wr (w.heap.size + 1) (.int .u64 (openC B k : Nat)) (.int .u64 4294967295) (.slice a B.length cap) (.int .i64 4) ∧ Below w.heap.size w wr) (fun _ i _ => 4 - (intOf i).toNat)
  case atStart =>
    refine ⟨0, by omega, rfl, ?_, (B4.new w _ _ _ _ _).below (below1 _ _), B4.new2 _ _ _ _ _ _ _, below2 _ _ _⟩
    have : mn B 0 = 0 := by simp [mn]
    rw [this]; rfl
  case round =>
    obtain ⟨k, hk, rfl, rfl, hr4, hb4, hb⟩ := hrel
    by_cases hlt : k < 4
    · obtain ⟨z, c0, c1, c2, c3, f0, f1, f2, f3⟩ := id hb4
      have hsmall := openC_small hB hlt
      have hb8 := bAt_lt hB k
      have hcall := rnext_any a cap B (mn B k) wr (hv.below hb) hB hl (by unfold mn; omega)
      rw [mn_byte, mn_next] at hcall
      have hO : ((openC B (k + 1) : Nat) : Int) = (openC B k : Int) * 256 + (bAt B k : Int) := by simp [openC]
      have HO : Hid _ := hO
      clear hO
      go_wp2_with (go_at_call 50; refine hcall.mono ?_; rintro e w' ⟨rfl, rfl⟩)
      go_roundw
      case rel => exact ⟨k + 1, by omega, by go_num, rfl, hr4.other _ _ _ (by omega), by rw [HO.out]; exact hb4.set0 _, bset1 hb _ _ _ (by omega)⟩
      case measure => simp [intOf]; omega
    · have hk4 : k = 4 := by omega
      subst hk4
      obtain ⟨z, c0, c1, c2, c3, f0, f1, f2, f3⟩ := id hb4
      obtain ⟨rz, r0, r1, r2, r3, p0, p1, p2, p3⟩ := id hr4
      go_wp2
      refine bodyPost_ret (v := .agg #[.int .u64 (openC B 4 : Nat), .int .u64 4294967295, .slice a B.length cap, .int .i64 4]) (by simp [results, Try.results40, go_sem, c0, c1, c2, c3, r0, r1, r2, r3, p0, p1, p2, p3]) rfl ⟨rfl, ?_⟩
      exact bset4 hb _ _ _ _ _ (by omega)
end Go.Proofs.Ytkfpphccpkfenaa
