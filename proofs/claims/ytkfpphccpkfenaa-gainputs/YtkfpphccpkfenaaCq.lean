/- The document's adding of a number to bytes. -/
import Derived.Test.YtkfpphccpkfenaaCp
import Derived.OneCell
namespace Go.Proofs.Ytkfpphccpkfenaa
open Go.RowKit
set_option linter.unusedVariables false
set_option linter.unusedSimpArgs false

/-- Bytes to which a number was added; what is beyond the first is gone. -/
def added (xs : List Int) (n : Nat) : List Int := beL ((be xs + n) % 256 ^ xs.length) xs.length
theorem added_length (xs : List Int) (n : Nat) : (added xs n).length = xs.length := beL_length _ _
theorem added_of {xs ys : List Int} {n c : Nat} (hx : Byts xs) (hy : Byts ys) (hl : ys.length = xs.length) (h : be ys + c * 256 ^ xs.length = be xs + n) : ys = added xs n := by
  have h1 := be_lt hy
  refine beL_eq hy hl ?_
  rw [← h, Nat.add_mul_mod_self_right, Nat.mod_eq_of_lt (by rw [← hl]; exact h1)]
theorem add_step {ys : List Int} {q c y m D L X : Nat} (hq : q < L) (hL : ys.length = L) (hy : ys.getD q 0 = (y : Int)) (hs : c + y = 256 * D + m) (h : be ys + c * 256 ^ (L - (q + 1)) = X) : be (ys.set q (m : Int)) + D * 256 ^ (L - q) = X := by
  have hset := be_set ys q (m : Int) (by omega)
  rw [hy, hL, show L - 1 - q = L - (q + 1) by omega, Int.toNat_natCast, Int.toNat_natCast] at hset
  have hpow : 256 ^ (L - q) = 256 * 256 ^ (L - (q + 1)) := by rw [show L - q = (L - (q + 1)) + 1 by omega, Nat.pow_succ, Nat.mul_comm]
  rw [hpow]
  generalize 256 ^ (L - (q + 1)) = P at *
  have e1 : (c + y) * P = (256 * D + m) * P := by rw [hs]
  rw [Nat.add_mul, Nat.add_mul] at e1
  have e2 : D * (256 * P) = 256 * D * P := by rw [← Nat.mul_assoc, Nat.mul_comm D 256]
  rw [e2]
  omega

set_option maxRecDepth 10000 in
set_option maxHeartbeats 2000000 in
theorem radd_any (a : Option Addr) (cap n : Nat) (xs : List Int) (w : World) (hv : Rw .i64 w (.slice a xs.length cap) xs) (hx : Byts xs) (h0 : 0 < xs.length) (h1 : xs.length ≤ 5000) (hn : n < 4294967296) :
    Calls Try.prog 47 #[.slice a xs.length cap, .int .u64 n] w fun x w' => ∃ a' cap', x = .returned (.slice a' xs.length cap') ∧ w'.ownsRow w.heap.size 3 1 (.slice a' xs.length cap') xs.length ((added xs n).map (Value.int .i64)) ∧ Below w.heap.size w w' := by
  obtain ⟨i0, hi, hz0, hz1, hz2⟩ := info_parts info3
  have HX : Hid (Byts xs) := hx
  have hsrc : Rw .i64 (w.alloc (.cells #[] 3)) (.slice a xs.length cap) xs := hv.below (below1 w _)
  have hnn : a = none → cap = 0 := by
    obtain ⟨a', cap', he, ha⟩ := hv
    simp only [Value.slice.injEq] at he
    obtain ⟨rfl, _, rfl⟩ := he
    obtain ⟨b, off, rfl, _⟩ := ha.resolve_left (by intro h; subst h; simp at h0)
    intro h; cases h
  have hmx : 0 + xs.length ≤ maxLen := by unfold maxLen; omega
  have hbb0 := below1 w (.cells #[] 3)
  go_enter Try.func47, Try.ntmps47
  go_wp2_with (at_builtin; refine wpList_append_rw rfl _ _ _ rfl w.heap.size 3 i0 (.int .i64 0) 8 Try.underlying27 hi hz0 hz1 hz2 rfl .i64 (.slice (some ⟨w.heap.size, 0, none⟩) 0 0) 0 [] rfl (own_empty (Nat.le_refl _)) a cap xs rfl hsrc hnn hmx (by omega) (by simp) ?_)
  intro v1 w1 hown1 hgrow1
  obtain ⟨a1, cap1, rfl, hc1, hm1, hna⟩ := owns_open hown1
  have hbw1 : Below w.heap.size w w1 := hbb0.grown hgrow1 (by simp) (fun k hk => by simp [Value.ownBlock] at hk; omega)
  clear hgrow1 hsrc hbb0
  go_wp2
  go_loopw [1, 6] (fun nv i wr => ∃ (p c : Nat) (ii : Int) (ys : List Int), p ≤ xs.length ∧ nv = .int .u64 c ∧ i = .int .i64 ii ∧ Hid (ii = (p : Int) - 1) ∧ c < 4294967296 ∧ Byts ys ∧ Hid (ys.length = xs.length) ∧ Hid (be ys + c * 256 ^ (xs.length - p) = be xs + n) ∧ wr.ownsRow w.heap.size 3 1 (.slice a1 xs.length cap1) xs.length (ys.map (Value.int .i64)) ∧ Below w.heap.size w wr) (fun _ i _ => ((intOf i) + 1).toNat)
  case atStart => exact ⟨xs.length, n, _, xs, Nat.le_refl _, rfl, rfl, rfl, hn, HX.out, rfl, by unfold Hid; simp, hown1, hbw1⟩
  case round =>
    clear hown1
    obtain ⟨p, c, ii, ys, hp, rfl, rfl, HI, hc, hy, HY, HB, hown, hbw⟩ := hrel
    by_cases hp0 : p = 0
    · subst hp0
      have hii : ii = -1 := by have := HI.out; simpa using this
      subst hii
      have hfin := added_of (c := c) HX.out hy HY.out (by have := HB.out; simpa using this)
      subst hfin
      go_wp2
      go_ret
      exact ⟨_, _, rfl, hown, hbw⟩
    · obtain ⟨q, rfl⟩ : ∃ q, p = q + 1 := ⟨p - 1, by omega⟩
      have hii : ii = (q : Int) := by have := HI.out; omega
      subst hii
      obtain ⟨g, rfl, hg, hgz, hcell, hfr⟩ := owns_at hown q (by omega)
      obtain ⟨y, hy1, hy2⟩ := byts_nat hy q
      rw [hy1] at hcell
      obtain ⟨m, D, hm, hD, hmD, hm2, hD2⟩ : ∃ m D : Nat, ((c : Int) + (y : Int)).tmod 256 = (m : Int) ∧ ((c : Int) + (y : Int)).tdiv 256 = (D : Int) ∧ c + y = 256 * D + m ∧ m < 256 ∧ D < 4294967296 := by
        refine ⟨(c + y) % 256, (c + y) / 256, ?_, ?_, by omega, by omega, by omega⟩
        · rw [← Int.natCast_add]; rfl
        · rw [← Int.natCast_add]; rfl
      have hnew := add_step (X := be xs + n) (show q < xs.length by omega) HY.out hy1 hmD HB.out
      have HN : Hid (be (ys.set q (m : Int)) + D * 256 ^ (xs.length - q) = be xs + n) := hnew
      have hsetb := hy.set q (y := (m : Int)) (by omega) (by omega)
      have hown2 := owns_set hown q (m : Int)
      clear hy1 hp0 hmD hnew
      have i1 : (0 : Int) ≤ (q : Int) := by omega
      have i2 : (q : Int) < (xs.length : Int) := by omega
      go_wp2
      exact ⟨⟨q, D, _, ys.set q (m : Int), by omega, rfl, rfl, rfl, hD2, hsetb, by unfold Hid; rw [List.length_set]; exact HY.out, HN, hown2, bset1 hbw _ _ _ hg⟩, by simp [intOf]⟩
end Go.Proofs.Ytkfpphccpkfenaa
