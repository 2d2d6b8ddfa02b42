/- The contracts of both Puts, at every argument. -/
import Derived.Test.YtdgacbelpenmmaaWl
namespace Go.Proofs.Ytdgacbelpenmmaa
open Go.RowKit
set_option linter.unusedVariables false
set_option linter.unusedSimpArgs false

/-! ### What is put, by the document -/
def putE (xs : List Int) (M : Int) (V : Nat) (n : Int) : Int := if 0 ≤ n ∧ n ≤ 32 ∧ V < 2 ^ n.toNat then (if goodN xs M + n ≤ 32000 then 0 else 3) else 1
def putN (xs : List Int) (M : Int) (V : Nat) (n : Int) : Int := if putE xs M V n = 0 then goodN xs M + n else goodN xs M
def putX (xs : List Int) (M : Int) (V : Nat) (n : Int) : List Int := if putE xs M V n = 0 then byL (bv (goodX xs M) + V * 2 ^ (goodN xs M).toNat) (((goodN xs M).toNat + n.toNat + 7) / 8) else goodX xs M

theorem putX_byts {xs : List Int} (h : Byts xs) (M : Int) (V : Nat) (n : Int) : Byts (putX xs M V n) := by
  unfold putX; split
  · exact byL_byts _ _
  · exact good_byts h M

theorem shr_zero (V m : Nat) : (((V : Int) / 2 ^ m != 0) = false ↔ V < 2 ^ m) := by
  rw [nat_shr]
  have : V / 2 ^ m = 0 ↔ V < 2 ^ m := by rw [Nat.div_eq_zero_iff]; have := Nat.two_pow_pos m; omega
  simp only [bne_eq_false_iff_eq]
  rw [← this]
  omega

theorem put_any (v : Value) (xs : List Int) (M : Int) (V : Nat) (n : Int) (w : World) (hv : Rw .u8 w v xs) (hx : Byts xs) (hV : V < 2 ^ 64) :
    Calls Try.prog 35 #[.agg #[v, .int .i64 M], .int .u64 V, .int .i64 n] w fun e w' => ∃ v', e = .returned (.tuple #[.agg #[v', .int .i64 (putN xs M V n)], .int .i64 (putE xs M V n)]) ∧ RwF w.heap.size .u8 w' v' (putX xs M V n) ∧ Below w.heap.size w w' := by
  have hv0 := hv
  obtain ⟨a, cap, rfl, _⟩ := hv
  by_cases hr : rightB xs M = true
  · have hr' := hr
    unfold rightB at hr'
    rw [decide_eq_true_eq] at hr'
    obtain ⟨N, rfl⟩ := Int.eq_ofNat_of_zero_le hr'.1
    rw [Int.toNat_natCast] at hr'
    have gN : goodN xs N = N := by unfold goodN; rw [if_pos hr]
    have gX : goodX xs N = xs := by unfold goodX; rw [if_pos hr]
    by_cases h1 : 0 ≤ n ∧ n ≤ 32
    · obtain ⟨m, rfl⟩ := Int.eq_ofNat_of_zero_le h1.1
      by_cases h2 : V < 2 ^ m
      · have hs := (shr_zero V m).2 h2
        by_cases h3 : (N : Int) + m ≤ 32000
        · have e : putE xs N V m = 0 := by unfold putE; rw [if_pos ⟨h1.1, h1.2, by simpa using h2⟩, gN, if_pos h3]
          unfold putN putX
          rw [e, if_pos rfl, if_pos rfl, gN, gX]
          refine (put_right_ok a cap xs N w hv0 hx hr (by omega) hr'.2.2.1 V m hV (by omega) hs (by omega) hr'.2.2.2).mono ?_
          rintro e w' ⟨v', cur, rfl, hrw, hb, hcur, hlen, hbv⟩
          refine ⟨v', rfl, ?_, hb⟩
          have := byL_eq hcur hbv
          rw [Nat.mod_eq_of_lt h2, hlen] at this
          rw [this] at hrw
          exact hrw
        · have e : putE xs N V m = 3 := by unfold putE; rw [if_pos ⟨h1.1, h1.2, by simpa using h2⟩, gN, if_neg h3]
          unfold putN putX
          rw [e, if_neg (by decide), if_neg (by decide), gN, gX]
          exact put_right_full a cap xs N w hv0 hx hr (by omega) hr'.2.2.1 V m hV (by omega) hs (by omega)
      · have hs : (((V : Int) / 2 ^ m != 0) = true) := by
          cases hh : ((V : Int) / 2 ^ m != 0)
          · exact absurd ((shr_zero V m).1 hh) h2
          · rfl
        have e : putE xs N V m = 1 := by unfold putE; rw [if_neg (by rintro ⟨_, _, h⟩; exact h2 (by simpa using h))]
        unfold putN putX
        rw [e, if_neg (by decide), if_neg (by decide), gN, gX]
        exact put_right_big a cap xs N w hv0 hx hr (by omega) hr'.2.2.1 V m hV (by omega) hs
    · have e : putE xs N V n = 1 := by unfold putE; rw [if_neg (by omega)]
      unfold putN putX
      rw [e, if_neg (by decide), if_neg (by decide), gN, gX]
      exact put_right_arg a cap xs N w hv0 hx hr (by omega) hr'.2.2.1 V n hV h1
  · have hr : rightB xs M = false := by simpa using hr
    have gN : goodN xs M = 0 := by unfold goodN; rw [hr]; rfl
    have gX : goodX xs M = [] := by unfold goodX; rw [hr]; rfl
    by_cases h1 : 0 ≤ n ∧ n ≤ 32
    · obtain ⟨m, rfl⟩ := Int.eq_ofNat_of_zero_le h1.1
      by_cases h2 : V < 2 ^ m
      · have hs := (shr_zero V m).2 h2
        have e : putE xs M V m = 0 := by unfold putE; rw [if_pos ⟨h1.1, h1.2, by simpa using h2⟩, gN, if_pos (by omega)]
        unfold putN putX
        rw [e, if_pos rfl, if_pos rfl, gN, gX]
        refine (put_wrong_ok a cap xs M w hv0 hx hr V m hV (by omega) hs (by omega) (by unfold Hid; simp [bv])).mono ?_
        rintro e w' ⟨v', cur, rfl, hrw, hb, hcur, hlen, hbv⟩
        refine ⟨v', by simp, ?_, hb⟩
        have := byL_eq hcur hbv
        rw [Nat.mod_eq_of_lt h2, hlen] at this
        rw [this] at hrw
        simpa using hrw
      · have hs : (((V : Int) / 2 ^ m != 0) = true) := by
          cases hh : ((V : Int) / 2 ^ m != 0)
          · exact absurd ((shr_zero V m).1 hh) h2
          · rfl
        have e : putE xs M V m = 1 := by unfold putE; rw [if_neg (by rintro ⟨_, _, h⟩; exact h2 (by simpa using h))]
        unfold putN putX
        rw [e, if_neg (by decide), if_neg (by decide), gN, gX]
        exact put_wrong_big a cap xs M w hv0 hx hr V m hV (by omega) hs
    · have e : putE xs M V n = 1 := by unfold putE; rw [if_neg (by omega)]
      unfold putN putX
      rw [e, if_neg (by decide), if_neg (by decide), gN, gX]
      exact put_wrong_arg a cap xs M w hv0 hx hr V n hV h1
end Go.Proofs.Ytdgacbelpenmmaa
