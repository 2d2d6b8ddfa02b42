/- What is carried goes back through the bytes. -/
import Derived.Test.YtkfpphccpkfenaaCi
import Derived.WalkMore
namespace Go.Proofs.Ytkfpphccpkfenaa
open Go.RowKit
set_option linter.unusedVariables false
set_option linter.unusedSimpArgs false

/-- What a carried one makes of bytes. -/
def carried (xs : List Int) : List Int := beL ((be xs + 1) % 256 ^ xs.length) xs.length
theorem carried_length (xs : List Int) : (carried xs).length = xs.length := beL_length _ _
theorem carried_be (xs : List Int) : be (carried xs) = (be xs + 1) % 256 ^ xs.length := by unfold carried; rw [be_beL, Nat.mod_mod]
theorem carried_byts (xs : List Int) : Byts (carried xs) := beL_byts _ _
theorem carried_hit {xs ys : List Int} (hy : Byts ys) (hl : ys.length = xs.length) (h : be ys = be xs + 1) : ys = carried xs := by
  have := be_lt hy
  refine beL_eq hy hl ?_
  rw [Nat.mod_eq_of_lt (by rw [← h, ← hl]; exact this), h]
theorem carried_gone {xs ys : List Int} (hx : Byts xs) (hy : Byts ys) (hl : ys.length = xs.length) (h : be ys + 256 ^ xs.length = be xs + 1) : ys = carried xs := by
  have h1 := be_lt hx
  have h2 : be ys = 0 := by omega
  refine beL_eq hy hl ?_
  rw [← h, h2]
  simp

set_option maxRecDepth 10000 in
set_option maxHeartbeats 2000000 in
theorem carry_any (a : Option Addr) (n cap : Nat) (xs : List Int) (base : Nat) (w : World) (h : w.ownsRow base 5 1 (.slice a n cap) n (xs.map (Value.int .u8))) (hx : Byts xs) (hn : n ≤ 4000) :
    Calls Try.prog 54 #[.slice a n cap] w fun e w' => (∃ v, e = .returned v) ∧ w'.ownsRow base 5 1 (.slice a n cap) n ((carried xs).map (Value.int .u8)) ∧ Below base w w' := by
  have hl : xs.length = n := by have := h.1; simpa using this
  have HL : Hid (xs.length = n) := hl
  clear hl
  go_enter Try.func54, Try.ntmps54
  go_wp2
  go_step3
  go_wp2
  go_step3
  go_wp2
  go_loopw [2] (fun i wr => ∃ (p : Nat) (ii : Int) (ys : List Int), p ≤ n ∧ i = .int .i64 ii ∧ Hid (ii = (p : Int) - 1) ∧ Byts ys ∧ Hid (ys.length = n) ∧ Hid (be ys + 256 ^ (n - p) = be xs + 1) ∧ wr.ownsRow base 5 1 (.slice a n cap) n (ys.map (Value.int .u8)) ∧ Below base w wr) (fun i _ => ((intOf i) + 1).toNat)
  case atStart => exact ⟨n, _, xs, Nat.le_refl _, rfl, rfl, hx, HL.out, by unfold Hid; simp, h, Below.refl _ _⟩
  case round =>
    obtain ⟨p, ii, ys, hp, rfl, HI, hy, HY, HB, hown, hbw⟩ := hrel
    by_cases hp0 : p = 0
    · subst hp0
      have hii : ii = -1 := by have := HI.out; simpa using this
      subst hii
      have hfin := carried_gone hx hy (HY.out.trans HL.out.symm) (by rw [HL.out]; have := HB.out; simpa using this)
      subst hfin
      go_wp2
      rw [Exit.noGoto_normal]
      exact bodyPost_end (v := .tuple #[]) (by simp [results, Try.results54, go_sem]) rfl ⟨⟨_, rfl⟩, hown, hbw⟩
    · obtain ⟨q, rfl⟩ : ∃ q, p = q + 1 := ⟨p - 1, by omega⟩
      have hii : ii = (q : Int) := by have := HI.out; omega
      subst hii
      obtain ⟨g, rfl, hg, hgz, hcell, hfr⟩ := owns_at hown q (by omega)
      obtain ⟨y, hy1, hy2⟩ := byts_nat hy q
      rw [hy1] at hcell
      have HG : Hid (ys.getD q 0 = (y : Int)) := hy1
      clear hy1 hp0
      by_cases h255 : y = 255
      · subst h255
        go_wp2
        have hq : q < ys.length := by rw [HY.out]; omega
        have hset := be_set ys q 0 hq
        rw [HG.out, HY.out, show n - 1 - q = n - (q + 1) by omega] at hset
        have hpow : 256 ^ (n - q) = 256 * 256 ^ (n - (q + 1)) := by rw [show n - q = (n - (q + 1)) + 1 by omega, Nat.pow_succ, Nat.mul_comm]
        have hsum := HB.out
        refine ⟨⟨q, _, ys.set q 0, by omega, rfl, rfl, hy.set q (by omega) (by omega), by unfold Hid; rw [List.length_set]; exact HY.out, ?_, owns_set hown q 0, bset1 hbw _ _ _ hg⟩, by simp [intOf]⟩
        unfold Hid
        rw [hpow]
        have e255 : ((255 : Nat) : Int).toNat = 255 := by decide
        rw [e255] at hset
        simp at hset
        omega
      · have hb255 : ((y : Int) == 255) = false := by simp; omega
        go_wp2
        rw [Exit.noGoto_normal]
        have hq : q < ys.length := by rw [HY.out]; omega
        have hset := be_set ys q ((y : Int) + 1) hq
        rw [HG.out, HY.out, show n - 1 - q = n - (q + 1) by omega, show ((y : Int) + 1).toNat = y + 1 by omega, Nat.add_mul, Nat.one_mul, Int.toNat_natCast] at hset
        have hsum := HB.out
        have hfin := carried_hit (xs := xs) (hy.set q (y := (y : Int) + 1) (by omega) (by omega)) (by rw [List.length_set, HY.out, HL.out]) (by omega)
        have hown2 := owns_set hown q ((y : Int) + 1)
        rw [hfin] at hown2
        exact bodyPost_end (v := .tuple #[]) (by simp [results, Try.results54, go_sem]) rfl ⟨⟨_, rfl⟩, hown2, bset1 hbw _ _ _ hg⟩
end Go.Proofs.Ytkfpphccpkfenaa
