/- Contracts: the reader that remembers the first error (get, getBook, head, ended). -/
import Derived.Test.YtdgacbelpenmmaaVc
namespace Go.Proofs.Ytdgacbelpenmmaa
open Go.RowKit
set_option linter.unusedVariables false
set_option linter.unusedSimpArgs false

def rdF (xs : List Int) (q : Nat) : Int := if q ≤ 8 * xs.length then 0 else 4
/-- A reader that has asked for q bits. -/
structure Rd (w : World) (b : Nat) (a : Option Addr) (n cap : Nat) (xs : List Int) (q : Nat) : Prop where
  ex : ∃ p : Int, B3 w b (.slice a n cap) (.int .i64 p) (.int .i64 (rdF xs q)) ∧ (q ≤ 8 * xs.length → p = q)
  row : RwM 0 b .u8 w (.slice a n cap) xs
theorem Rd.below {w w' : World} {b : Nat} {a : Option Addr} {n cap : Nat} {xs : List Int} {q : Nat} (h : Rd w b a n cap xs q) (hb : Below w.heap.size w w') : Rd w' b a n cap xs q := by
  obtain ⟨p, h1, h2⟩ := h.ex
  exact ⟨⟨p, h1.below hb, h2⟩, h.row.below hb⟩
theorem Rd.set {w : World} {b : Nat} {a : Option Addr} {n cap : Nat} {xs : List Int} {q : Nat} (h : Rd w b a n cap xs q) (p o : Nat) (x : Value) (hp : b < p) : Rd (w.setCell ⟨p, o, none⟩ x) b a n cap xs q := by
  obtain ⟨k, h1, h2⟩ := h.ex
  exact ⟨⟨k, h1.other p o x (by omega), h2⟩, h.row.set p o x (.inr (by omega))⟩
theorem getE_gv (xs : List Int) (q n : Nat) (hn : n ≤ 32) : getE xs q n = rdF xs (q + n) := by
  unfold getE rdF
  rw [if_pos ⟨by omega, by omega, by omega⟩]
  by_cases h : q + n ≤ 8 * xs.length
  · rw [if_pos h, if_pos (by omega)]
  · rw [if_neg h, if_neg (by omega)]
theorem getV_gv' (xs : List Int) (p n : Nat) (hn : n ≤ 32) : getV xs p n = ((gv xs p n : Nat) : Int) := by
  unfold getV gv fld
  by_cases h : p + n ≤ 8 * xs.length
  · rw [if_pos ⟨by omega, by omega, by omega, by omega⟩, if_pos h]; simp
  · rw [if_neg (fun k => h (by omega)), if_neg h]; rfl

set_option maxHeartbeats 2000000 in
theorem vget_any (b : Nat) (a : Option Addr) (m cap : Nat) (xs : List Int) (q n : Nat) (w : World) (h : Rd w b a m cap xs q) (hx : Byts xs) (hl : xs.length ≤ 100000) (hn : n ≤ 32) :
    Calls Try.prog 30 #[.pointer (some ⟨b, 0, none⟩), .int .i64 n] w fun e w' => e = .returned (.int .i64 ((gv xs q n : Nat) : Int)) ∧ Rd w' b a m cap xs (q + n) ∧ w.grownBy w' (some b) := by
  obtain ⟨p, hB, hp⟩ := h.ex
  by_cases hq : q ≤ 8 * xs.length
  · have hg := get_any (.slice a m cap) xs q n w h.row.rw hx hl
    obtain rfl := hp hq
    rw [getE_gv xs q n hn, getV_gv' xs q n hn] at hg
    rw [show rdF xs q = 0 from if_pos hq] at hB
    have hlt : gv xs q n < 4294967296 := Nat.lt_of_lt_of_le (gv_lt xs q n) (Nat.pow_le_pow_right (n := 2) (by decide) hn)
    obtain ⟨P, hP⟩ : ∃ P : Int, (if rdF xs (q + n) = 0 then (q : Int) + n else q) = P := ⟨_, rfl⟩
    have HP : Hid (q + n ≤ 8 * xs.length → P = ((q + n : Nat) : Int)) := fun hk => by
      rw [← hP, if_pos (show rdF xs (q + n) = 0 from if_pos hk)]; omega
    rw [hP] at hg
    have hrow := h.row
    obtain ⟨Z, hZ⟩ : ∃ Z : Int, ((gv xs q n : Nat) : Int) = Z := ⟨_, rfl⟩
    rw [hZ] at hg ⊢
    have z0 : 0 ≤ Z := by omega
    have z1 : Z < 4294967296 := by omega
    clear hP hp hq h hlt hZ hl
    have HRD : Hid (∀ w', B3 w' b (.slice a m cap) (.int .i64 P) (.int .i64 (rdF xs (q + n))) → RwM 0 b .u8 w' (.slice a m cap) xs → Rd w' b a m cap xs (q + n)) := fun w' h1 h2 => ⟨⟨P, h1, HP.out⟩, h2⟩
    clear HP
    generalize rdF xs (q + n) = E at *
    obtain ⟨N, hN⟩ : ∃ N : Int, (n : Int) = N := ⟨_, rfl⟩
    rw [hN] at hg ⊢
    clear hN hn
    obtain ⟨S, hS⟩ : ∃ S : Int, (q : Int) = S := ⟨_, rfl⟩
    rw [hS] at hg hB
    clear hS
    obtain ⟨bz, c0, c1, c2, f0, f1, f2⟩ := id hB
    go_enter Try.func30, Try.ntmps30
    go_wp2_with (go_at_call 36; refine hg.mono ?_; rintro e y1 ⟨rfl, hy1⟩; have hB1 := hB.below hy1; obtain ⟨bz', c0', c1', c2', f0', f1', f2'⟩ := id hB1)
    go_ret
    have hz := hB.z
    exact ⟨rfl, HRD.out _ (hB1.set (.slice a m cap) (.int .i64 P) (.int .i64 E)) ((((hrow.below hy1).set b 0 (.slice a m cap) (.inr (Nat.le_refl _))).set b 1 (.int .i64 P) (.inr (Nat.le_refl _))).set b 2 (.int .i64 E) (.inr (Nat.le_refl _))), grown_set (grown_set (grown_set (grown_below hy1 b) b 0 (.inr rfl) (.slice a m cap)) b 1 (.inr rfl) (.int .i64 P)) b 2 (.inr rfl) (.int .i64 E)⟩
  · have e0 : gv xs q n = 0 := by unfold gv; rw [if_neg (by omega)]
    have e1 : rdF xs q = 4 := if_neg hq
    have HRD : Hid (Rd w b a m cap xs (q + n)) := ⟨⟨p, by rw [show rdF xs (q + n) = rdF xs q by rw [e1]; exact if_neg (by omega)]; exact hB, fun k => absurd k (by omega)⟩, h.row⟩
    rw [e0]
    rw [e1] at hB
    obtain ⟨bz, c0, c1, c2, f0, f1, f2⟩ := id hB
    clear hp e0 e1 hq h hl hn hB
    go_enter Try.func30, Try.ntmps30
    go_wp2
    go_ret
    exact ⟨rfl, HRD.out, World.grownBy.refl w _⟩

set_option maxHeartbeats 2000000 in
theorem getbook_any (b : Nat) (a : Option Addr) (n cap : Nat) (xs : List Int) (q m : Nat) (w : World) (h : Rd w b a n cap xs q) (hx : Byts xs) (hl : xs.length ≤ 100000) (hm : m ≤ 100) :
    Calls Try.prog 37 #[.pointer (some ⟨b, 0, none⟩), .int .i64 m] w fun e w' => ∃ g, e = .returned (.slice (some ⟨g, 0, none⟩) m m) ∧ Blk .i64 3 w' g (tab m fun s => ((gv xs (q + 5 * s) 5 : Nat) : Int)) ∧ w.heap.size ≤ g ∧ Rd w' b a n cap xs (q + 5 * m) ∧ w.grownBy w' (some b) := by
  obtain ⟨i0, hi, hz0, hz1, hz2⟩ := info_parts info3
  have hbz : b < w.heap.size := by obtain ⟨p, hB, _⟩ := h.ex; exact hB.z
  go_enter Try.func37, Try.ntmps37
  go_wp2_with (at_make; refine wpList_make_full _ rfl _ _ 22 rfl w.heap.size 3 i0 (.int .i64 0) 1 Try.underlying22 hi hz0 hz1 .i64 .i64 _ _ m rfl rfl (by omega) (by omega) (by rw [hz2]; omega) (by unfold maxLen; omega) (by simp) ?_)
  intro w1 hown1 hgrow1
  have hb1 := grown_of_none hgrow1
  have hblk : Blk .i64 3 w1 w.heap.size (tab m fun _ => 0) := Blk.made hown1
  have HR0 := hid (h.below hb1)
  have HB0 := hid hblk
  have HG0 := hid (grown_below hb1 b)
  clear hown1 hgrow1 hb1 hblk h
  go_wp2
  go_loopw [11] (fun p wr => ∃ k : Nat, k ≤ m ∧ p = .int .i64 k ∧ Hid (Blk .i64 3 wr w.heap.size (tab m fun s => if s < k then ((gv xs (q + 5 * s) 5 : Nat) : Int) else 0)) ∧ Hid (Rd wr b a n cap xs (q + 5 * k)) ∧ Hid (w.grownBy wr (some b))) (fun p _ => m - (intOf p).toNat)
  case atStart => exact ⟨0, by omega, rfl, by unfold Hid; simpa using HB0.out, HR0, HG0⟩
  case round =>
    clear HR0 HB0 HG0
    obtain ⟨k, hk, rfl, HB, HR, HG⟩ := hrel
    obtain ⟨W1, rfl⟩ : ∃ x, x = wr := ⟨wr, rfl⟩
    by_cases hlt : k < m
    · have hg := vget_any b a n cap xs (q + 5 * k) 5 W1 HR.out hx hl (by omega)
      rw [show q + 5 * k + 5 = q + 5 * (k + 1) by omega] at hg
      have e : (tab m fun s => if s < k then ((gv xs (q + 5 * s) 5 : Nat) : Int) else 0).set k ((gv xs (q + 5 * k) 5 : Nat) : Int) = (tab m fun s => if s < k + 1 then ((gv xs (q + 5 * s) 5 : Nat) : Int) else 0) := by
        rw [tab_set _ _ _ _ hlt]
        refine tab_congr fun i hi => ?_
        by_cases h1 : i = k
        · subst h1; rw [if_pos rfl, if_pos (by omega)]
        · rw [if_neg h1]
          by_cases h2 : i < k
          · have h3 : i < k + 1 := by omega
            rw [if_pos h2, if_pos h3]
          · have h3 : ¬ i < k + 1 := by omega
            rw [if_neg h2, if_neg h3]
      have HS : Hid (∀ y, Blk .i64 3 y w.heap.size (tab m fun s => if s < k then ((gv xs (q + 5 * s) 5 : Nat) : Int) else 0) → Blk .i64 3 (y.setCell ⟨w.heap.size, k, none⟩ (.int .i64 ((gv xs (q + 5 * k) 5 : Nat) : Int))) w.heap.size (tab m fun s => if s < k + 1 then ((gv xs (q + 5 * s) 5 : Nat) : Int) else 0)) := fun y hy => by
        rw [← e]; exact hy.set k _
      clear e
      generalize ((gv xs (q + 5 * k) 5 : Nat) : Int) = x at *
      have i1 : (0 : Int) ≤ (k : Int) := by omega
      have i2 : (k : Int) < (m : Int) := by omega
      have i3 : IntKind.i64.wrap (k : Int) = k := wraps_i64 _ (by omega) (by omega)
      go_wp2_with (go_at_call 30; refine hg.mono ?_; rintro e y1 ⟨rfl, hr1, hg1⟩; have hB1 := HB.out.kept hg1 (by omega); have hz1 := hB1.lt; have hc := hB1.cell k (by rw [tab_len]; exact hlt); have hf := hB1.free k (by rw [tab_len]; exact hlt))
      exact ⟨⟨k + 1, by omega, by go_num, HS.out _ hB1, hr1.set _ _ _ hbz, grown_set (grown_trans HG.out hg1) _ _ (.inl (Nat.le_refl _)) _⟩, by simp [intOf]; omega⟩
    · obtain rfl : k = m := by omega
      have e : (tab k fun s => if s < k then ((gv xs (q + 5 * s) 5 : Nat) : Int) else 0) = tab k fun s => ((gv xs (q + 5 * s) 5 : Nat) : Int) := tab_congr fun i hi => by rw [if_pos hi]
      rw [e] at HB
      clear hlt e
      go_wp2
      go_ret
      exact ⟨w.heap.size, rfl, HB.out, Nat.le_refl _, HR.out, HG.out⟩
end Go.Proofs.Ytdgacbelpenmmaa
