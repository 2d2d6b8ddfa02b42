/- Contracts of the small functions of package bits: they return what is said, at every argument within the bounds that are said. -/
import Derived.Test.YtolfnjlkcppplaaZa
import Derived.Test.YtolfnjlkcppplaaRows
import Derived.Laws.CopyOwn
import Derived.Deep.RegionHeld3
namespace Go.Proofs.Ytolfnjlkcppplaa
open Go.RowKit
set_option linter.unusedVariables false
set_option linter.unusedSimpArgs false
set_option maxRecDepth 10000

theorem bytesFor_any (n : Int) (w : World) (h0 : 0 ≤ n) (h1 : n ≤ 1000000) :
    Calls Try.prog 70 #[.int .i64 n] w fun e w' => e = .returned (.int .i64 ((n + 7) / 8)) ∧ w' = w := by
  go_enter Try.func70, Try.ntmps70
  go_wp2
  go_ret
  exact ⟨rfl, rfl⟩

theorem widthFits_any (n : Int) (w : World) :
    Calls Try.prog 61 #[.int .i64 n] w fun e w' => e = .returned (.bool (decide (0 ≤ n ∧ n ≤ 32))) ∧ w' = w := by
  by_cases h0 : 0 ≤ n
  · go_enter Try.func61, Try.ntmps61
    go_wp2
    go_ret
    exact ⟨by simp [h0], rfl⟩
  · go_enter Try.func61, Try.ntmps61
    go_wp2
    go_ret
    exact ⟨by simp; omega, rfl⟩

theorem left_any (a : Option Addr) (len cap : Nat) (at_ : Int) (w : World) (hl : len ≤ 100000) :
    Calls Try.prog 54 #[.agg #[.slice a len cap, .int .i64 at_]] w fun e w' => e = .returned (.int .i64 (if 0 ≤ at_ ∧ at_ ≤ 8 * len then 8 * len - at_ else 0)) ∧ Below w.heap.size w w' := by
  by_cases h0 : 0 ≤ at_
  · by_cases h1 : at_ ≤ 8 * len
    · rw [if_pos ⟨h0, h1⟩]
      go_enter Try.func54, Try.ntmps54
      go_wp2
      go_ret
      exact ⟨rfl, (Below.refl _ _).alloc (Nat.le_refl _) _⟩
    · rw [if_neg (by omega)]
      go_enter Try.func54, Try.ntmps54
      go_wp2
      go_ret
      exact ⟨rfl, (Below.refl _ _).alloc (Nat.le_refl _) _⟩
  · rw [if_neg (by omega)]
    go_enter Try.func54, Try.ntmps54
    go_wp2
    go_ret
    exact ⟨rfl, (Below.refl _ _).alloc (Nat.le_refl _) _⟩
end Go.Proofs.Ytolfnjlkcppplaa
/- The contract of bits.Get where bits are read. -/
namespace Go.Proofs.Ytolfnjlkcppplaa
open Go.RowKit
set_option linter.unusedVariables false
set_option linter.unusedSimpArgs false
set_option maxRecDepth 10000

theorem get_step (V p k : Nat) (x : Int) (h0 : 0 ≤ x) (h1 : x < 256) (hk : k < 32) (hb : V / 2 ^ (p + k) % 2 = x.toNat / 2 ^ ((p + k) % 8) % 2) :
    bits .or .u64 ((V : Int) / 2 ^ p % 2 ^ k) (IntKind.u64.wrap (IntKind.u64.wrap (bits .and .u8 (x / 2 ^ ((p + k) % 8)) 1) * 2 ^ k)) = ((V / 2 ^ p % 2 ^ (k + 1) : Nat) : Int) := by
  obtain ⟨X, rfl⟩ := Int.eq_ofNat_of_zero_le h0
  rw [Int.toNat_natCast] at hb
  have hd : X / 2 ^ ((p + k) % 8) ≤ X := Nat.div_le_self _ _
  have hm := mod_two_pow_succ (V / 2 ^ p) k
  rw [Nat.div_div_eq_div_mul, ← Nat.pow_add] at hm
  rw [hm]
  rw [nat_shr, nat_shr, nat_mod2]
  generalize X / 2 ^ ((p + k) % 8) = Y at hd hb
  rw [and1_u8 _ (by omega) (by omega)]
  have hbit : V / 2 ^ (p + k) % 2 < 2 := Nat.mod_lt _ (by decide)
  have e : ((Y : Int) % 2) = ((Y % 2 : Nat) : Int) := by simp
  rw [e, ← hb]
  generalize V / 2 ^ (p + k) % 2 = b at hbit
  have hlt : V / 2 ^ p % 2 ^ k < 2 ^ k := Nat.mod_lt _ (Nat.two_pow_pos k)
  generalize V / 2 ^ p % 2 ^ k = y at hlt
  have hkp : (2 : Nat) ^ k ≤ 2 ^ 31 := Nat.pow_le_pow_right (by decide) (by omega)
  have hmul := bit_mul b k 31 hbit (by omega)
  rw [nat_u64 b (by omega), nat_shl, nat_u64 _ (by omega), nat_or_low y b k hlt (by omega) (by omega)]

set_option maxHeartbeats 400000 in
theorem get_ok (b off len cap p n : Nat) (xs : List Int) (w : World) (hlen : xs.length = len) (hl1 : len ≤ 100000) (h1 : n ≤ 32) (ha1 : p + n ≤ 8 * len)
   (hb : b < w.heap.size) (hc : ∀ i, i < len → w.cell? ⟨b, off + i, none⟩ = some (.int .u8 (xs.getD i 0))) (hx : Byts xs) :
    Calls Try.prog 51 #[.agg #[.slice (some ⟨b, off, none⟩) len cap, .int .i64 p], .int .i64 n] w fun e w' => e = .returned (.tuple #[.agg #[.slice (some ⟨b, off, none⟩) len cap, .int .i64 (p + n)], .int .u64 ((bv xs / 2 ^ p) % 2 ^ n : Nat), .int .i64 0]) ∧ Below w.heap.size w w' := by
  go_enter Try.func51, Try.ntmps51
  go_wp2_with (first | (go_at_call 61; refine (widthFits_any _ _).mono ?_; rintro e w' ⟨rfl, rfl⟩; rw [decide_eq_true (show (0 : Int) ≤ n ∧ (n : Int) ≤ 32 by omega)]) | (go_at_call 54; refine (left_any _ _ _ _ _ (by omega)).mono ?_; rintro e w' ⟨rfl, hb1⟩))
  obtain ⟨hc1, hf1⟩ := bcell hb1
  have hcx : ∀ i, i < len → w'.cell? ⟨b, off + i, none⟩ = some (.int .u8 (xs.getD i 0)) := by
    intro i hi
    rw [hc1 _ _ (by simp; omega), ← hc i hi]
    simp [hb, Nat.ne_of_lt, go_sem]
  clear hc
  go_loop [7, 34] (fun v i => ∃ k : Nat, k ≤ n ∧ i = .int .i64 k ∧ v = .int .u64 ((bv xs / 2 ^ p) % 2 ^ k : Nat)) (fun _ i => (n - intOf i).toNat)
  case atStart => exact ⟨0, by omega, rfl, by simp [Nat.mod_one]⟩
  case round =>
    obtain ⟨k, hk, rfl, rfl⟩ := hrel
    by_cases hlt : k < n
    · have g := hcx ((p + k) / 8) (by omega)
      have hx1 := hx.getD ((p + k) / 8)
      have hbit : Hid _ := bv_bit hx (p + k)
      generalize xs.getD ((p + k) / 8) 0 = x at g hx1 hbit
      clear hcx
      go_wp2
      go_round
      case rel => 
        refine ⟨k + 1, by omega, by go_num, ?_⟩
        rw [get_step _ _ _ _ hx1.1 hx1.2 (by omega) hbit.out]
      case measure => simp [intOf]; omega
    · have hge : n ≤ k := by omega
      clear hlt
      go_wp2
      have hkn : k = n := by omega
      subst hkn
      have hz : w.heap.size + 1 < w'.heap.size := by have := hb1.size; simp at this; omega
      refine bodyPost_ret (v := .tuple #[.agg #[.slice (some ⟨b, off, none⟩) len cap, .int .i64 (p + k)], .int .u64 ((bv xs / 2 ^ p) % 2 ^ k : Nat), .int .i64 0]) (by simp [results, Try.results51, go_sem, hc1]) rfl ⟨by simp, ?_⟩
      exact (((((Below.refl _ _).alloc (Nat.le_refl _) _).alloc (by simp) _).trans (hb1.mono (by simp; omega))).setCell (by simp) _).setCell (by simp) _
end Go.Proofs.Ytolfnjlkcppplaa
/- The contract of the document function Bits: the bits of the bytes, in new memory. -/
namespace Go.Proofs.Ytolfnjlkcppplaa
open Go.RowKit
set_option linter.unusedVariables false
set_option linter.unusedSimpArgs false
set_option maxRecDepth 10000
theorem info3 : (Try.prog.info? 3).map (fun i => (i.zero, i.size, i.bytes)) = some (some (.int .i64 0), 1, 8) := by kernel_rfl
theorem info5 : (Try.prog.info? 5).map (fun i => (i.zero, i.size, i.bytes)) = some (some (.int .u8 0), 1, 1) := by kernel_rfl

theorem half_step (x : Int) (q : Nat) : Hid (x / 2 ^ q / 2 = x / 2 ^ (q + 1)) := by
  unfold Hid
  rw [Int.pow_succ, Int.ediv_ediv_of_nonneg (Int.le_of_lt (Int.pow_pos (by decide)))]

theorem bits_digit {xs : List Int} (hx : Byts xs) (j q : Nat) (x y : Int) (hq : q < 8) (he : xs.getD j 0 = x) (h0 : 0 ≤ x) (hy : y = x / 2 ^ q) : bitAt (bv xs) (8 * j + q) = y % 2 := by
  unfold bitAt
  rw [bv_bit hx, show (8 * j + q) / 8 = j by omega, show (8 * j + q) % 8 = q by omega, he, hy]
  obtain ⟨X, rfl⟩ := Int.eq_ofNat_of_zero_le h0
  simp

set_option maxHeartbeats 1000000 in
theorem bits_any (v : Value) (xs : List Int) (w : World) (hv : Rw .u8 w v xs) (hx : Byts xs) (hl : xs.length ≤ 100000) :
    Calls Try.prog 38 #[v] w fun e w' => ∃ v', e = .returned v' ∧ w'.ownsRow w.heap.size 3 1 v' (8 * xs.length) ((bl (bv xs) (8 * xs.length)).map (Value.int .i64)) ∧ Below w.heap.size w w' := by
  obtain ⟨a, cap, rfl, ha⟩ := hv
  obtain ⟨i0, hi, hz0, hz1, hz2⟩ := info_parts info3
  go_enter Try.func38, Try.ntmps38
  go_wp2
  go_loopw [3, 4] (fun v i wr => ∃ j : Nat, j ≤ xs.length ∧ i = .int .i64 j ∧ wr.ownsRow w.heap.size 3 1 v (8 * j) ((bl (bv xs) (8 * j)).map (Value.int .i64)) ∧ Below w.heap.size w wr) (fun _ i _ => xs.length - (intOf i).toNat)
  case atStart => exact ⟨0, by omega, rfl, World.ownsRow_nil _ _ _ _, Below.refl _ _⟩
  case round =>
    obtain ⟨j, hj, rfl, hown, hnx⟩ := hrel
    by_cases hlt : j < xs.length
    · have hne : xs ≠ [] := by intro h; subst h; simp at hlt
      obtain ⟨b, off, rfl, hb, hc⟩ := ha.resolve_left hne
      have g := (hnx.cell (p := ⟨b, off + j, none⟩) hb).trans (hc j hlt)
      have hx1 := hx.getD j
      generalize hxe : xs.getD j 0 = x at g hx1
      have HX : Hid _ := hxe
      clear hxe hc
      clear ha
      go_wp2
      go_loopw [3, 5, 6] (fun v n k wr => ∃ q : Nat, ∃ y : Int, q ≤ 8 ∧ k = .int .i64 q ∧ n = .int .i64 y ∧ 0 ≤ y ∧ y < 256 ∧ Hid (y = x / 2 ^ q) ∧ wr.ownsRow w.heap.size 3 1 v (8 * j + q) ((bl (bv xs) (8 * j + q)).map (Value.int .i64)) ∧ Below w.heap.size w wr) (fun _ _ k _ => 8 - (intOf k).toNat)
      case atStart => exact ⟨0, x, by omega, rfl, rfl, hx1.1, hx1.2, by unfold Hid; simp, by simpa using hown, hnx⟩
      case round =>
        obtain ⟨q, y, hq, rfl, rfl, hy0, hy1, HY, hown2, hnx2⟩ := hrel
        clear hown
        by_cases hq8 : q < 8
        · go_wp2_with (at_builtin; refine wpList_append_own _ rfl _ _ 22 rfl w.heap.size 3 i0 (.int .i64 0) 1 8 Try.underlying22 hi hz0 hz1 hz2 rfl (by decide) _ _ _ rfl (hown2.alloc _) ⟨_, 0, none⟩ 1 1 [_] rfl rfl (cell_one_new _ _ _) ?c2 ?c3 ?c4 ?c5 ?_)
          case c2 => intro u hu; simp at hu; subst hu; rfl
          case c3 => unfold maxLen; omega
          case c4 => omega
          case c5 => have := hnx2.size; simp; omega
          intro v' w1 hown' hgrow _
          have hb1 := (hnx2.alloc hnx2.size (Obj.cells #[Value.int IntKind.i64 (y % 2)] 3)).grown hgrow (by have := hnx2.size; simp; omega) (fun k hk => (hown2.lt k hk).1)
          have hown3 : w1.ownsRow w.heap.size 3 1 v' (8 * j + (q + 1)) ((bl (bv xs) (8 * j + (q + 1))).map (Value.int .i64)) := by
            rw [← Nat.add_assoc, bl_succ, List.map_append]
            rw [show (List.map (Value.int IntKind.i64) [bitAt (bv xs) (8 * j + q)]) = [Value.int .i64 (y % 2)] by rw [bits_digit hx j q x y hq8 HX.out hx1.1 HY.out]; rfl]
            exact hown'
          clear hown' hgrow hown2 hnx2
          go_wp2
          go_roundw
          case rel => exact ⟨q + 1, _, by omega, by go_num, rfl, by omega, by omega, by rw [HY.out]; exact half_step x q, hown3, hb1⟩
          case measure => simp [intOf]; omega
        · have hge : 8 ≤ q := by omega
          clear hq8
          go_wp2
          have : q = 8 := by omega
          subst this
          go_roundw
          case rel => exact ⟨j + 1, by omega, by go_num, by simpa [Nat.mul_add] using hown2, hnx2⟩
          case measure => simp [intOf]; omega
    · have hge : xs.length ≤ j := by omega
      clear hlt
      go_wp2
      have : j = xs.length := by omega
      subst this
      go_ret
      exact ⟨_, rfl, hown, hnx⟩
end Go.Proofs.Ytolfnjlkcppplaa
/- The contract of the document function Bytes: the bytes of the bits, in new memory. -/
namespace Go.Proofs.Ytolfnjlkcppplaa
open Go.RowKit
set_option linter.unusedVariables false
set_option linter.unusedSimpArgs false
set_option maxRecDepth 10000

theorem up_bit (V i k m : Nat) (n x : Int) (hk : k < 8) (hn : n = ((V / 2 ^ (i + (k + 1)) % 2 ^ (8 - (k + 1)) : Nat) : Int)) (hx : bitAt V (i + k) = x) : Hid (n * 2 + x = ((V / 2 ^ (i + k) % 2 ^ (8 - k) : Nat) : Int)) := by
  unfold Hid
  rw [bits_up V i k hk, hn, ← hx]; unfold bitAt; omega
theorem up_none (V i k m : Nat) (n : Int) (hk : k < 8) (hn : n = ((V / 2 ^ (i + (k + 1)) % 2 ^ (8 - (k + 1)) : Nat) : Int)) (h : V < 2 ^ m) (hm : m ≤ i + k) : Hid (n * 2 = ((V / 2 ^ (i + k) % 2 ^ (8 - k) : Nat) : Int)) := by
  unfold Hid
  rw [bits_up V i k hk, hn, bits_above V m (i + k) h hm]; omega
theorem up_lt (V p k : Nat) (hk : k ≤ 8) (n : Int) (hn : n = ((V / 2 ^ p % 2 ^ (8 - k) : Nat) : Int)) : 0 ≤ n ∧ n < 256 := by
  have h1 : V / 2 ^ p % 2 ^ (8 - k) < 2 ^ (8 - k) := Nat.mod_lt _ (Nat.two_pow_pos _)
  have h2 : 2 ^ (8 - k) ≤ 2 ^ 8 := Nat.pow_le_pow_right (by decide) (by omega)
  omega

set_option maxHeartbeats 1000000 in
theorem bytes_any (v : Value) (V m : Nat) (w : World) (hv : Rw .i64 w v (bl V m)) (hV : V < 2 ^ m) (hm : m ≤ 1000000) :
    Calls Try.prog 31 #[v] w fun e w' => ∃ v', e = .returned v' ∧ w'.ownsRow w.heap.size 5 1 v' ((m + 7) / 8) ((byL V ((m + 7) / 8)).map (Value.int .u8)) ∧ Below w.heap.size w w' := by
  obtain ⟨a, cap, rfl, ha⟩ := hv
  rw [bl_length] at *
  obtain ⟨i0, hi, hz0, hz1, hz2⟩ := info_parts info5
  go_enter Try.func31, Try.ntmps31
  go_wp2
  go_loopw [3, 4] (fun v i wr => ∃ j : Nat, j ≤ (m + 7) / 8 ∧ i = .int .i64 ((8 * j : Nat) : Int) ∧ wr.ownsRow w.heap.size 5 1 v j ((byL V j).map (Value.int .u8)) ∧ Below w.heap.size w wr) (fun _ i _ => m + 8 - (intOf i).toNat)
  case atStart => exact ⟨0, by omega, rfl, World.ownsRow_nil _ _ _ _, Below.refl _ _⟩
  case round =>
    obtain ⟨j, hj, rfl, hown, hnx⟩ := hrel
    by_cases hlt : 8 * j < m
    · have hne : bl V m ≠ [] := by intro h; have := congrArg List.length h; rw [bl_length] at this; simp at this; omega
      obtain ⟨b, off, rfl, hb, hc⟩ := ha.resolve_left hne
      clear ha hne
      have hc1 : ∀ i, i < m → wr.cell? ⟨b, off + i, none⟩ = some (.int .i64 (bitAt V i)) := fun i hi => (hnx.cell (p := ⟨b, off + i, none⟩) hb).trans (by rw [hc i hi, bl_getD V m i hi])
      clear hc
      go_wp2
      go_loop [5, 6] (fun n k => ∃ q : Nat, ∃ y : Int, q ≤ 8 ∧ k = .int .i64 ((q : Int) - 1) ∧ n = .int .i64 y ∧ 0 ≤ y ∧ y < 256 ∧ Hid (y = ((V / 2 ^ (8 * j + q) % 2 ^ (8 - q) : Nat) : Int))) (fun _ k => (intOf k + 1).toNat)
      case atStart => exact ⟨8, 0, by omega, rfl, rfl, by omega, by omega, by unfold Hid; simp [Nat.mod_one]⟩
      case round =>
        obtain ⟨q, y, hq, rfl, rfl, hy0, hy1, HY⟩ := hrel
        cases q with
        | zero =>
          go_wp2_with (at_builtin; refine wpList_append_own _ rfl _ _ 36 rfl w.heap.size 5 i0 (.int .u8 0) 1 1 Try.underlying36 hi hz0 hz1 hz2 rfl (by decide) _ _ _ rfl (hown.alloc _) ⟨_, 0, none⟩ 1 1 [_] rfl rfl (cell_one_new _ _ _) ?c2 ?c3 ?c4 ?c5 ?_)
          case c2 => rfl
          case c3 => unfold maxLen; omega
          case c4 => omega
          case c5 => have := hnx.size; simp; omega
          intro v' w1 hown' hgrow _
          have hb1 := (hnx.alloc hnx.size (Obj.cells #[Value.int IntKind.u8 y] 5)).grown hgrow (by have := hnx.size; simp; omega) (fun k hk => (hown.lt k hk).1)
          have hown3 : w1.ownsRow w.heap.size 5 1 v' (j + 1) ((byL V (j + 1)).map (Value.int .u8)) := by
            rw [byL_succ, List.map_append, show byteAt V j = y by rw [HY.out]; unfold byteAt; rw [pow256]; rfl]
            exact hown'
          clear hown' hgrow hown hnx hc1
          go_wp2
          go_roundw
          case rel => exact ⟨j + 1, by omega, by go_num, hown3, hb1⟩
          case measure => simp [intOf]; omega
        | succ q =>
          by_cases hin : 8 * j + q < m
          · have g := hc1 _ hin
            have h01 := bitAt_01 V (8 * j + q)
            generalize hxe : bitAt V (8 * j + q) = x at g h01
            have HX : Hid _ := hxe
            clear hxe hc1
            go_wp2
            go_round
            case rel =>
              have H := up_bit V _ q m _ _ (by omega) HY.out HX.out
              have hl := up_lt V _ q (by omega) _ H.out
              exact ⟨q, _, by omega, by go_num, rfl, hl.1, hl.2, H⟩
            case measure => simp [intOf]
          · have hout : m ≤ 8 * j + q := by omega
            clear hin
            go_wp2
            go_round
            case rel =>
              have H := up_none V _ q m _ (by omega) HY.out hV hout
              have hl := up_lt V _ q (by omega) _ H.out
              exact ⟨q, _, by omega, by go_num, rfl, hl.1, hl.2, H⟩
            case measure => simp [intOf]
    · have hge : m ≤ 8 * j := by omega
      clear hlt
      go_wp2
      have : j = (m + 7) / 8 := by omega
      subst this
      go_ret
      exact ⟨_, rfl, hown, hnx⟩
end Go.Proofs.Ytolfnjlkcppplaa
/- The contract of bits.Right: it returns whether the writer is right, at every writer. -/
namespace Go.Proofs.Ytolfnjlkcppplaa
open Go.RowKit
set_option linter.unusedVariables false
set_option linter.unusedSimpArgs false
set_option maxRecDepth 10000

/-- Which writers are right. -/
def rightB (xs : List Int) (n : Int) : Bool := decide (0 ≤ n ∧ n ≤ 32000 ∧ xs.length = (n.toNat + 7) / 8 ∧ bv xs < 2 ^ n.toNat)

theorem rightB_nat (xs : List Int) (n : Nat) : rightB xs n = decide (n ≤ 32000 ∧ xs.length = (n + 7) / 8 ∧ bv xs < 2 ^ n) := by
  unfold rightB
  rw [Int.toNat_natCast]
  congr 1
  apply propext
  constructor
  · rintro ⟨_, h2, h3⟩; exact ⟨by omega, h3⟩
  · rintro ⟨h2, h3⟩; exact ⟨by omega, by omega, h3⟩

theorem drewN_belowb {w : World} (W : World) (h : Below w.heap.size w W) (n : Nat) : Below w.heap.size w (W.drewN n) :=
  ⟨h.os, h.tape, h.output, h.size, h.block⟩

set_option maxHeartbeats 400000 in
theorem right_out (a : Option Addr) (len cap : Nat) (n : Int) (w : World) (h : n < 0 ∨ 32000 < n) :
    Calls Try.prog 67 #[.agg #[.slice a len cap, .int .i64 n]] w fun e w' => e = .returned (.bool false) ∧ Below w.heap.size w w' := by
  rcases h with h | h
  · go_enter Try.func67, Try.ntmps67
    go_wp2
    go_quiet ((fail))
    go_wp2
    go_ret
    exact ⟨rfl, drewN_belowb _ ((Below.refl _ _).alloc (Nat.le_refl _) _) _⟩
  · have h0 : 0 ≤ n := by omega
    go_enter Try.func67, Try.ntmps67
    go_wp2
    go_quiet ((fail))
    go_wp2
    go_ret
    exact ⟨rfl, drewN_belowb _ ((Below.refl _ _).alloc (Nat.le_refl _) _) _⟩
set_option maxHeartbeats 400000 in
theorem right_len (a : Option Addr) (len cap : Nat) (n : Int) (w : World) (h0 : 0 ≤ n) (h1 : n ≤ 32000) (h : ((len : Int) != (n + 7) / 8) = true) :
    Calls Try.prog 67 #[.agg #[.slice a len cap, .int .i64 n]] w fun e w' => e = .returned (.bool false) ∧ Below w.heap.size w w' := by
  go_enter Try.func67, Try.ntmps67
  go_wp2
  go_quiet ((go_at_call 70; exact Calls.quiet_of_same (bytesFor_any _ _ (by omega) (by omega))))
  go_wp2
  go_ret
  exact ⟨rfl, drewN_belowb _ ((Below.refl _ _).alloc (Nat.le_refl _) _) _⟩
set_option maxHeartbeats 400000 in
theorem right_even (a : Option Addr) (len cap : Nat) (n : Int) (w : World) (h0 : 0 ≤ n) (h1 : n ≤ 32000) (h : ((len : Int) != (n + 7) / 8) = false) (h8 : (n % 8 == 0) = true) :
    Calls Try.prog 67 #[.agg #[.slice a len cap, .int .i64 n]] w fun e w' => e = .returned (.bool true) ∧ Below w.heap.size w w' := by
  go_enter Try.func67, Try.ntmps67
  go_wp2
  go_quiet ((go_at_call 70; exact Calls.quiet_of_same (bytesFor_any _ _ (by omega) (by omega))))
  go_wp2
  go_ret
  exact ⟨rfl, drewN_belowb _ ((Below.refl _ _).alloc (Nat.le_refl _) _) _⟩
set_option maxHeartbeats 400000 in
theorem right_odd (b : Nat) (off len cap : Nat) (n x : Int) (w : World) (h0 : 0 ≤ n) (h1 : n ≤ 32000) (h : ((len : Int) != (n + 7) / 8) = false) (h8 : (n % 8 == 0) = false) (hl0 : 1 ≤ len) (hl1 : len ≤ 4000) (hb : b < w.heap.size) (hc : w.cell? ⟨b, off + (len - 1), none⟩ = some (.int .u8 x)) (hx0 : 0 ≤ x) (hx1 : x < 256) :
    Calls Try.prog 67 #[.agg #[.slice (some ⟨b, off, none⟩) len cap, .int .i64 n]] w fun e w' => e = .returned (.bool (x / 2 ^ (n % 8).toNat == 0)) ∧ Below w.heap.size w w' := by
  go_enter Try.func67, Try.ntmps67
  go_wp2
  go_quiet ((go_at_call 70; exact Calls.quiet_of_same (bytesFor_any _ _ (by omega) (by omega))))
  go_wp2
  go_ret
  exact ⟨rfl, drewN_belowb _ ((Below.refl _ _).alloc (Nat.le_refl _) _) _⟩

theorem right_any (v : Value) (xs : List Int) (n : Int) (w : World) (hv : Rw .u8 w v xs) (hx : Byts xs) :
    Calls Try.prog 67 #[.agg #[v, .int .i64 n]] w fun e w' => e = .returned (.bool (rightB xs n)) ∧ Below w.heap.size w w' := by
  obtain ⟨a, cap, rfl, ha⟩ := hv
  by_cases hn : 0 ≤ n ∧ n ≤ 32000
  · obtain ⟨N, rfl⟩ := Int.eq_ofNat_of_zero_le hn.1
    rw [rightB_nat]
    by_cases hl : xs.length = (N + 7) / 8
    · have e : (((xs.length : Nat) : Int) != ((N : Int) + 7) / 8) = false := by simp; omega
      have hbl := bv_last hx N hl
      by_cases h8 : N % 8 = 0
      · refine (right_even a xs.length cap N w (by omega) (by omega) e (by simp; omega)).mono ?_
        rintro e w' ⟨rfl, hb⟩
        exact ⟨ret_bool (by have := hbl.2 (.inl h8); simp [hl, this]; omega), hb⟩
      · have hne : xs ≠ [] := by intro h; subst h; simp at hl; omega
        obtain ⟨b, off, rfl, hb, hc⟩ := ha.resolve_left hne
        have hx1 := hx.getD (xs.length - 1)
        refine (right_odd b off xs.length cap N _ w (by omega) (by omega) e (by simp; omega) (by omega) (by omega) hb (hc _ (by omega)) hx1.1 hx1.2).mono ?_
        rintro e w' ⟨rfl, hb⟩
        refine ⟨ret_bool ?_, hb⟩
        obtain ⟨X, hX⟩ := Int.eq_ofNat_of_zero_le hx1.1
        rw [hX] at hbl ⊢
        rw [show ((N : Int) % 8).toNat = N % 8 by omega, nat_shr, Int.toNat_natCast] at *
        have : ((X / 2 ^ (N % 8) : Nat) : Int) = 0 ↔ X / 2 ^ (N % 8) = 0 := by omega
        rw [Bool.eq_iff_iff]
        simp only [beq_iff_eq, decide_eq_true_eq, this]
        constructor
        · intro h; exact ⟨by omega, hl, hbl.2 (.inr h)⟩
        · rintro ⟨_, _, h⟩; exact (hbl.1 h).resolve_left h8
    · refine (right_len a xs.length cap N w (by omega) (by omega) (by simp; omega)).mono ?_
      rintro e w' ⟨rfl, hb⟩
      exact ⟨ret_bool (by simp [hl]), hb⟩
  · refine (right_out a xs.length cap n w (by omega)).mono ?_
    rintro e w' ⟨rfl, hb⟩
    refine ⟨ret_bool ?_, hb⟩
    unfold rightB
    rw [eq_comm, decide_eq_false_iff_not]
    omega

end Go.Proofs.Ytolfnjlkcppplaa
/- The contract of the document function Right, at every writer. -/
namespace Go.Proofs.Ytolfnjlkcppplaa
open Go.RowKit
set_option linter.unusedVariables false
set_option linter.unusedSimpArgs false
set_option maxRecDepth 10000
/-! ### The document's own -/
theorem owns_bits {w : World} {base V n : Nat} {v : Value} (h : w.ownsRow base 3 1 v n ((bl V n).map (Value.int .i64))) :
    ∃ a cap, v = .slice a n cap ∧ (n = 0 ∨ ∃ b off, a = some ⟨b, off, none⟩ ∧ b < w.heap.size ∧ ∀ i, i < n → w.cell? ⟨b, off + i, none⟩ = some (.int .i64 (bitAt V i))) := by
  obtain ⟨a, cap, hv, hr⟩ := Rw.of_owns h
  rw [bl_length] at hv hr
  refine ⟨a, cap, hv, ?_⟩
  rcases hr with hr | ⟨b, off, ha, hb, hc⟩
  · left; have := congrArg List.length hr; rw [bl_length] at this; simpa using this
  · exact .inr ⟨b, off, ha, hb, fun i hi => by rw [hc i hi, bl_getD V n i hi]⟩

theorem bits_zero_from (V N n : Nat) (h : ∀ i, N ≤ i → i < n → bitAt V i = 0) (hV : V < 2 ^ n) (hN : N ≤ n) : V < 2 ^ N := by
  induction n with
  | zero => have : N = 0 := by omega
            subst this; exact hV
  | succ n ih =>
    by_cases hn : N = n + 1
    · subst hn; exact hV
    · refine ih (fun i h1 h2 => h i h1 (by omega)) ?_ (by omega)
      have h0 := h n (by omega) (by omega)
      unfold bitAt at h0
      have h1 : V / 2 ^ n % 2 = 0 := by exact_mod_cast h0
      have h2 : V / 2 ^ n < 2 := by rw [Nat.div_lt_iff_lt_mul (Nat.two_pow_pos n)]; rw [Nat.pow_succ] at hV; omega
      have h3 : V / 2 ^ n = 0 := by
        revert h1 h2; generalize V / 2 ^ n = q; intro h1 h2; omega
      rw [Nat.div_eq_zero_iff] at h3
      rcases h3 with h3 | h3
      · have := Nat.two_pow_pos n; omega
      · exact h3

end Go.Proofs.Ytolfnjlkcppplaa
/- Contracts of Power, As, Same and Good. -/
namespace Go.Proofs.Ytolfnjlkcppplaa
open Go.RowKit
set_option linter.unusedVariables false
set_option linter.unusedSimpArgs false
set_option maxRecDepth 10000

def P2 (n : Nat) : Int := ((2 ^ n : Nat) : Int)
/-- The writer that stands in the place of one that isn't right. -/
def goodX (xs : List Int) (n : Int) : List Int := if rightB xs n then xs else []
def goodV (v : Value) (xs : List Int) (n : Int) : Value := if rightB xs n then v else .slice none 0 0
def goodN (xs : List Int) (n : Int) : Int := if rightB xs n then n else 0

theorem good_rw {w : World} {v : Value} {xs : List Int} (h : Rw .u8 w v xs) (n : Int) : Rw .u8 w (goodV v xs n) (goodX xs n) := by
  unfold goodV goodX
  split
  · exact h
  · exact ⟨none, 0, rfl, .inl rfl⟩
end Go.Proofs.Ytolfnjlkcppplaa
/- The contracts of both Gets, at every argument. -/
namespace Go.Proofs.Ytolfnjlkcppplaa
open Go.RowKit
set_option linter.unusedVariables false
set_option linter.unusedSimpArgs false
set_option maxRecDepth 10000

/-- What the document reads: the number and the error. -/
def getV (xs : List Int) (p n : Int) : Int := if 0 ≤ n ∧ n ≤ 32 ∧ 0 ≤ p ∧ p + n ≤ 8 * xs.length then ((bv xs / 2 ^ p.toNat % 2 ^ n.toNat : Nat) : Int) else 0
def getE (xs : List Int) (p n : Int) : Int := if 0 ≤ n ∧ n ≤ 32 ∧ 0 ≤ p then (if p + n ≤ 8 * xs.length then 0 else 4) else 1

theorem take_up (V p k n : Nat) (hk : k < n) : V / 2 ^ (p + k) % 2 ^ (n - k) = V / 2 ^ (p + (k + 1)) % 2 ^ (n - (k + 1)) * 2 + V / 2 ^ (p + k) % 2 := by
  have e : n - k = (n - (k + 1)) + 1 := by omega
  rw [e, Nat.pow_succ, Nat.mul_comm (2 ^ _) 2, Nat.mod_mul, ← Nat.add_assoc p k 1, Nat.pow_succ, ← Nat.div_div_eq_div_mul]
  omega

theorem take_next (V p q n : Nat) (y x : Int) (hq : q < n) (hy : y = ((V / 2 ^ (p + (q + 1)) % 2 ^ (n - (q + 1)) : Nat) : Int)) (hx : bitAt V (p + q) = x) : Hid (y * 2 + x = ((V / 2 ^ (p + q) % 2 ^ (n - q) : Nat) : Int)) := by
  unfold Hid
  rw [take_up V p q n hq, hy, ← hx]; unfold bitAt; omega
theorem take_lt (V p k : Nat) (hk : k ≤ 32) (y : Int) (hy : y = ((V / 2 ^ p % 2 ^ k : Nat) : Int)) : 0 ≤ y ∧ y < 4294967296 := by
  have h1 : V / 2 ^ p % 2 ^ k < 2 ^ k := Nat.mod_lt _ (Nat.two_pow_pos _)
  have h2 : 2 ^ k ≤ 2 ^ 32 := Nat.pow_le_pow_right (by decide) hk
  omega

set_option maxHeartbeats 1000000 in
theorem rget_ok (v : Value) (xs : List Int) (p n : Nat) (w : World) (hv : Rw .u8 w v xs) (hx : Byts xs) (hl : xs.length ≤ 100000) (h1 : n ≤ 32) (h2 : p + n ≤ 8 * xs.length) :
    Calls Try.prog 55 #[v, .int .i64 p, .int .i64 n] w fun e w' => e = .returned (.tuple #[.int .u64 ((bv xs / 2 ^ p % 2 ^ n : Nat) : Int), .int .i64 0]) ∧ Below w.heap.size w w' := by
  have hv0 := hv
  obtain ⟨a, cap, rfl, ha⟩ := hv
  clear ha
  go_enter Try.func55, Try.ntmps55
  go_wp2_with (go_at_call 38; refine (bits_any _ xs _ hv0 hx hl).mono ?_; rintro e w' ⟨v', rfl, hown, hb1⟩; obtain ⟨a1, c1, rfl, ha1⟩ := owns_bits hown)
  clear hown hv0
  go_loop [9, 10] (fun v i => ∃ q : Nat, ∃ y : Int, q ≤ n ∧ i = .int .i64 ((q : Int) - 1) ∧ v = .int .u64 y ∧ 0 ≤ y ∧ y < 4294967296 ∧ Hid (y = ((bv xs / 2 ^ (p + q) % 2 ^ (n - q) : Nat) : Int))) (fun _ i => (intOf i + 1).toNat)
  case atStart => exact ⟨n, 0, by omega, rfl, rfl, by omega, by omega, by unfold Hid; simp [Nat.mod_one]⟩
  case round =>
    obtain ⟨q, y, hq, rfl, rfl, hy0, hy1, HY⟩ := hrel
    cases q with
    | zero =>
      go_wp2
      go_ret2
      exact ⟨by rw [HY.out]; rfl, hb1⟩
    | succ q =>
      obtain ⟨b, off, rfl, hb, hc⟩ := ha1.resolve_left (by omega)
      have g := hc (p + q) (by omega)
      have h01 := bitAt_01 (bv xs) (p + q)
      generalize hxe : bitAt (bv xs) (p + q) = x at g h01
      have HX : Hid _ := hxe
      have hx0 : 0 ≤ x := by omega
      have hx1 : x ≤ 1 := by omega
      clear hxe hc ha1 h01
      go_wp2
      go_round
      case rel =>
        have H := take_next (bv xs) p q n y x (by omega) HY.out HX.out
        have hl := take_lt (bv xs) (p + q) (n - q) (by omega) _ H.out
        exact ⟨q, _, by omega, by go_num, rfl, hl.1, hl.2, H⟩
      case measure => simp [intOf]

theorem rget_arg (v : Value) (p n : Int) (w : World) (h : n < 0 ∨ 32 < n ∨ p < 0) :
    Calls Try.prog 55 #[v, .int .i64 p, .int .i64 n] w fun e w' => e = .returned (.tuple #[.int .u64 0, .int .i64 1]) ∧ w' = w := by
  by_cases h1 : n < 0
  · go_enter Try.func55, Try.ntmps55
    go_wp2
    go_ret2
    exact ⟨rfl, rfl⟩
  · by_cases h2 : 32 < n
    · go_enter Try.func55, Try.ntmps55
      go_wp2
      go_ret2
      exact ⟨rfl, rfl⟩
    · have h3 : p < 0 := by omega
      go_enter Try.func55, Try.ntmps55
      go_wp2
      go_ret2
      exact ⟨rfl, rfl⟩

set_option maxHeartbeats 400000 in
theorem rget_more (v : Value) (xs : List Int) (p n : Int) (w : World) (hv : Rw .u8 w v xs) (hx : Byts xs) (hl : xs.length ≤ 100000) (h0 : 0 ≤ n) (h1 : n ≤ 32) (h2 : 0 ≤ p) (h3 : 8 * xs.length < p + n) :
    Calls Try.prog 55 #[v, .int .i64 p, .int .i64 n] w fun e w' => e = .returned (.tuple #[.int .u64 0, .int .i64 4]) ∧ Below w.heap.size w w' := by
  have hv0 := hv
  obtain ⟨a, cap, rfl, ha⟩ := hv
  clear ha
  by_cases h4 : 8 * xs.length < p
  · go_enter Try.func55, Try.ntmps55
    go_wp2_with (go_at_call 38; refine (bits_any _ xs _ hv0 hx hl).mono ?_; rintro e w' ⟨v', rfl, hown, hb1⟩; obtain ⟨a1, c1, rfl, ha1⟩ := owns_bits hown)
    go_ret2
    exact ⟨rfl, hb1⟩
  · go_enter Try.func55, Try.ntmps55
    go_wp2_with (go_at_call 38; refine (bits_any _ xs _ hv0 hx hl).mono ?_; rintro e w' ⟨v', rfl, hown, hb1⟩; obtain ⟨a1, c1, rfl, ha1⟩ := owns_bits hown)
    go_ret2
    exact ⟨rfl, hb1⟩

theorem rget_any (v : Value) (xs : List Int) (p n : Int) (w : World) (hv : Rw .u8 w v xs) (hx : Byts xs) (hl : xs.length ≤ 100000) :
    Calls Try.prog 55 #[v, .int .i64 p, .int .i64 n] w fun e w' => e = .returned (.tuple #[.int .u64 (getV xs p n), .int .i64 (getE xs p n)]) ∧ Below w.heap.size w w' := by
  by_cases h1 : 0 ≤ n ∧ n ≤ 32 ∧ 0 ≤ p
  · obtain ⟨N, rfl⟩ := Int.eq_ofNat_of_zero_le h1.1
    obtain ⟨Q, rfl⟩ := Int.eq_ofNat_of_zero_le h1.2.2
    by_cases h2 : (Q : Int) + N ≤ 8 * xs.length
    · rw [getV, if_pos ⟨h1.1, h1.2.1, h1.2.2, h2⟩, getE, if_pos h1, if_pos h2]
      exact rget_ok v xs Q N w hv hx hl (by omega) (by omega)
    · rw [getV, if_neg (by omega), getE, if_pos h1, if_neg h2]
      exact rget_more v xs Q N w hv hx hl (by omega) (by omega) (by omega) (by omega)
  · rw [getV, if_neg (by omega), getE, if_neg h1]
    refine (rget_arg v p n w (by omega)).mono ?_
    rintro e w' ⟨rfl, rfl⟩
    exact ⟨rfl, Below.refl _ _⟩

/-! ### The program's own -/
set_option maxHeartbeats 400000 in
theorem get_arg (a : Option Addr) (len cap : Nat) (p n : Int) (w : World) (h : n < 0 ∨ 32 < n ∨ p < 0) :
    Calls Try.prog 51 #[.agg #[.slice a len cap, .int .i64 p], .int .i64 n] w fun e w' => e = .returned (.tuple #[.agg #[.slice a len cap, .int .i64 p], .int .u64 0, .int .i64 1]) ∧ Below w.heap.size w w' := by
  by_cases h1 : 0 ≤ n ∧ n ≤ 32
  · have h2 : p < 0 := by omega
    have hd : decide (0 ≤ n ∧ n ≤ 32) = true := decide_eq_true h1
    go_enter Try.func51, Try.ntmps51
    go_wp2_with (go_at_call 61; refine (widthFits_any _ _).mono ?_; rintro e w' ⟨rfl, rfl⟩; rw [hd])
    exact bodyPost_ret (v := .tuple #[.agg #[.slice a len cap, .int .i64 p], .int .u64 0, .int .i64 1]) (by simp [results, Try.results51, go_sem]) rfl ⟨rfl, below2 _ _ _⟩
  · have hd : decide (0 ≤ n ∧ n ≤ 32) = false := decide_eq_false h1
    go_enter Try.func51, Try.ntmps51
    go_wp2_with (go_at_call 61; refine (widthFits_any _ _).mono ?_; rintro e w' ⟨rfl, rfl⟩; rw [hd])
    exact bodyPost_ret (v := .tuple #[.agg #[.slice a len cap, .int .i64 p], .int .u64 0, .int .i64 1]) (by simp [results, Try.results51, go_sem]) rfl ⟨rfl, below2 _ _ _⟩

set_option maxHeartbeats 400000 in
theorem get_more (a : Option Addr) (len cap : Nat) (p n : Int) (w : World) (hl : len ≤ 100000) (h0 : 0 ≤ n) (h1 : n ≤ 32) (h2 : 0 ≤ p) (h3 : 8 * len < p + n) :
    Calls Try.prog 51 #[.agg #[.slice a len cap, .int .i64 p], .int .i64 n] w fun e w' => e = .returned (.tuple #[.agg #[.slice a len cap, .int .i64 p], .int .u64 0, .int .i64 4]) ∧ Below w.heap.size w w' := by
  have hd : decide (0 ≤ n ∧ n ≤ 32) = true := decide_eq_true ⟨h0, h1⟩
  by_cases h4 : 8 * len < p
  · go_enter Try.func51, Try.ntmps51
    go_wp2_with (go_at_call 61; refine (widthFits_any _ _).mono ?_; rintro e w' ⟨rfl, rfl⟩; rw [hd])
    exact bodyPost_ret (v := .tuple #[.agg #[.slice a len cap, .int .i64 p], .int .u64 0, .int .i64 4]) (by simp [results, Try.results51, go_sem]) rfl ⟨rfl, below2 _ _ _⟩
  · have h5 : p ≤ 8 * len := by omega
    go_enter Try.func51, Try.ntmps51
    go_wp2_with (first | (go_at_call 61; refine (widthFits_any _ _).mono ?_; rintro e w' ⟨rfl, rfl⟩; rw [hd]) | (go_at_call 54; refine (left_any _ _ _ _ _ (by omega)).mono ?_; rw [if_pos ⟨h2, h5⟩]; rintro e w' ⟨rfl, hb1⟩; obtain ⟨hc1, hf1⟩ := bcell hb1))
    have hz : w.heap.size + 1 < w'.heap.size := by have := hb1.size; simp at this; omega
    exact bodyPost_ret (v := .tuple #[.agg #[.slice a len cap, .int .i64 p], .int .u64 0, .int .i64 4]) (by simp [results, Try.results51, go_sem, hc1]) rfl ⟨rfl, bset2 (bthen (below2 _ _ _) hb1 (by simp; omega)) _ _ _ _ _ _ (by omega) (by omega)⟩

set_option maxHeartbeats 400000 in
theorem get_none (a : Option Addr) (len cap p : Nat) (w : World) (hl : len ≤ 100000) (h2 : p ≤ 8 * len) :
    Calls Try.prog 51 #[.agg #[.slice a len cap, .int .i64 p], .int .i64 0] w fun e w' => e = .returned (.tuple #[.agg #[.slice a len cap, .int .i64 p], .int .u64 0, .int .i64 0]) ∧ Below w.heap.size w w' := by
  have h5 : 0 ≤ (p : Int) ∧ (p : Int) ≤ 8 * len := by omega
  go_enter Try.func51, Try.ntmps51
  go_wp2_with (first | (go_at_call 61; refine (widthFits_any _ _).mono ?_; rintro e w' ⟨rfl, rfl⟩; rw [show decide ((0 : Int) ≤ 0 ∧ (0 : Int) ≤ 32) = true from rfl]) | (go_at_call 54; refine (left_any _ _ _ _ _ (by omega)).mono ?_; rw [if_pos h5]; rintro e w' ⟨rfl, hb1⟩; obtain ⟨hc1, hf1⟩ := bcell hb1))
  refine wp_loop_rounds 1 ?_
  rw [rounds_succ]
  go_wp2
  have hz : w.heap.size + 1 < w'.heap.size := by have := hb1.size; simp at this; omega
  exact bodyPost_ret (v := .tuple #[.agg #[.slice a len cap, .int .i64 p], .int .u64 0, .int .i64 0]) (by simp [results, Try.results51, go_sem, hc1]) rfl ⟨rfl, bset2 (bthen (below2 _ _ _) hb1 (by simp; omega)) _ _ _ _ _ _ (by omega) (by omega)⟩

theorem get_any (v : Value) (xs : List Int) (p n : Int) (w : World) (hv : Rw .u8 w v xs) (hx : Byts xs) (hl : xs.length ≤ 100000) :
    Calls Try.prog 51 #[.agg #[v, .int .i64 p], .int .i64 n] w fun e w' => e = .returned (.tuple #[.agg #[v, .int .i64 (if getE xs p n = 0 then p + n else p)], .int .u64 (getV xs p n), .int .i64 (getE xs p n)]) ∧ Below w.heap.size w w' := by
  obtain ⟨a, cap, rfl, ha⟩ := hv
  by_cases h1 : 0 ≤ n ∧ n ≤ 32 ∧ 0 ≤ p
  · obtain ⟨N, rfl⟩ := Int.eq_ofNat_of_zero_le h1.1
    obtain ⟨Q, rfl⟩ := Int.eq_ofNat_of_zero_le h1.2.2
    by_cases h2 : (Q : Int) + N ≤ 8 * xs.length
    · have eV : getV xs Q N = ((bv xs / 2 ^ Q % 2 ^ N : Nat) : Int) := by rw [getV, if_pos ⟨h1.1, h1.2.1, h1.2.2, h2⟩]; rfl
      have eE : getE xs Q N = 0 := by rw [getE, if_pos h1, if_pos h2]
      rw [eV, eE, if_pos rfl]
      by_cases hN : N = 0
      · subst hN
        refine (get_none a xs.length cap Q w hl (by omega)).mono ?_
        rintro e w' ⟨rfl, hb⟩
        exact ⟨by simp [Nat.mod_one], hb⟩
      · obtain ⟨b, off, rfl, hb, hc⟩ := ha.resolve_left (by intro h; subst h; simp at h2; omega)
        exact get_ok b off xs.length cap Q N xs w rfl hl (by omega) (by omega) hb hc hx
    · have eV : getV xs Q N = 0 := by rw [getV, if_neg (by omega)]
      have eE : getE xs Q N = 4 := by rw [getE, if_pos h1, if_neg h2]
      rw [eV, eE, if_neg (by decide)]
      exact get_more a xs.length cap Q N w hl (by omega) (by omega) (by omega) (by omega)
  · have eV : getV xs p n = 0 := by rw [getV, if_neg (by omega)]
    have eE : getE xs p n = 1 := by rw [getE, if_neg h1]
    rw [eV, eE, if_neg (by decide)]
    exact get_arg a xs.length cap p n w (by omega)
end Go.Proofs.Ytolfnjlkcppplaa
/- The contract of grown: a copy with more bits, all 0. -/
namespace Go.Proofs.Ytolfnjlkcppplaa
open Go.RowKit
set_option linter.unusedVariables false
set_option linter.unusedSimpArgs false
set_option maxRecDepth 10000
set_option maxHeartbeats 1000000 in
theorem grown_any (a : Option Addr) (cap : Nat) (xs : List Int) (N n : Nat) (w : World) (hv : Rw .u8 w (.slice a xs.length cap) xs) (hl : xs.length ≤ (N + n + 7) / 8) (hn : N + n ≤ 40000) :
    Calls Try.prog 68 #[.agg #[.slice a xs.length cap, .int .i64 N], .int .i64 n] w fun e w' => ∃ g, e = .returned (.agg #[.slice (some ⟨g, 0, none⟩) ((N + n + 7) / 8) ((N + n + 7) / 8), .int .i64 (N + n)]) ∧ w.heap.size ≤ g ∧ w'.heap[g]? = some (.cells ((xs ++ List.replicate ((N + n + 7) / 8 - xs.length) 0).map (Value.int .u8)).toArray 5 (0, 0)) ∧ Below w.heap.size w w' := by
  obtain ⟨i0, hi, hz0, hz1, hz2⟩ := info_parts info5
  go_enter Try.func68, Try.ntmps68
  go_wp2_with (first | (go_at_call 70; refine (bytesFor_any _ _ (by omega) (by omega)).mono ?_; rintro e w' ⟨rfl, rfl⟩) | (at_make; refine wpList_make_full _ rfl _ _ 36 rfl w.heap.size 5 i0 (.int .u8 0) 1 Try.underlying36 hi hz0 hz1 .i64 .i64 _ _ ((N + n + 7) / 8) rfl rfl (by omega) (by omega) (by rw [hz2]; omega) (by unfold maxLen; omega) (by simp; omega) ?_))
  intro w1 hown1 hgrow1
  have hb1 := grown_of_none hgrow1
  have hW := below2 w (.cells #[.slice a xs.length cap, .int .i64 N] 55) (.cells #[.slice none 0 0, .int .i64 0] 55)
  have hBw : Below w.heap.size w w1 := bthen hW hb1 hW.size
  have hv1 := hv.below hBw
  have hfull := owns_full hown1
  rw [made_one] at hfull
  obtain ⟨hc1, hf1⟩ := bcell hb1
  clear hown1 hgrow1
  go_wp2_with ((refine wpList_copy_splice rfl (.tmp 12) (.tmp 14) 36 36 rfl 5 Try.underlying36 (by kernel_rfl) _ _ _ _ _ _ rfl rfl (w.heap.size + 1 + 1) 0 (List.replicate ((N + n + 7) / 8) (.int .u8 0)) 5 hfull.1 (xs.map (Value.int .u8)) ?c1 ?c2 ?c3 ?c4 (w.heap.size + 1 + 1) w1 (Below.refl _ _) (Nat.le_refl _) ?_))

  case c1 => simp only [List.length_map]; exact (Nat.min_eq_left hl).symm
  case c2 =>
    intro hpos
    obtain ⟨a', cap', he, ha⟩ := hv1
    simp only [Value.slice.injEq] at he
    obtain ⟨rfl, _, rfl⟩ := he
    obtain ⟨b, off, rfl, hb, hc⟩ := ha.resolve_left (by intro h; subst h; simp at hpos)
    refine ⟨_, rfl, fun j x hj => ?_⟩
    have hjl : j < xs.length := (List.getElem?_eq_some_iff.1 hj).1
    rw [Addr.add_lit, hc j hjl]
    simp [hj]
  case c3 => simp; omega
  case c4 => exact ints_oneCell _ _
  intro w2 H2 hb2
  have hz2 := hb1.size
  have hz3 := hb2.size
  simp at hz2
  have k0 : w2.cell? ⟨w.heap.size, 0, none⟩ = some (.slice a xs.length cap) := by
    rw [hb2.cell (p := ⟨w.heap.size, 0, none⟩) (by show w.heap.size < _; omega), hc1 _ _ (by simp; omega)]; simp [go_sem]
  have k1 : w2.cell? ⟨w.heap.size, 1, none⟩ = some (.int .i64 N) := by
    rw [hb2.cell (p := ⟨w.heap.size, 1, none⟩) (by show w.heap.size < _; omega), hc1 _ _ (by simp; omega)]; simp [go_sem]
  have k2 : w2.cell? ⟨w.heap.size + 1, 0, none⟩ = some (.slice none 0 0) := by
    rw [hb2.cell (p := ⟨w.heap.size + 1, 0, none⟩) (by show w.heap.size + 1 < _; omega), hc1 _ _ (by simp)]; simp [go_sem]
  have k3 : w2.cell? ⟨w.heap.size + 1, 1, none⟩ = some (.int .i64 0) := by
    rw [hb2.cell (p := ⟨w.heap.size + 1, 1, none⟩) (by show w.heap.size + 1 < _; omega), hc1 _ _ (by simp)]; simp [go_sem]
  have f2 : w2.frozen? ⟨w.heap.size + 1, 0, none⟩ = false := by
    rw [hb2.frozen (p := ⟨w.heap.size + 1, 0, none⟩) (by show w.heap.size + 1 < _; omega), hf1 _ _ (by simp)]; simp [go_sem]
  have f3 : w2.frozen? ⟨w.heap.size + 1, 1, none⟩ = false := by
    rw [hb2.frozen (p := ⟨w.heap.size + 1, 1, none⟩) (by show w.heap.size + 1 < _; omega), hf1 _ _ (by simp)]; simp [go_sem]
  clear hc1 hf1 hv1 hfull hv
  go_wp2
  refine bodyPost_ret (v := .agg #[.slice (some ⟨w.heap.size + 1 + 1, 0, none⟩) ((N + n + 7) / 8) ((N + n + 7) / 8), .int .i64 (N + n)]) (by simp [results, Try.results68, go_sem, k2, k3, f2, f3]) rfl ⟨_, rfl, by omega, ?_, ?_⟩
  · rw [Below.heap_setCell _ _ _ _ (by simp), Below.heap_setCell _ _ _ _ (by simp), H2.out]
    simp [splice]
  · exact bset2 (hBw.trans (hb2.mono (by omega))) _ _ _ _ _ _ (by omega) (by omega)
end Go.Proofs.Ytolfnjlkcppplaa
/- The contract of bits.Put, case by case. -/
namespace Go.Proofs.Ytolfnjlkcppplaa
open Go.RowKit
set_option linter.unusedVariables false
set_option linter.unusedSimpArgs false
set_option maxRecDepth 10000

theorem zeros_none (xs : List Int) (N : Nat) (h : xs.length = (N + 7) / 8) : xs ++ List.replicate ((N + 0 + 7) / 8 - xs.length) 0 = xs := by
  rw [h]; simp

theorem frozen_set (w : World) (a p : Addr) (v : Value) : (w.setCell a v).frozen? p = w.frozen? p := World.frozen?_setCell w a p v
theorem grownBy_drew {W w : World} {r : Option Nat} (h : W.grownBy w r) : W.grownBy w.drew r := ⟨h.os, h.tape, h.output, h.size, h.block⟩
/-- One bit more is put. -/
theorem put_step {cur : List Int} (hc : Byts cur) (X V N k : Nat) (x : Int) (hk : k < 32) (hl : N + k < 8 * cur.length) (hX : X < 2 ^ N) (he : cur.getD ((N + k) / 8) 0 = x) (hb : bv cur = X + V % 2 ^ k * 2 ^ N) (hV : V < 2 ^ 64) :
    ∃ y : Int, bits .or .u8 x (bits .and .u64 ((V : Int) / 2 ^ k) 1 % 256 * 2 ^ ((N + k) % 8) % 256) = y ∧ 0 ≤ y ∧ y < 256 ∧ bv (cur.set ((N + k) / 8) y) = X + V % 2 ^ (k + 1) * 2 ^ N := by
  have hx := hc.getD ((N + k) / 8)
  rw [he] at hx
  obtain ⟨Y, rfl⟩ := Int.eq_ofNat_of_zero_le hx.1
  have hlt : bv cur < 2 ^ (N + k) := by
    rw [hb]
    have h1 : V % 2 ^ k < 2 ^ k := Nat.mod_lt _ (Nat.two_pow_pos k)
    have h2 : (V % 2 ^ k + 1) * 2 ^ N ≤ 2 ^ k * 2 ^ N := Nat.mul_le_mul_right _ (by omega)
    rw [Nat.add_mul, Nat.one_mul] at h2
    rw [Nat.pow_add, Nat.mul_comm (2 ^ N)]
    omega
  have hg := bv_get hc ((N + k) / 8)
  rw [he, Int.toNat_natCast] at hg
  have hp : N + k = 8 * ((N + k) / 8) + (N + k) % 8 := by omega
  have hYlt : Y < 2 ^ ((N + k) % 8) := by
    rw [← hg, pow256]
    refine Nat.lt_of_le_of_lt (Nat.mod_le _ _) ?_
    rw [Nat.div_lt_iff_lt_mul (Nat.two_pow_pos _), ← Nat.pow_add, Nat.add_comm, ← hp]
    exact hlt
  have hr : (N + k) % 8 ≤ 7 := by omega
  have hdk : V / 2 ^ k ≤ V := Nat.div_le_self _ _
  have hbit : V / 2 ^ k % 2 < 2 := Nat.mod_lt _ (by decide)
  rw [nat_shr, and1_u64 _ (Int.natCast_nonneg _) (by exact_mod_cast Nat.lt_of_le_of_lt hdk hV)]
  have e : (((V / 2 ^ k : Nat) : Int) % 2) = ((V / 2 ^ k % 2 : Nat) : Int) := by simp
  rw [e]
  have hms := mod_two_pow_succ V k
  generalize V / 2 ^ k % 2 = b at hbit hms
  have hm := bit_mul b ((N + k) % 8) 7 hbit hr
  rw [show (b : Int) % 256 = b by omega, nat_shl, show ((b * 2 ^ ((N + k) % 8) : Nat) : Int) % 256 = ((b * 2 ^ ((N + k) % 8) : Nat) : Int) by omega, nat_or_low8 Y b _ hYlt (by omega) (by omega)]
  have hYm : Y + b * 2 ^ ((N + k) % 8) < 256 := by
    have h1 : 2 ^ ((N + k) % 8) ≤ 2 ^ 7 := Nat.pow_le_pow_right (by decide) hr
    omega
  refine ⟨_, rfl, by omega, by omega, ?_⟩
  have hs := bv_set cur ((N + k) / 8) ((Y + b * 2 ^ ((N + k) % 8) : Nat) : Int) (by omega)
  rw [he, Int.toNat_natCast, Int.toNat_natCast, Nat.add_mul, pow256, Nat.mul_assoc, ← Nat.pow_add, Nat.add_comm _ (8 * _), ← hp] at hs
  rw [hms, Nat.add_mul, Nat.mul_assoc, ← Nat.pow_add, Nat.add_comm k N]
  omega

set_option maxHeartbeats 1000000 in
theorem put_right_arg (a : Option Addr) (cap : Nat) (xs : List Int) (N : Nat) (w : World) (hv : Rw .u8 w (.slice a xs.length cap) xs) (hx : Byts xs) (hr : rightB xs N = true) (hN : N ≤ 32000) (hlen : Hid (xs.length = (N + 7) / 8)) (V : Nat) (n : Int) (hV : V < 2 ^ 64) (h : ¬ (0 ≤ n ∧ n ≤ 32)) :
    Calls Try.prog 59 #[.agg #[.slice a xs.length cap, .int .i64 N], .int .u64 V, .int .i64 n] w fun e w' => ∃ v', e = .returned (.tuple #[.agg #[v', .int .i64 (N : Int)], .int .i64 1]) ∧ RwF w.heap.size .u8 w' v' xs ∧ Below w.heap.size w w' := by
  have hd : decide (0 ≤ n ∧ n ≤ 32) = false := decide_eq_false h
  have hW := below2 w (.cells #[.slice a xs.length cap, .int .i64 (N : Int)] 55) (.cells #[.slice none 0 0, .int .i64 0] 55)
  have hv1 := hv.below hW
  go_enter Try.func59, Try.ntmps59
  go_wp2_with (go_at_call 67; refine (right_any _ xs (N : Int) _ hv1 hx).mono ?_; rintro e w' ⟨rfl, hb1⟩; obtain ⟨hc1, hf1⟩ := bcell hb1; rw [hr])
  have hz := hb1.size
  simp at hz
  have hBw := bthen hW hb1 hW.size
  have k0 : w'.cell? ⟨w.heap.size, 0, none⟩ = some (.slice a xs.length cap) := by rw [hc1 _ _ (by simp; omega)]; simp [go_sem]
  have k1 : w'.cell? ⟨w.heap.size, 1, none⟩ = some (.int .i64 (N : Int)) := by rw [hc1 _ _ (by simp; omega)]; simp [go_sem]
  have k2 : w'.cell? ⟨w.heap.size + 1, 0, none⟩ = some (.slice none 0 0) := by rw [hc1 _ _ (by simp)]; simp [go_sem]
  have k3 : w'.cell? ⟨w.heap.size + 1, 1, none⟩ = some (.int .i64 0) := by rw [hc1 _ _ (by simp)]; simp [go_sem]
  have f2 : ∀ o, w'.frozen? ⟨w.heap.size + 1, o, none⟩ = false := by intro o; rw [hf1 _ _ (by simp)]; simp [go_sem]
  have hBW : Below w.heap.size w w' := hBw
  have hzW : w.heap.size + 1 < w'.heap.size := by omega
  have hvW : Rw .u8 w' (.slice a xs.length cap) xs := hv.below hBW
  clear hc1 hf1 hb1 hv1 hv hW hBw
  go_wp2_with (first | (go_at_call 61; refine (widthFits_any _ _).mono ?_; rintro e w'' ⟨rfl, rfl⟩; rw [hd]) | (go_at_call 68; refine (grown_any _ _ xs N 0 _ hvW (by have := hlen.out; omega) (by omega)).mono ?_; rintro e w2 ⟨g, rfl, hg, hrow, hb2⟩; obtain ⟨hc2, hf2⟩ := bcell hb2))
  have hz2 := hb2.size
  have hne : g ≠ w.heap.size + 1 := by omega
  refine bodyPost_ret (v := .tuple #[.agg #[.slice (some ⟨g, 0, none⟩) ((N + 0 + 7) / 8) ((N + 0 + 7) / 8), .int .i64 (N : Int)], .int .i64 1]) (by simp [results, Try.results59, go_sem, hc2, k2, k3, f2, hf2, hzW]) rfl ⟨_, rfl, ?_, bset2 (bthen hBW hb2 (by omega)) _ _ _ _ _ _ (by omega) (by omega)⟩
  have hrow2 : ((w2.setCell ⟨w.heap.size + 1, 0, none⟩ (.slice (some ⟨g, 0, none⟩) ((N + 0 + 7) / 8) ((N + 0 + 7) / 8))).setCell ⟨w.heap.size + 1, 1, none⟩ (.int .i64 (N : Int))).heap[g]? = some (.cells ((xs).map (Value.int .u8)).toArray 5 (0, 0)) := by
    rw [Below.heap_setCell _ _ _ _ (by simpa using hne), Below.heap_setCell _ _ _ _ (by simpa using hne), hrow]
    rw [zeros_none xs N hlen.out]
  exact RwF.of_row hrow2 (by have := hlen.out; omega) (by omega)

set_option maxHeartbeats 1000000 in
theorem put_right_big (a : Option Addr) (cap : Nat) (xs : List Int) (N : Nat) (w : World) (hv : Rw .u8 w (.slice a xs.length cap) xs) (hx : Byts xs) (hr : rightB xs N = true) (hN : N ≤ 32000) (hlen : Hid (xs.length = (N + 7) / 8)) (V n : Nat) (hV : V < 2 ^ 64) (hn : n ≤ 32) (h : ((V : Int) / 2 ^ n != 0) = true) :
    Calls Try.prog 59 #[.agg #[.slice a xs.length cap, .int .i64 N], .int .u64 V, .int .i64 n] w fun e w' => ∃ v', e = .returned (.tuple #[.agg #[v', .int .i64 (N : Int)], .int .i64 1]) ∧ RwF w.heap.size .u8 w' v' xs ∧ Below w.heap.size w w' := by
  have hd : decide (0 ≤ (n : Int) ∧ (n : Int) ≤ 32) = true := decide_eq_true (by omega)
  have hW := below2 w (.cells #[.slice a xs.length cap, .int .i64 (N : Int)] 55) (.cells #[.slice none 0 0, .int .i64 0] 55)
  have hv1 := hv.below hW
  go_enter Try.func59, Try.ntmps59
  go_wp2_with (go_at_call 67; refine (right_any _ xs (N : Int) _ hv1 hx).mono ?_; rintro e w' ⟨rfl, hb1⟩; obtain ⟨hc1, hf1⟩ := bcell hb1; rw [hr])
  have hz := hb1.size
  simp at hz
  have hBw := bthen hW hb1 hW.size
  have k0 : w'.cell? ⟨w.heap.size, 0, none⟩ = some (.slice a xs.length cap) := by rw [hc1 _ _ (by simp; omega)]; simp [go_sem]
  have k1 : w'.cell? ⟨w.heap.size, 1, none⟩ = some (.int .i64 (N : Int)) := by rw [hc1 _ _ (by simp; omega)]; simp [go_sem]
  have k2 : w'.cell? ⟨w.heap.size + 1, 0, none⟩ = some (.slice none 0 0) := by rw [hc1 _ _ (by simp)]; simp [go_sem]
  have k3 : w'.cell? ⟨w.heap.size + 1, 1, none⟩ = some (.int .i64 0) := by rw [hc1 _ _ (by simp)]; simp [go_sem]
  have f2 : ∀ o, w'.frozen? ⟨w.heap.size + 1, o, none⟩ = false := by intro o; rw [hf1 _ _ (by simp)]; simp [go_sem]
  have hBW : Below w.heap.size w w' := hBw
  have hzW : w.heap.size + 1 < w'.heap.size := by omega
  have hvW : Rw .u8 w' (.slice a xs.length cap) xs := hv.below hBW
  clear hc1 hf1 hb1 hv1 hv hW hBw
  go_wp2_with (first | (go_at_call 61; refine (widthFits_any _ _).mono ?_; rintro e w'' ⟨rfl, rfl⟩; rw [hd]) | (go_at_call 68; refine (grown_any _ _ xs N 0 _ hvW (by have := hlen.out; omega) (by omega)).mono ?_; rintro e w2 ⟨g, rfl, hg, hrow, hb2⟩; obtain ⟨hc2, hf2⟩ := bcell hb2))
  have hz2 := hb2.size
  have hne : g ≠ w.heap.size + 1 := by omega
  refine bodyPost_ret (v := .tuple #[.agg #[.slice (some ⟨g, 0, none⟩) ((N + 0 + 7) / 8) ((N + 0 + 7) / 8), .int .i64 (N : Int)], .int .i64 1]) (by simp [results, Try.results59, go_sem, hc2, k2, k3, f2, hf2, hzW]) rfl ⟨_, rfl, ?_, bset2 (bthen hBW hb2 (by omega)) _ _ _ _ _ _ (by omega) (by omega)⟩
  have hrow2 : ((w2.setCell ⟨w.heap.size + 1, 0, none⟩ (.slice (some ⟨g, 0, none⟩) ((N + 0 + 7) / 8) ((N + 0 + 7) / 8))).setCell ⟨w.heap.size + 1, 1, none⟩ (.int .i64 (N : Int))).heap[g]? = some (.cells ((xs).map (Value.int .u8)).toArray 5 (0, 0)) := by
    rw [Below.heap_setCell _ _ _ _ (by simpa using hne), Below.heap_setCell _ _ _ _ (by simpa using hne), hrow]
    rw [zeros_none xs N hlen.out]
  exact RwF.of_row hrow2 (by have := hlen.out; omega) (by omega)

set_option maxHeartbeats 1000000 in
theorem put_right_full (a : Option Addr) (cap : Nat) (xs : List Int) (N : Nat) (w : World) (hv : Rw .u8 w (.slice a xs.length cap) xs) (hx : Byts xs) (hr : rightB xs N = true) (hN : N ≤ 32000) (hlen : Hid (xs.length = (N + 7) / 8)) (V n : Nat) (hV : V < 2 ^ 64) (hn : n ≤ 32) (h : ((V : Int) / 2 ^ n != 0) = false) (hfull : 32000 < N + n) :
    Calls Try.prog 59 #[.agg #[.slice a xs.length cap, .int .i64 N], .int .u64 V, .int .i64 n] w fun e w' => ∃ v', e = .returned (.tuple #[.agg #[v', .int .i64 (N : Int)], .int .i64 3]) ∧ RwF w.heap.size .u8 w' v' xs ∧ Below w.heap.size w w' := by
  have hd : decide (0 ≤ (n : Int) ∧ (n : Int) ≤ 32) = true := decide_eq_true (by omega)
  have hW := below2 w (.cells #[.slice a xs.length cap, .int .i64 (N : Int)] 55) (.cells #[.slice none 0 0, .int .i64 0] 55)
  have hv1 := hv.below hW
  go_enter Try.func59, Try.ntmps59
  go_wp2_with (go_at_call 67; refine (right_any _ xs (N : Int) _ hv1 hx).mono ?_; rintro e w' ⟨rfl, hb1⟩; obtain ⟨hc1, hf1⟩ := bcell hb1; rw [hr])
  have hz := hb1.size
  simp at hz
  have hBw := bthen hW hb1 hW.size
  have k0 : w'.cell? ⟨w.heap.size, 0, none⟩ = some (.slice a xs.length cap) := by rw [hc1 _ _ (by simp; omega)]; simp [go_sem]
  have k1 : w'.cell? ⟨w.heap.size, 1, none⟩ = some (.int .i64 (N : Int)) := by rw [hc1 _ _ (by simp; omega)]; simp [go_sem]
  have k2 : w'.cell? ⟨w.heap.size + 1, 0, none⟩ = some (.slice none 0 0) := by rw [hc1 _ _ (by simp)]; simp [go_sem]
  have k3 : w'.cell? ⟨w.heap.size + 1, 1, none⟩ = some (.int .i64 0) := by rw [hc1 _ _ (by simp)]; simp [go_sem]
  have f2 : ∀ o, w'.frozen? ⟨w.heap.size + 1, o, none⟩ = false := by intro o; rw [hf1 _ _ (by simp)]; simp [go_sem]
  have hBW : Below w.heap.size w w' := hBw
  have hzW : w.heap.size + 1 < w'.heap.size := by omega
  have hvW : Rw .u8 w' (.slice a xs.length cap) xs := hv.below hBW
  clear hc1 hf1 hb1 hv1 hv hW hBw
  go_wp2_with (first | (go_at_call 61; refine (widthFits_any _ _).mono ?_; rintro e w'' ⟨rfl, rfl⟩; rw [hd]) | (go_at_call 68; refine (grown_any _ _ xs N 0 _ hvW (by have := hlen.out; omega) (by omega)).mono ?_; rintro e w2 ⟨g, rfl, hg, hrow, hb2⟩; obtain ⟨hc2, hf2⟩ := bcell hb2))
  have hz2 := hb2.size
  have hne : g ≠ w.heap.size + 1 := by omega
  refine bodyPost_ret (v := .tuple #[.agg #[.slice (some ⟨g, 0, none⟩) ((N + 0 + 7) / 8) ((N + 0 + 7) / 8), .int .i64 (N : Int)], .int .i64 3]) (by simp [results, Try.results59, go_sem, hc2, k2, k3, f2, hf2, hzW]) rfl ⟨_, rfl, ?_, bset2 (bthen hBW hb2 (by omega)) _ _ _ _ _ _ (by omega) (by omega)⟩
  have hrow2 : ((w2.setCell ⟨w.heap.size + 1, 0, none⟩ (.slice (some ⟨g, 0, none⟩) ((N + 0 + 7) / 8) ((N + 0 + 7) / 8))).setCell ⟨w.heap.size + 1, 1, none⟩ (.int .i64 (N : Int))).heap[g]? = some (.cells ((xs).map (Value.int .u8)).toArray 5 (0, 0)) := by
    rw [Below.heap_setCell _ _ _ _ (by simpa using hne), Below.heap_setCell _ _ _ _ (by simpa using hne), hrow]
    rw [zeros_none xs N hlen.out]
  exact RwF.of_row hrow2 (by have := hlen.out; omega) (by omega)

set_option maxHeartbeats 2000000 in
theorem put_right_ok (a : Option Addr) (cap : Nat) (xs : List Int) (N : Nat) (w : World) (hv : Rw .u8 w (.slice a xs.length cap) xs) (hx : Byts xs) (hr : rightB xs N = true) (hN : N ≤ 32000) (hlen : Hid (xs.length = (N + 7) / 8)) (V n : Nat) (hV : V < 2 ^ 64) (hn : n ≤ 32) (h : ((V : Int) / 2 ^ n != 0) = false) (hfit : N + n ≤ 32000) (HX : Hid (bv xs < 2 ^ N)) :
    Calls Try.prog 59 #[.agg #[.slice a xs.length cap, .int .i64 N], .int .u64 V, .int .i64 n] w fun e w' => ∃ v', ∃ cur, e = .returned (.tuple #[.agg #[v', .int .i64 ((N : Int) + (n : Int))], .int .i64 0]) ∧ RwF w.heap.size .u8 w' v' cur ∧ Below w.heap.size w w' ∧ Byts cur ∧ cur.length = ((N + n + 7) / 8) ∧ bv cur = bv xs + V % 2 ^ n * 2 ^ N := by
  have hd : decide (0 ≤ (n : Int) ∧ (n : Int) ≤ 32) = true := decide_eq_true (by omega)
  have hW := below2 w (.cells #[.slice a xs.length cap, .int .i64 (N : Int)] 55) (.cells #[.slice none 0 0, .int .i64 0] 55)
  have hv1 := hv.below hW
  go_enter Try.func59, Try.ntmps59
  go_wp2_with (go_at_call 67; refine (right_any _ xs (N : Int) _ hv1 hx).mono ?_; rintro e w' ⟨rfl, hb1⟩; obtain ⟨hc1, hf1⟩ := bcell hb1; rw [hr])
  have hz := hb1.size
  simp at hz
  have hBw := bthen hW hb1 hW.size
  have k0 : w'.cell? ⟨w.heap.size, 0, none⟩ = some (.slice a xs.length cap) := by rw [hc1 _ _ (by simp; omega)]; simp [go_sem]
  have k1 : w'.cell? ⟨w.heap.size, 1, none⟩ = some (.int .i64 (N : Int)) := by rw [hc1 _ _ (by simp; omega)]; simp [go_sem]
  have k2 : w'.cell? ⟨w.heap.size + 1, 0, none⟩ = some (.slice none 0 0) := by rw [hc1 _ _ (by simp)]; simp [go_sem]
  have k3 : w'.cell? ⟨w.heap.size + 1, 1, none⟩ = some (.int .i64 0) := by rw [hc1 _ _ (by simp)]; simp [go_sem]
  have f2 : ∀ o, w'.frozen? ⟨w.heap.size + 1, o, none⟩ = false := by intro o; rw [hf1 _ _ (by simp)]; simp [go_sem]
  have hBW : Below w.heap.size w w' := hBw
  have hzW : w.heap.size + 1 < w'.heap.size := by omega
  have hvW : Rw .u8 w' (.slice a xs.length cap) xs := hv.below hBW
  clear hc1 hf1 hb1 hv1 hv hW hBw
  go_wp2_with (first | (go_at_call 61; refine (widthFits_any _ _).mono ?_; rintro e w'' ⟨rfl, rfl⟩; rw [hd]) | (go_at_call 68; refine (grown_any _ _ xs N n _ hvW (by have := hlen.out; omega) (by omega)).mono ?_; rintro e w2 ⟨g, rfl, hg, hrow, hb2⟩; obtain ⟨hc2, hf2⟩ := bcell hb2))
  have hz2 := hb2.size
  have hg2 : g < w2.heap.size := by
    rcases Nat.lt_or_ge g w2.heap.size with h' | h'
    · exact h'
    · rw [Array.getElem?_eq_none h'] at hrow; cases hrow
  have m1 : (w2.alloc (.cells #[.slice (some ⟨g, 0, none⟩) ((N + n + 7) / 8) ((N + n + 7) / 8), .int .i64 ((N : Int) + (n : Int))] 55)).cell? ⟨w.heap.size, 1, none⟩ = some (.int .i64 (N : Int)) := by
    rw [World.cell?_alloc_past _ _ _ (by omega), hc2 _ _ (by omega), k1]
  have m2 : (w2.alloc (.cells #[.slice (some ⟨g, 0, none⟩) ((N + n + 7) / 8) ((N + n + 7) / 8), .int .i64 ((N : Int) + (n : Int))] 55)).cell? ⟨w.heap.size + 1, 0, none⟩ = some (.slice none 0 0) := by
    rw [World.cell?_alloc_past _ _ _ (by omega), hc2 _ _ (by omega), k2]
  have m3 : (w2.alloc (.cells #[.slice (some ⟨g, 0, none⟩) ((N + n + 7) / 8) ((N + n + 7) / 8), .int .i64 ((N : Int) + (n : Int))] 55)).cell? ⟨w.heap.size + 1, 1, none⟩ = some (.int .i64 0) := by
    rw [World.cell?_alloc_past _ _ _ (by omega), hc2 _ _ (by omega), k3]
  have mf : ∀ o, (w2.alloc (.cells #[.slice (some ⟨g, 0, none⟩) ((N + n + 7) / 8) ((N + n + 7) / 8), .int .i64 ((N : Int) + (n : Int))] 55)).frozen? ⟨w.heap.size + 1, o, none⟩ = false := by
    intro o
    rw [World.frozen?_alloc_past _ _ _ (by omega), hf2 _ _ (by omega), f2]
  have mo0 : (w2.alloc (.cells #[.slice (some ⟨g, 0, none⟩) ((N + n + 7) / 8) ((N + n + 7) / 8), .int .i64 ((N : Int) + (n : Int))] 55)).cell? ⟨w2.heap.size, 0, none⟩ = some (.slice (some ⟨g, 0, none⟩) ((N + n + 7) / 8) ((N + n + 7) / 8)) := by simp [go_sem]
  have mo1 : (w2.alloc (.cells #[.slice (some ⟨g, 0, none⟩) ((N + n + 7) / 8) ((N + n + 7) / 8), .int .i64 ((N : Int) + (n : Int))] 55)).cell? ⟨w2.heap.size, 1, none⟩ = some (.int .i64 ((N : Int) + (n : Int))) := by simp [go_sem]
  have HR : Hid ((w2.alloc (.cells #[.slice (some ⟨g, 0, none⟩) ((N + n + 7) / 8) ((N + n + 7) / 8), .int .i64 ((N : Int) + (n : Int))] 55)).heap[g]? = some (.cells ((xs ++ List.replicate (((N + n + 7) / 8) - (xs).length) 0).map (Value.int .u8)).toArray 5 (0, 0))) := by
    unfold Hid; rw [Below.heap_alloc _ _ _ hg2]; exact hrow
  have hBW3 : Below w.heap.size w (w2.alloc (.cells #[.slice (some ⟨g, 0, none⟩) ((N + n + 7) / 8) ((N + n + 7) / 8), .int .i64 ((N : Int) + (n : Int))] 55)) := (bthen hBW hb2 (by omega)).alloc (by omega) _
  have hz3 : (w2.alloc (.cells #[.slice (some ⟨g, 0, none⟩) ((N + n + 7) / 8) ((N + n + 7) / 8), .int .i64 ((N : Int) + (n : Int))] 55)).heap.size = w2.heap.size + 1 := by simp
  clear hc2 hf2 hb2 hBW hrow k0 k1 k2 k3 f2 hvW
  generalize (w2.alloc (.cells #[.slice (some ⟨g, 0, none⟩) ((N + n + 7) / 8) ((N + n + 7) / 8), .int .i64 ((N : Int) + (n : Int))] 55)) = W3 at *
  go_loopw [37] (fun i wr => ∃ k : Nat, ∃ cur : List Int, k ≤ n ∧ i = .int .i64 k ∧ Hid (W3.grownBy wr (some g)) ∧ Hid (wr.heap[g]? = some (.cells (cur.map (Value.int .u8)).toArray 5 (0, 0))) ∧ Hid (cur.length = ((N + n + 7) / 8)) ∧ Byts cur ∧ Hid (bv cur = bv xs + V % 2 ^ k * 2 ^ N)) (fun i _ => n - (intOf i).toNat)
  case atStart =>
    refine ⟨0, _, by omega, rfl, World.grownBy.refl _ _, HR, ?_, hx.append (Byts.replicate _), ?_⟩
    · unfold Hid; simp; have := hlen.out; omega
    · unfold Hid; rw [bv_append, bv_zero]; simp [Nat.mod_one]
  case round =>
    obtain ⟨k, cur, hk, rfl, hgr, hR, hL, hcur, hB⟩ := hrel
    have a1 := (grownBy_cells hgr.out w.heap.size 1 (by omega) (by omega)).1.trans m1
    have ao := (grownBy_cells hgr.out w2.heap.size 0 (by omega) (by omega)).1.trans mo0
    have ao1 := (grownBy_cells hgr.out w2.heap.size 1 (by omega) (by omega)).1.trans mo1
    have a2 := (grownBy_cells hgr.out (w.heap.size + 1) 0 (by omega) (by omega)).1.trans m2
    have a3 := (grownBy_cells hgr.out (w.heap.size + 1) 1 (by omega) (by omega)).1.trans m3
    have af0 := (grownBy_cells hgr.out (w.heap.size + 1) 0 (by omega) (by omega)).2.trans (mf 0)
    have af1 := (grownBy_cells hgr.out (w.heap.size + 1) 1 (by omega) (by omega)).2.trans (mf 1)
    by_cases hlt : k < n
    · have hi : (N + k) / 8 < cur.length := by have := hL.out; omega
      obtain ⟨c1, c2⟩ := cell_of_row hR.out ((N + k) / 8) hi
      have hxb := hcur.getD ((N + k) / 8)
      generalize hxe : cur.getD ((N + k) / 8) 0 = x at c1 hxb
      have HE : Hid _ := hxe
      have hi2 : ((N + k) / 8) < ((N + n + 7) / 8) := by have := hL.out; omega
      clear hxe hi m1 m2 m3 mf mo0 mo1 HR
      go_wp2
      go_region
      go_wp2
      go_roundw
      case rel =>
        have hst := put_step hcur (bv xs) V N k x (by omega) (by have := hL.out; omega) HX.out (by exact HE.out) hB.out hV
        
        obtain ⟨y, hy, hy0, hy1, hyb⟩ := hst
        rw [hy]
        exact ⟨k + 1, cur.set ((N + k) / 8) y, by omega, by go_num, grownBy_drew (grownBy_set hgr.out _ _), row_set hR.out _ _, by unfold Hid; rw [List.length_set]; exact hL.out, hcur.set _ hy0 hy1, hyb⟩
      case measure => simp [intOf]; omega
    · have hge : n ≤ k := by omega
      clear hlt m1 m2 m3 mf mo0 mo1 HR
      go_wp2
      have hkn : k = n := by omega
      subst hkn
      refine bodyPost_ret (v := .tuple #[.agg #[.slice (some ⟨g, 0, none⟩) ((N + k + 7) / 8) ((N + k + 7) / 8), .int .i64 ((N : Int) + (k : Int))], .int .i64 0]) (by simp [results, Try.results59, go_sem, a2, a3, af0, af1]) rfl ⟨_, cur, rfl, ?_, ?_, hcur, hL.out, hB.out⟩
      · refine RwF.of_row (e := 5) ?_ hL.out (by omega)
        rw [Below.heap_setCell _ _ _ _ (by show g ≠ w.heap.size + 1; omega), Below.heap_setCell _ _ _ _ (by show g ≠ w.heap.size + 1; omega)]
        exact hR.out
      · exact bset2 (hBW3.grown hgr.out (by omega) (fun k hk => by cases hk; omega)) _ _ _ _ _ _ (by omega) (by omega)

set_option maxHeartbeats 1000000 in
theorem put_wrong_arg (a : Option Addr) (cap : Nat) (xs : List Int) (M : Int) (w : World) (hv : Rw .u8 w (.slice a xs.length cap) xs) (hx : Byts xs) (hr : rightB xs M = false) (V : Nat) (n : Int) (hV : V < 2 ^ 64) (h : ¬ (0 ≤ n ∧ n ≤ 32)) :
    Calls Try.prog 59 #[.agg #[.slice a xs.length cap, .int .i64 M], .int .u64 V, .int .i64 n] w fun e w' => ∃ v', e = .returned (.tuple #[.agg #[v', .int .i64 0], .int .i64 1]) ∧ RwF w.heap.size .u8 w' v' ([] : List Int) ∧ Below w.heap.size w w' := by
  have hd : decide (0 ≤ n ∧ n ≤ 32) = false := decide_eq_false h
  have hW := below2 w (.cells #[.slice a xs.length cap, .int .i64 M] 55) (.cells #[.slice none 0 0, .int .i64 0] 55)
  have hv1 := hv.below hW
  go_enter Try.func59, Try.ntmps59
  go_wp2_with (go_at_call 67; refine (right_any _ xs M _ hv1 hx).mono ?_; rintro e w' ⟨rfl, hb1⟩; obtain ⟨hc1, hf1⟩ := bcell hb1; rw [hr])
  have hz := hb1.size
  simp at hz
  have hBw := bthen hW hb1 hW.size
  have q0 : w'.cell? ⟨w.heap.size, 0, none⟩ = some (.slice a xs.length cap) := by rw [hc1 _ _ (by simp; omega)]; simp [go_sem]
  have q1 : w'.cell? ⟨w.heap.size, 1, none⟩ = some (.int .i64 M) := by rw [hc1 _ _ (by simp; omega)]; simp [go_sem]
  have k0 : ((w'.setCell ⟨w.heap.size, 0, none⟩ (.slice none 0 0)).setCell ⟨w.heap.size, 1, none⟩ (.int .i64 0)).cell? ⟨w.heap.size, 0, none⟩ = some (.slice none 0 0) := by simp [go_sem, q0, q1]; try omega
  have k1 : ((w'.setCell ⟨w.heap.size, 0, none⟩ (.slice none 0 0)).setCell ⟨w.heap.size, 1, none⟩ (.int .i64 0)).cell? ⟨w.heap.size, 1, none⟩ = some (.int .i64 0) := by simp [go_sem, q0, q1]; try omega
  have k2 : ((w'.setCell ⟨w.heap.size, 0, none⟩ (.slice none 0 0)).setCell ⟨w.heap.size, 1, none⟩ (.int .i64 0)).cell? ⟨w.heap.size + 1, 0, none⟩ = some (.slice none 0 0) := by rw [World.cell?_setCell_other _ _ _ _ (by simp), World.cell?_setCell_other _ _ _ _ (by simp)]; rw [hc1 _ _ (by simp)]; simp [go_sem]
  have k3 : ((w'.setCell ⟨w.heap.size, 0, none⟩ (.slice none 0 0)).setCell ⟨w.heap.size, 1, none⟩ (.int .i64 0)).cell? ⟨w.heap.size + 1, 1, none⟩ = some (.int .i64 0) := by rw [World.cell?_setCell_other _ _ _ _ (by simp), World.cell?_setCell_other _ _ _ _ (by simp)]; rw [hc1 _ _ (by simp)]; simp [go_sem]
  have f2 : ∀ o, ((w'.setCell ⟨w.heap.size, 0, none⟩ (.slice none 0 0)).setCell ⟨w.heap.size, 1, none⟩ (.int .i64 0)).frozen? ⟨w.heap.size + 1, o, none⟩ = false := by intro o; rw [frozen_set, frozen_set]; rw [hf1 _ _ (by simp)]; simp [go_sem]
  have hBW : Below w.heap.size w ((w'.setCell ⟨w.heap.size, 0, none⟩ (.slice none 0 0)).setCell ⟨w.heap.size, 1, none⟩ (.int .i64 0)) := bset2 hBw _ _ _ _ _ _ (by omega) (by omega)
  have hzW : w.heap.size + 1 < ((w'.setCell ⟨w.heap.size, 0, none⟩ (.slice none 0 0)).setCell ⟨w.heap.size, 1, none⟩ (.int .i64 0)).heap.size := by simp [World.setCell]; omega
  have hvW : Rw .u8 ((w'.setCell ⟨w.heap.size, 0, none⟩ (.slice none 0 0)).setCell ⟨w.heap.size, 1, none⟩ (.int .i64 0)) (.slice none 0 0) ([] : List Int) := ⟨none, 0, rfl, .inl rfl⟩
  clear hc1 hf1 hb1 hv1 hv hW hBw q0 q1
  generalize ((w'.setCell ⟨w.heap.size, 0, none⟩ (.slice none 0 0)).setCell ⟨w.heap.size, 1, none⟩ (.int .i64 0)) = W at *
  go_wp2_with (first | (go_at_call 61; refine (widthFits_any _ _).mono ?_; rintro e w'' ⟨rfl, rfl⟩; rw [hd]) | (go_at_call 68; refine (grown_any _ _ ([] : List Int) 0 0 _ hvW (by simp) (by omega)).mono ?_; rintro e w2 ⟨g, rfl, hg, hrow, hb2⟩; obtain ⟨hc2, hf2⟩ := bcell hb2))
  have hz2 := hb2.size
  have hne : g ≠ w.heap.size + 1 := by omega
  refine bodyPost_ret (v := .tuple #[.agg #[.slice (some ⟨g, 0, none⟩) ((0 + 0 + 7) / 8) ((0 + 0 + 7) / 8), .int .i64 0], .int .i64 1]) (by simp [results, Try.results59, go_sem, hc2, k2, k3, f2, hf2, hzW]) rfl ⟨_, rfl, ?_, bset2 (bthen hBW hb2 (by omega)) _ _ _ _ _ _ (by omega) (by omega)⟩
  have hrow2 : ((w2.setCell ⟨w.heap.size + 1, 0, none⟩ (.slice (some ⟨g, 0, none⟩) ((0 + 0 + 7) / 8) ((0 + 0 + 7) / 8))).setCell ⟨w.heap.size + 1, 1, none⟩ (.int .i64 0)).heap[g]? = some (.cells ((([] : List Int)).map (Value.int .u8)).toArray 5 (0, 0)) := by
    rw [Below.heap_setCell _ _ _ _ (by simpa using hne), Below.heap_setCell _ _ _ _ (by simpa using hne), hrow]
    rfl
  exact RwF.of_row hrow2 (by rfl) (by omega)

set_option maxHeartbeats 1000000 in
theorem put_wrong_big (a : Option Addr) (cap : Nat) (xs : List Int) (M : Int) (w : World) (hv : Rw .u8 w (.slice a xs.length cap) xs) (hx : Byts xs) (hr : rightB xs M = false) (V n : Nat) (hV : V < 2 ^ 64) (hn : n ≤ 32) (h : ((V : Int) / 2 ^ n != 0) = true) :
    Calls Try.prog 59 #[.agg #[.slice a xs.length cap, .int .i64 M], .int .u64 V, .int .i64 n] w fun e w' => ∃ v', e = .returned (.tuple #[.agg #[v', .int .i64 0], .int .i64 1]) ∧ RwF w.heap.size .u8 w' v' ([] : List Int) ∧ Below w.heap.size w w' := by
  have hd : decide (0 ≤ (n : Int) ∧ (n : Int) ≤ 32) = true := decide_eq_true (by omega)
  have hW := below2 w (.cells #[.slice a xs.length cap, .int .i64 M] 55) (.cells #[.slice none 0 0, .int .i64 0] 55)
  have hv1 := hv.below hW
  go_enter Try.func59, Try.ntmps59
  go_wp2_with (go_at_call 67; refine (right_any _ xs M _ hv1 hx).mono ?_; rintro e w' ⟨rfl, hb1⟩; obtain ⟨hc1, hf1⟩ := bcell hb1; rw [hr])
  have hz := hb1.size
  simp at hz
  have hBw := bthen hW hb1 hW.size
  have q0 : w'.cell? ⟨w.heap.size, 0, none⟩ = some (.slice a xs.length cap) := by rw [hc1 _ _ (by simp; omega)]; simp [go_sem]
  have q1 : w'.cell? ⟨w.heap.size, 1, none⟩ = some (.int .i64 M) := by rw [hc1 _ _ (by simp; omega)]; simp [go_sem]
  have k0 : ((w'.setCell ⟨w.heap.size, 0, none⟩ (.slice none 0 0)).setCell ⟨w.heap.size, 1, none⟩ (.int .i64 0)).cell? ⟨w.heap.size, 0, none⟩ = some (.slice none 0 0) := by simp [go_sem, q0, q1]; try omega
  have k1 : ((w'.setCell ⟨w.heap.size, 0, none⟩ (.slice none 0 0)).setCell ⟨w.heap.size, 1, none⟩ (.int .i64 0)).cell? ⟨w.heap.size, 1, none⟩ = some (.int .i64 0) := by simp [go_sem, q0, q1]; try omega
  have k2 : ((w'.setCell ⟨w.heap.size, 0, none⟩ (.slice none 0 0)).setCell ⟨w.heap.size, 1, none⟩ (.int .i64 0)).cell? ⟨w.heap.size + 1, 0, none⟩ = some (.slice none 0 0) := by rw [World.cell?_setCell_other _ _ _ _ (by simp), World.cell?_setCell_other _ _ _ _ (by simp)]; rw [hc1 _ _ (by simp)]; simp [go_sem]
  have k3 : ((w'.setCell ⟨w.heap.size, 0, none⟩ (.slice none 0 0)).setCell ⟨w.heap.size, 1, none⟩ (.int .i64 0)).cell? ⟨w.heap.size + 1, 1, none⟩ = some (.int .i64 0) := by rw [World.cell?_setCell_other _ _ _ _ (by simp), World.cell?_setCell_other _ _ _ _ (by simp)]; rw [hc1 _ _ (by simp)]; simp [go_sem]
  have f2 : ∀ o, ((w'.setCell ⟨w.heap.size, 0, none⟩ (.slice none 0 0)).setCell ⟨w.heap.size, 1, none⟩ (.int .i64 0)).frozen? ⟨w.heap.size + 1, o, none⟩ = false := by intro o; rw [frozen_set, frozen_set]; rw [hf1 _ _ (by simp)]; simp [go_sem]
  have hBW : Below w.heap.size w ((w'.setCell ⟨w.heap.size, 0, none⟩ (.slice none 0 0)).setCell ⟨w.heap.size, 1, none⟩ (.int .i64 0)) := bset2 hBw _ _ _ _ _ _ (by omega) (by omega)
  have hzW : w.heap.size + 1 < ((w'.setCell ⟨w.heap.size, 0, none⟩ (.slice none 0 0)).setCell ⟨w.heap.size, 1, none⟩ (.int .i64 0)).heap.size := by simp [World.setCell]; omega
  have hvW : Rw .u8 ((w'.setCell ⟨w.heap.size, 0, none⟩ (.slice none 0 0)).setCell ⟨w.heap.size, 1, none⟩ (.int .i64 0)) (.slice none 0 0) ([] : List Int) := ⟨none, 0, rfl, .inl rfl⟩
  clear hc1 hf1 hb1 hv1 hv hW hBw q0 q1
  generalize ((w'.setCell ⟨w.heap.size, 0, none⟩ (.slice none 0 0)).setCell ⟨w.heap.size, 1, none⟩ (.int .i64 0)) = W at *
  go_wp2_with (first | (go_at_call 61; refine (widthFits_any _ _).mono ?_; rintro e w'' ⟨rfl, rfl⟩; rw [hd]) | (go_at_call 68; refine (grown_any _ _ ([] : List Int) 0 0 _ hvW (by simp) (by omega)).mono ?_; rintro e w2 ⟨g, rfl, hg, hrow, hb2⟩; obtain ⟨hc2, hf2⟩ := bcell hb2))
  have hz2 := hb2.size
  have hne : g ≠ w.heap.size + 1 := by omega
  refine bodyPost_ret (v := .tuple #[.agg #[.slice (some ⟨g, 0, none⟩) ((0 + 0 + 7) / 8) ((0 + 0 + 7) / 8), .int .i64 0], .int .i64 1]) (by simp [results, Try.results59, go_sem, hc2, k2, k3, f2, hf2, hzW]) rfl ⟨_, rfl, ?_, bset2 (bthen hBW hb2 (by omega)) _ _ _ _ _ _ (by omega) (by omega)⟩
  have hrow2 : ((w2.setCell ⟨w.heap.size + 1, 0, none⟩ (.slice (some ⟨g, 0, none⟩) ((0 + 0 + 7) / 8) ((0 + 0 + 7) / 8))).setCell ⟨w.heap.size + 1, 1, none⟩ (.int .i64 0)).heap[g]? = some (.cells ((([] : List Int)).map (Value.int .u8)).toArray 5 (0, 0)) := by
    rw [Below.heap_setCell _ _ _ _ (by simpa using hne), Below.heap_setCell _ _ _ _ (by simpa using hne), hrow]
    rfl
  exact RwF.of_row hrow2 (by rfl) (by omega)

set_option maxHeartbeats 2000000 in
theorem put_wrong_ok (a : Option Addr) (cap : Nat) (xs : List Int) (M : Int) (w : World) (hv : Rw .u8 w (.slice a xs.length cap) xs) (hx : Byts xs) (hr : rightB xs M = false) (V n : Nat) (hV : V < 2 ^ 64) (hn : n ≤ 32) (h : ((V : Int) / 2 ^ n != 0) = false) (hfit : 0 + n ≤ 32000) (HX : Hid (bv ([] : List Int) < 2 ^ 0)) :
    Calls Try.prog 59 #[.agg #[.slice a xs.length cap, .int .i64 M], .int .u64 V, .int .i64 n] w fun e w' => ∃ v', ∃ cur, e = .returned (.tuple #[.agg #[v', .int .i64 ((n : Int))], .int .i64 0]) ∧ RwF w.heap.size .u8 w' v' cur ∧ Below w.heap.size w w' ∧ Byts cur ∧ cur.length = ((n + 7) / 8) ∧ bv cur = bv ([] : List Int) + V % 2 ^ n * 2 ^ 0 := by
  have hd : decide (0 ≤ (n : Int) ∧ (n : Int) ≤ 32) = true := decide_eq_true (by omega)
  have hW := below2 w (.cells #[.slice a xs.length cap, .int .i64 M] 55) (.cells #[.slice none 0 0, .int .i64 0] 55)
  have hv1 := hv.below hW
  go_enter Try.func59, Try.ntmps59
  go_wp2_with (go_at_call 67; refine (right_any _ xs M _ hv1 hx).mono ?_; rintro e w' ⟨rfl, hb1⟩; obtain ⟨hc1, hf1⟩ := bcell hb1; rw [hr])
  have hz := hb1.size
  simp at hz
  have hBw := bthen hW hb1 hW.size
  have q0 : w'.cell? ⟨w.heap.size, 0, none⟩ = some (.slice a xs.length cap) := by rw [hc1 _ _ (by simp; omega)]; simp [go_sem]
  have q1 : w'.cell? ⟨w.heap.size, 1, none⟩ = some (.int .i64 M) := by rw [hc1 _ _ (by simp; omega)]; simp [go_sem]
  have k0 : ((w'.setCell ⟨w.heap.size, 0, none⟩ (.slice none 0 0)).setCell ⟨w.heap.size, 1, none⟩ (.int .i64 0)).cell? ⟨w.heap.size, 0, none⟩ = some (.slice none 0 0) := by simp [go_sem, q0, q1]; try omega
  have k1 : ((w'.setCell ⟨w.heap.size, 0, none⟩ (.slice none 0 0)).setCell ⟨w.heap.size, 1, none⟩ (.int .i64 0)).cell? ⟨w.heap.size, 1, none⟩ = some (.int .i64 0) := by simp [go_sem, q0, q1]; try omega
  have k2 : ((w'.setCell ⟨w.heap.size, 0, none⟩ (.slice none 0 0)).setCell ⟨w.heap.size, 1, none⟩ (.int .i64 0)).cell? ⟨w.heap.size + 1, 0, none⟩ = some (.slice none 0 0) := by rw [World.cell?_setCell_other _ _ _ _ (by simp), World.cell?_setCell_other _ _ _ _ (by simp)]; rw [hc1 _ _ (by simp)]; simp [go_sem]
  have k3 : ((w'.setCell ⟨w.heap.size, 0, none⟩ (.slice none 0 0)).setCell ⟨w.heap.size, 1, none⟩ (.int .i64 0)).cell? ⟨w.heap.size + 1, 1, none⟩ = some (.int .i64 0) := by rw [World.cell?_setCell_other _ _ _ _ (by simp), World.cell?_setCell_other _ _ _ _ (by simp)]; rw [hc1 _ _ (by simp)]; simp [go_sem]
  have f2 : ∀ o, ((w'.setCell ⟨w.heap.size, 0, none⟩ (.slice none 0 0)).setCell ⟨w.heap.size, 1, none⟩ (.int .i64 0)).frozen? ⟨w.heap.size + 1, o, none⟩ = false := by intro o; rw [frozen_set, frozen_set]; rw [hf1 _ _ (by simp)]; simp [go_sem]
  have hBW : Below w.heap.size w ((w'.setCell ⟨w.heap.size, 0, none⟩ (.slice none 0 0)).setCell ⟨w.heap.size, 1, none⟩ (.int .i64 0)) := bset2 hBw _ _ _ _ _ _ (by omega) (by omega)
  have hzW : w.heap.size + 1 < ((w'.setCell ⟨w.heap.size, 0, none⟩ (.slice none 0 0)).setCell ⟨w.heap.size, 1, none⟩ (.int .i64 0)).heap.size := by simp [World.setCell]; omega
  have hvW : Rw .u8 ((w'.setCell ⟨w.heap.size, 0, none⟩ (.slice none 0 0)).setCell ⟨w.heap.size, 1, none⟩ (.int .i64 0)) (.slice none 0 0) ([] : List Int) := ⟨none, 0, rfl, .inl rfl⟩
  clear hc1 hf1 hb1 hv1 hv hW hBw q0 q1
  generalize ((w'.setCell ⟨w.heap.size, 0, none⟩ (.slice none 0 0)).setCell ⟨w.heap.size, 1, none⟩ (.int .i64 0)) = W at *
  go_wp2_with (first | (go_at_call 61; refine (widthFits_any _ _).mono ?_; rintro e w'' ⟨rfl, rfl⟩; rw [hd]) | (go_at_call 68; refine (grown_any _ _ ([] : List Int) 0 n _ hvW (by simp) (by omega)).mono ?_; rintro e w2 ⟨g, rfl, hg, hrow, hb2⟩; obtain ⟨hc2, hf2⟩ := bcell hb2))
  have hz2 := hb2.size
  have hg2 : g < w2.heap.size := by
    rcases Nat.lt_or_ge g w2.heap.size with h' | h'
    · exact h'
    · rw [Array.getElem?_eq_none h'] at hrow; cases hrow
  have m1 : (w2.alloc (.cells #[.slice (some ⟨g, 0, none⟩) ((n + 7) / 8) ((n + 7) / 8), .int .i64 ((n : Int))] 55)).cell? ⟨w.heap.size, 1, none⟩ = some (.int .i64 0) := by
    rw [World.cell?_alloc_past _ _ _ (by omega), hc2 _ _ (by omega), k1]
  have m2 : (w2.alloc (.cells #[.slice (some ⟨g, 0, none⟩) ((n + 7) / 8) ((n + 7) / 8), .int .i64 ((n : Int))] 55)).cell? ⟨w.heap.size + 1, 0, none⟩ = some (.slice none 0 0) := by
    rw [World.cell?_alloc_past _ _ _ (by omega), hc2 _ _ (by omega), k2]
  have m3 : (w2.alloc (.cells #[.slice (some ⟨g, 0, none⟩) ((n + 7) / 8) ((n + 7) / 8), .int .i64 ((n : Int))] 55)).cell? ⟨w.heap.size + 1, 1, none⟩ = some (.int .i64 0) := by
    rw [World.cell?_alloc_past _ _ _ (by omega), hc2 _ _ (by omega), k3]
  have mf : ∀ o, (w2.alloc (.cells #[.slice (some ⟨g, 0, none⟩) ((n + 7) / 8) ((n + 7) / 8), .int .i64 ((n : Int))] 55)).frozen? ⟨w.heap.size + 1, o, none⟩ = false := by
    intro o
    rw [World.frozen?_alloc_past _ _ _ (by omega), hf2 _ _ (by omega), f2]
  have mo0 : (w2.alloc (.cells #[.slice (some ⟨g, 0, none⟩) ((n + 7) / 8) ((n + 7) / 8), .int .i64 ((n : Int))] 55)).cell? ⟨w2.heap.size, 0, none⟩ = some (.slice (some ⟨g, 0, none⟩) ((n + 7) / 8) ((n + 7) / 8)) := by simp [go_sem]
  have mo1 : (w2.alloc (.cells #[.slice (some ⟨g, 0, none⟩) ((n + 7) / 8) ((n + 7) / 8), .int .i64 ((n : Int))] 55)).cell? ⟨w2.heap.size, 1, none⟩ = some (.int .i64 ((n : Int))) := by simp [go_sem]
  have HR : Hid ((w2.alloc (.cells #[.slice (some ⟨g, 0, none⟩) ((n + 7) / 8) ((n + 7) / 8), .int .i64 ((n : Int))] 55)).heap[g]? = some (.cells ((([] : List Int) ++ List.replicate (((n + 7) / 8) - (([] : List Int)).length) 0).map (Value.int .u8)).toArray 5 (0, 0))) := by
    unfold Hid; rw [Below.heap_alloc _ _ _ hg2]; simpa using hrow
  have hBW3 : Below w.heap.size w (w2.alloc (.cells #[.slice (some ⟨g, 0, none⟩) ((n + 7) / 8) ((n + 7) / 8), .int .i64 ((n : Int))] 55)) := (bthen hBW hb2 (by omega)).alloc (by omega) _
  have hz3 : (w2.alloc (.cells #[.slice (some ⟨g, 0, none⟩) ((n + 7) / 8) ((n + 7) / 8), .int .i64 ((n : Int))] 55)).heap.size = w2.heap.size + 1 := by simp
  clear hc2 hf2 hb2 hBW hrow k0 k1 k2 k3 f2 hvW
  generalize (w2.alloc (.cells #[.slice (some ⟨g, 0, none⟩) ((n + 7) / 8) ((n + 7) / 8), .int .i64 ((n : Int))] 55)) = W3 at *
  go_loopw [37] (fun i wr => ∃ k : Nat, ∃ cur : List Int, k ≤ n ∧ i = .int .i64 k ∧ Hid (W3.grownBy wr (some g)) ∧ Hid (wr.heap[g]? = some (.cells (cur.map (Value.int .u8)).toArray 5 (0, 0))) ∧ Hid (cur.length = ((n + 7) / 8)) ∧ Byts cur ∧ Hid (bv cur = bv ([] : List Int) + V % 2 ^ k * 2 ^ 0)) (fun i _ => n - (intOf i).toNat)
  case atStart =>
    refine ⟨0, _, by omega, rfl, World.grownBy.refl _ _, HR, ?_, Byts.nil.append (Byts.replicate _), ?_⟩
    · unfold Hid; simp
    · unfold Hid; rw [bv_append, bv_zero]; simp [Nat.mod_one]
  case round =>
    obtain ⟨k, cur, hk, rfl, hgr, hR, hL, hcur, hB⟩ := hrel
    have a1 := (grownBy_cells hgr.out w.heap.size 1 (by omega) (by omega)).1.trans m1
    have ao := (grownBy_cells hgr.out w2.heap.size 0 (by omega) (by omega)).1.trans mo0
    have ao1 := (grownBy_cells hgr.out w2.heap.size 1 (by omega) (by omega)).1.trans mo1
    have a2 := (grownBy_cells hgr.out (w.heap.size + 1) 0 (by omega) (by omega)).1.trans m2
    have a3 := (grownBy_cells hgr.out (w.heap.size + 1) 1 (by omega) (by omega)).1.trans m3
    have af0 := (grownBy_cells hgr.out (w.heap.size + 1) 0 (by omega) (by omega)).2.trans (mf 0)
    have af1 := (grownBy_cells hgr.out (w.heap.size + 1) 1 (by omega) (by omega)).2.trans (mf 1)
    by_cases hlt : k < n
    · have hi : k / 8 < cur.length := by have := hL.out; omega
      obtain ⟨c1, c2⟩ := cell_of_row hR.out (k / 8) hi
      have hxb := hcur.getD (k / 8)
      generalize hxe : cur.getD (k / 8) 0 = x at c1 hxb
      have HE : Hid _ := hxe
      have hi2 : (k / 8) < ((n + 7) / 8) := by have := hL.out; omega
      clear hxe hi m1 m2 m3 mf mo0 mo1 HR
      go_wp2
      go_region
      go_wp2
      go_roundw
      case rel =>
        have hst := put_step hcur (bv ([] : List Int)) V 0 k x (by omega) (by have := hL.out; omega) HX.out (by rw [Nat.zero_add]; exact HE.out) hB.out hV
        rw [Nat.zero_add] at hst
        obtain ⟨y, hy, hy0, hy1, hyb⟩ := hst
        rw [hy]
        exact ⟨k + 1, cur.set (k / 8) y, by omega, by go_num, grownBy_drew (grownBy_set hgr.out _ _), row_set hR.out _ _, by unfold Hid; rw [List.length_set]; exact hL.out, hcur.set _ hy0 hy1, hyb⟩
      case measure => simp [intOf]; omega
    · have hge : n ≤ k := by omega
      clear hlt m1 m2 m3 mf mo0 mo1 HR
      go_wp2
      have hkn : k = n := by omega
      subst hkn
      refine bodyPost_ret (v := .tuple #[.agg #[.slice (some ⟨g, 0, none⟩) ((k + 7) / 8) ((k + 7) / 8), .int .i64 ((k : Int))], .int .i64 0]) (by simp [results, Try.results59, go_sem, a2, a3, af0, af1]) rfl ⟨_, cur, rfl, ?_, ?_, hcur, hL.out, hB.out⟩
      · refine RwF.of_row (e := 5) ?_ hL.out (by omega)
        rw [Below.heap_setCell _ _ _ _ (by show g ≠ w.heap.size + 1; omega), Below.heap_setCell _ _ _ _ (by show g ≠ w.heap.size + 1; omega)]
        exact hR.out
      · exact bset2 (hBW3.grown hgr.out (by omega) (fun k hk => by cases hk; omega)) _ _ _ _ _ _ (by omega) (by omega)
end Go.Proofs.Ytolfnjlkcppplaa
/- The contract of the document function Put where it tells an error. -/
namespace Go.Proofs.Ytolfnjlkcppplaa
open Go.RowKit
set_option linter.unusedVariables false
set_option linter.unusedSimpArgs false
set_option maxRecDepth 10000

theorem goodN_nat (xs : List Int) (M : Int) : ∃ N : Nat, goodN xs M = N ∧ N ≤ 32000 ∧ (goodX xs M).length = (N + 7) / 8 ∧ bv (goodX xs M) < 2 ^ N := by
  unfold goodN goodX
  by_cases h : rightB xs M = true
  · rw [if_pos h, if_pos h]
    unfold rightB at h
    rw [decide_eq_true_eq] at h
    exact ⟨M.toNat, by omega, by omega, h.2.2.1, h.2.2.2⟩
  · rw [if_neg h, if_neg h]
    exact ⟨0, rfl, by omega, rfl, by simp [bv]⟩
theorem good_byts {xs : List Int} (h : Byts xs) (M : Int) : Byts (goodX xs M) := by
  unfold goodX; split
  · exact h
  · exact Byts.nil
theorem good_le (xs : List Int) (M : Int) : (goodX xs M).length ≤ xs.length := by
  unfold goodX; split <;> simp

theorem bl_put_old (X V N i : Nat) (hi : i < N) : bitAt (X + V * 2 ^ N) i = bitAt X i := by
  unfold bitAt
  have : (X + V * 2 ^ N) / 2 ^ i % 2 = X / 2 ^ i % 2 := by
    obtain ⟨d, rfl⟩ := Nat.exists_eq_add_of_lt hi
    rw [show i + d + 1 = (d + 1) + i by omega, Nat.pow_add, ← Nat.mul_assoc, Nat.add_mul_div_right _ _ (Nat.two_pow_pos i), Nat.pow_succ, ← Nat.mul_assoc]
    omega
  rw [this]
theorem bl_put_new (X V N k : Nat) (hX : X < 2 ^ N) : bitAt (X + V * 2 ^ N) (N + k) = ((V / 2 ^ k % 2 : Nat) : Int) := by
  unfold bitAt
  rw [Nat.pow_add, ← Nat.div_div_eq_div_mul, Nat.add_mul_div_right _ _ (Nat.two_pow_pos N), Nat.div_eq_of_lt hX, Nat.zero_add]
theorem bl_put (X V N : Nat) : bl (X + V * 2 ^ N) N = bl X N := by
  unfold bl
  apply List.map_congr_left
  intro i hi
  exact bl_put_old X V N i (by simpa using hi)
theorem bl_take (X m n : Nat) (h : n ≤ m) : (bl X m).take n = bl X n := by
  unfold bl
  rw [← List.map_take, List.take_range, Nat.min_eq_left h]
theorem put_lt (X V N n : Nat) (hX : X < 2 ^ N) (hV : V < 2 ^ n) : X + V * 2 ^ N < 2 ^ (N + n) := by
  have h2 : (V + 1) * 2 ^ N ≤ 2 ^ n * 2 ^ N := Nat.mul_le_mul_right _ (by omega)
  rw [Nat.add_mul, Nat.one_mul] at h2
  rw [Nat.pow_add, Nat.mul_comm (2 ^ N)]
  omega

/-- What is owned, cut to its first n elements. -/
theorem owns_cut {w : World} {base : Nat} {e : TypeId} {m n : Nat} {xs : List Value} {a : Option Addr} {len cap : Nat} (h : w.ownsRow base e 1 (.slice a len cap) m xs) (hn : n ≤ m) (h0 : n = 0 → a = none → cap = 0) : w.ownsRow base e 1 (.slice a n cap) n (xs.take n) := by
  obtain ⟨h1, h2⟩ := h
  refine ⟨by simp; omega, ?_⟩
  rcases h2 with ⟨hv, h0'⟩ | ⟨g, cap', cur, hv, hg, hh, hcap, hm, hs, ht⟩
  · simp only [Value.slice.injEq] at hv
    obtain ⟨rfl, rfl, rfl⟩ := hv
    left; exact ⟨by rw [show n = 0 by omega], by omega⟩
  · simp only [Value.slice.injEq] at hv
    obtain ⟨rfl, rfl, rfl⟩ := hv
    right
    refine ⟨g, cap, cur, rfl, hg, hh, by omega, hm, hs, ?_⟩
    rw [← ht, List.take_take]; congr 1; omega

theorem bset4b {B : Nat} {a w : World} (h : Below B a w) (p q : Nat) (i j k l : Nat) (x y z u : Value) (hp : B ≤ p) (hq : B ≤ q) : Below B a ((((w.setCell ⟨p, i, none⟩ x).setCell ⟨p, j, none⟩ y).setCell ⟨q, k, none⟩ z).setCell ⟨q, l, none⟩ u) :=
  bset2 (bset2 h p p i j x y hp hp) q q k l z u hq hq

end Go.Proofs.Ytolfnjlkcppplaa
/- The contracts of both Puts, at every argument. -/
namespace Go.Proofs.Ytolfnjlkcppplaa
open Go.RowKit
set_option linter.unusedVariables false
set_option linter.unusedSimpArgs false
set_option maxRecDepth 10000

/-! ### What is put, by the document -/
def putE (xs : List Int) (M : Int) (V : Nat) (n : Int) : Int := if 0 ≤ n ∧ n ≤ 32 ∧ V < 2 ^ n.toNat then (if goodN xs M + n ≤ 32000 then 0 else 3) else 1
def putN (xs : List Int) (M : Int) (V : Nat) (n : Int) : Int := if putE xs M V n = 0 then goodN xs M + n else goodN xs M
def putX (xs : List Int) (M : Int) (V : Nat) (n : Int) : List Int := if putE xs M V n = 0 then byL (bv (goodX xs M) + V * 2 ^ (goodN xs M).toNat) (((goodN xs M).toNat + n.toNat + 7) / 8) else goodX xs M

theorem putX_byts {xs : List Int} (h : Byts xs) (M : Int) (V : Nat) (n : Int) : Byts (putX xs M V n) := by
  unfold putX; split
  · exact byL_byts _ _
  · exact good_byts h M

theorem shr_zero (V m : Nat) : (((V : Int) / 2 ^ m != 0) = false ↔ V < 2 ^ m) := by
  rw [nat_shr]
  have : V / 2 ^ m = 0 ↔ V < 2 ^ m := by rw [Nat.div_eq_zero_iff]; have := Nat.two_pow_pos m; omega
  simp only [bne_eq_false_iff_eq]
  rw [← this]
  omega

theorem put_any (v : Value) (xs : List Int) (M : Int) (V : Nat) (n : Int) (w : World) (hv : Rw .u8 w v xs) (hx : Byts xs) (hV : V < 2 ^ 64) :
    Calls Try.prog 59 #[.agg #[v, .int .i64 M], .int .u64 V, .int .i64 n] w fun e w' => ∃ v', e = .returned (.tuple #[.agg #[v', .int .i64 (putN xs M V n)], .int .i64 (putE xs M V n)]) ∧ RwF w.heap.size .u8 w' v' (putX xs M V n) ∧ Below w.heap.size w w' := by
  have hv0 := hv
  obtain ⟨a, cap, rfl, _⟩ := hv
  by_cases hr : rightB xs M = true
  · have hr' := hr
    unfold rightB at hr'
    rw [decide_eq_true_eq] at hr'
    obtain ⟨N, rfl⟩ := Int.eq_ofNat_of_zero_le hr'.1
    rw [Int.toNat_natCast] at hr'
    have gN : goodN xs N = N := by unfold goodN; rw [if_pos hr]
    have gX : goodX xs N = xs := by unfold goodX; rw [if_pos hr]
    by_cases h1 : 0 ≤ n ∧ n ≤ 32
    · obtain ⟨m, rfl⟩ := Int.eq_ofNat_of_zero_le h1.1
      by_cases h2 : V < 2 ^ m
      · have hs := (shr_zero V m).2 h2
        by_cases h3 : (N : Int) + m ≤ 32000
        · have e : putE xs N V m = 0 := by unfold putE; rw [if_pos ⟨h1.1, h1.2, by simpa using h2⟩, gN, if_pos h3]
          unfold putN putX
          rw [e, if_pos rfl, if_pos rfl, gN, gX]
          refine (put_right_ok a cap xs N w hv0 hx hr (by omega) hr'.2.2.1 V m hV (by omega) hs (by omega) hr'.2.2.2).mono ?_
          rintro e w' ⟨v', cur, rfl, hrw, hb, hcur, hlen, hbv⟩
          refine ⟨v', rfl, ?_, hb⟩
          have := byL_eq hcur hbv
          rw [Nat.mod_eq_of_lt h2, hlen] at this
          rw [this] at hrw
          exact hrw
        · have e : putE xs N V m = 3 := by unfold putE; rw [if_pos ⟨h1.1, h1.2, by simpa using h2⟩, gN, if_neg h3]
          unfold putN putX
          rw [e, if_neg (by decide), if_neg (by decide), gN, gX]
          exact put_right_full a cap xs N w hv0 hx hr (by omega) hr'.2.2.1 V m hV (by omega) hs (by omega)
      · have hs : (((V : Int) / 2 ^ m != 0) = true) := by
          cases hh : ((V : Int) / 2 ^ m != 0)
          · exact absurd ((shr_zero V m).1 hh) h2
          · rfl
        have e : putE xs N V m = 1 := by unfold putE; rw [if_neg (by rintro ⟨_, _, h⟩; exact h2 (by simpa using h))]
        unfold putN putX
        rw [e, if_neg (by decide), if_neg (by decide), gN, gX]
        exact put_right_big a cap xs N w hv0 hx hr (by omega) hr'.2.2.1 V m hV (by omega) hs
    · have e : putE xs N V n = 1 := by unfold putE; rw [if_neg (by omega)]
      unfold putN putX
      rw [e, if_neg (by decide), if_neg (by decide), gN, gX]
      exact put_right_arg a cap xs N w hv0 hx hr (by omega) hr'.2.2.1 V n hV h1
  · have hr : rightB xs M = false := by simpa using hr
    have gN : goodN xs M = 0 := by unfold goodN; rw [hr]; rfl
    have gX : goodX xs M = [] := by unfold goodX; rw [hr]; rfl
    by_cases h1 : 0 ≤ n ∧ n ≤ 32
    · obtain ⟨m, rfl⟩ := Int.eq_ofNat_of_zero_le h1.1
      by_cases h2 : V < 2 ^ m
      · have hs := (shr_zero V m).2 h2
        have e : putE xs M V m = 0 := by unfold putE; rw [if_pos ⟨h1.1, h1.2, by simpa using h2⟩, gN, if_pos (by omega)]
        unfold putN putX
        rw [e, if_pos rfl, if_pos rfl, gN, gX]
        refine (put_wrong_ok a cap xs M w hv0 hx hr V m hV (by omega) hs (by omega) (by unfold Hid; simp [bv])).mono ?_
        rintro e w' ⟨v', cur, rfl, hrw, hb, hcur, hlen, hbv⟩
        refine ⟨v', by simp, ?_, hb⟩
        have := byL_eq hcur hbv
        rw [Nat.mod_eq_of_lt h2, hlen] at this
        rw [this] at hrw
        simpa using hrw
      · have hs : (((V : Int) / 2 ^ m != 0) = true) := by
          cases hh : ((V : Int) / 2 ^ m != 0)
          · exact absurd ((shr_zero V m).1 hh) h2
          · rfl
        have e : putE xs M V m = 1 := by unfold putE; rw [if_neg (by rintro ⟨_, _, h⟩; exact h2 (by simpa using h))]
        unfold putN putX
        rw [e, if_neg (by decide), if_neg (by decide), gN, gX]
        exact put_wrong_big a cap xs M w hv0 hx hr V m hV (by omega) hs
    · have e : putE xs M V n = 1 := by unfold putE; rw [if_neg (by omega)]
      unfold putN putX
      rw [e, if_neg (by decide), if_neg (by decide), gN, gX]
      exact put_wrong_arg a cap xs M w hv0 hx hr V n hV h1
end Go.Proofs.Ytolfnjlkcppplaa
