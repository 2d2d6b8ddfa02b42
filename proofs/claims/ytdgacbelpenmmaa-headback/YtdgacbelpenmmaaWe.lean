/- The contract of the document function Bits: the bits of the bytes, in new memory. -/
import Derived.Test.YtdgacbelpenmmaaWa
namespace Go.Proofs.Ytdgacbelpenmmaa
open Go.RowKit
set_option linter.unusedVariables false
set_option linter.unusedSimpArgs false
theorem info3 : (Try.prog.info? 3).map (fun i => (i.zero, i.size, i.bytes)) = some (some (.int .i64 0), 1, 8) := by kernel_rfl
theorem info5 : (Try.prog.info? 5).map (fun i => (i.zero, i.size, i.bytes)) = some (some (.int .u8 0), 1, 1) := by kernel_rfl

theorem half_step (x : Int) (q : Nat) : Hid (x / 2 ^ q / 2 = x / 2 ^ (q + 1)) := by
  unfold Hid
  rw [Int.pow_succ, Int.ediv_ediv_of_nonneg (Int.le_of_lt (Int.pow_pos (by decide)))]

theorem bits_digit {xs : List Int} (hx : Byts xs) (j q : Nat) (x y : Int) (hq : q < 8) (he : xs.getD j 0 = x) (h0 : 0 ≤ x) (hy : y = x / 2 ^ q) : bitAt (bv xs) (8 * j + q) = y % 2 := by
  unfold bitAt
  rw [bv_bit hx, show (8 * j + q) / 8 = j by omega, show (8 * j + q) % 8 = q by omega, he, hy]
  obtain ⟨X, rfl⟩ := Int.eq_ofNat_of_zero_le h0
  simp

set_option maxHeartbeats 1000000 in
theorem bits_any (v : Value) (xs : List Int) (w : World) (hv : Rw .u8 w v xs) (hx : Byts xs) (hl : xs.length ≤ 100000) :
    Calls Try.prog 43 #[v] w fun e w' => ∃ v', e = .returned v' ∧ w'.ownsRow w.heap.size 3 1 v' (8 * xs.length) ((bl (bv xs) (8 * xs.length)).map (Value.int .i64)) ∧ Below w.heap.size w w' := by
  obtain ⟨a, cap, rfl, ha⟩ := hv
  obtain ⟨i0, hi, hz0, hz1, hz2⟩ := info_parts info3
  go_enter Try.func43, Try.ntmps43
  go_wp2
  go_loopw [3, 4] (fun v i wr => ∃ j : Nat, j ≤ xs.length ∧ i = .int .i64 j ∧ wr.ownsRow w.heap.size 3 1 v (8 * j) ((bl (bv xs) (8 * j)).map (Value.int .i64)) ∧ Below w.heap.size w wr) (fun _ i _ => xs.length - (intOf i).toNat)
  case atStart => exact ⟨0, by omega, rfl, World.ownsRow_nil _ _ _ _, Below.refl _ _⟩
  case round =>
    obtain ⟨j, hj, rfl, hown, hnx⟩ := hrel
    by_cases hlt : j < xs.length
    · have hne : xs ≠ [] := by intro h; subst h; simp at hlt
      obtain ⟨b, off, rfl, hb, hc⟩ := ha.resolve_left hne
      have g := (hnx.cell (p := ⟨b, off + j, none⟩) hb).trans (hc j hlt)
      have hx1 := hx.getD j
      generalize hxe : xs.getD j 0 = x at g hx1
      have HX : Hid _ := hxe
      clear hxe hc
      clear ha
      go_wp2
      go_loopw [3, 5, 6] (fun v n k wr => ∃ q : Nat, ∃ y : Int, q ≤ 8 ∧ k = .int .i64 q ∧ n = .int .i64 y ∧ 0 ≤ y ∧ y < 256 ∧ Hid (y = x / 2 ^ q) ∧ wr.ownsRow w.heap.size 3 1 v (8 * j + q) ((bl (bv xs) (8 * j + q)).map (Value.int .i64)) ∧ Below w.heap.size w wr) (fun _ _ k _ => 8 - (intOf k).toNat)
      case atStart => exact ⟨0, x, by omega, rfl, rfl, hx1.1, hx1.2, by unfold Hid; simp, by simpa using hown, hnx⟩
      case round =>
        obtain ⟨q, y, hq, rfl, rfl, hy0, hy1, HY, hown2, hnx2⟩ := hrel
        clear hown
        by_cases hq8 : q < 8
        · go_wp2_with (at_builtin; refine wpList_append_own _ rfl _ _ 22 rfl w.heap.size 3 i0 (.int .i64 0) 1 8 Try.underlying22 hi hz0 hz1 hz2 rfl (by decide) _ _ _ rfl (hown2.alloc _) ⟨_, 0, none⟩ 1 1 [_] rfl rfl (cell_one_new _ _ _) ?c2 ?c3 ?c4 ?c5 ?_)
          case c2 => intro u hu; simp at hu; subst hu; rfl
          case c3 => unfold maxLen; omega
          case c4 => omega
          case c5 => have := hnx2.size; simp; omega
          intro v' w1 hown' hgrow _
          have hb1 := (hnx2.alloc hnx2.size (Obj.cells #[Value.int IntKind.i64 (y % 2)] 3)).grown hgrow (by have := hnx2.size; simp; omega) (fun k hk => (hown2.lt k hk).1)
          have hown3 : w1.ownsRow w.heap.size 3 1 v' (8 * j + (q + 1)) ((bl (bv xs) (8 * j + (q + 1))).map (Value.int .i64)) := by
            rw [← Nat.add_assoc, bl_succ, List.map_append]
            rw [show (List.map (Value.int IntKind.i64) [bitAt (bv xs) (8 * j + q)]) = [Value.int .i64 (y % 2)] by rw [bits_digit hx j q x y hq8 HX.out hx1.1 HY.out]; rfl]
            exact hown'
          clear hown' hgrow hown2 hnx2
          go_wp2
          go_roundw
          case rel => exact ⟨q + 1, _, by omega, by go_num, rfl, by omega, by omega, by rw [HY.out]; exact half_step x q, hown3, hb1⟩
          case measure => simp [intOf]; omega
        · have hge : 8 ≤ q := by omega
          clear hq8
          go_wp2
          have : q = 8 := by omega
          subst this
          go_roundw
          case rel => exact ⟨j + 1, by omega, by go_num, by simpa [Nat.mul_add] using hown2, hnx2⟩
          case measure => simp [intOf]; omega
    · have hge : xs.length ≤ j := by omega
      clear hlt
      go_wp2
      have : j = xs.length := by omega
      subst this
      go_ret
      exact ⟨_, rfl, hown, hnx⟩
end Go.Proofs.Ytdgacbelpenmmaa
