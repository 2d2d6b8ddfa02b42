/- The contract of the document function Bytes: the bytes of the bits, in new memory. -/
import Derived.Test.YtdgacbelpenmmaaWe
namespace Go.Proofs.Ytdgacbelpenmmaa
open Go.RowKit
set_option linter.unusedVariables false
set_option linter.unusedSimpArgs false

theorem up_bit (V i k m : Nat) (n x : Int) (hk : k < 8) (hn : n = ((V / 2 ^ (i + (k + 1)) % 2 ^ (8 - (k + 1)) : Nat) : Int)) (hx : bitAt V (i + k) = x) : Hid (n * 2 + x = ((V / 2 ^ (i + k) % 2 ^ (8 - k) : Nat) : Int)) := by
  unfold Hid
  rw [bits_up V i k hk, hn, ← hx]; unfold bitAt; omega
theorem up_none (V i k m : Nat) (n : Int) (hk : k < 8) (hn : n = ((V / 2 ^ (i + (k + 1)) % 2 ^ (8 - (k + 1)) : Nat) : Int)) (h : V < 2 ^ m) (hm : m ≤ i + k) : Hid (n * 2 = ((V / 2 ^ (i + k) % 2 ^ (8 - k) : Nat) : Int)) := by
  unfold Hid
  rw [bits_up V i k hk, hn, bits_above V m (i + k) h hm]; omega
theorem up_lt (V p k : Nat) (hk : k ≤ 8) (n : Int) (hn : n = ((V / 2 ^ p % 2 ^ (8 - k) : Nat) : Int)) : 0 ≤ n ∧ n < 256 := by
  have h1 : V / 2 ^ p % 2 ^ (8 - k) < 2 ^ (8 - k) := Nat.mod_lt _ (Nat.two_pow_pos _)
  have h2 : 2 ^ (8 - k) ≤ 2 ^ 8 := Nat.pow_le_pow_right (by decide) (by omega)
  omega

set_option maxHeartbeats 1000000 in
theorem bytes_any (v : Value) (V m : Nat) (w : World) (hv : Rw .i64 w v (bl V m)) (hV : V < 2 ^ m) (hm : m ≤ 1000000) :
    Calls Try.prog 29 #[v] w fun e w' => ∃ v', e = .returned v' ∧ w'.ownsRow w.heap.size 5 1 v' ((m + 7) / 8) ((byL V ((m + 7) / 8)).map (Value.int .u8)) ∧ Below w.heap.size w w' := by
  obtain ⟨a, cap, rfl, ha⟩ := hv
  rw [bl_length] at *
  obtain ⟨i0, hi, hz0, hz1, hz2⟩ := info_parts info5
  go_enter Try.func29, Try.ntmps29
  go_wp2
  go_loopw [3, 4] (fun v i wr => ∃ j : Nat, j ≤ (m + 7) / 8 ∧ i = .int .i64 ((8 * j : Nat) : Int) ∧ wr.ownsRow w.heap.size 5 1 v j ((byL V j).map (Value.int .u8)) ∧ Below w.heap.size w wr) (fun _ i _ => m + 8 - (intOf i).toNat)
  case atStart => exact ⟨0, by omega, rfl, World.ownsRow_nil _ _ _ _, Below.refl _ _⟩
  case round =>
    obtain ⟨j, hj, rfl, hown, hnx⟩ := hrel
    by_cases hlt : 8 * j < m
    · have hne : bl V m ≠ [] := by intro h; have := congrArg List.length h; rw [bl_length] at this; simp at this; omega
      obtain ⟨b, off, rfl, hb, hc⟩ := ha.resolve_left hne
      clear ha hne
      have hc1 : ∀ i, i < m → wr.cell? ⟨b, off + i, none⟩ = some (.int .i64 (bitAt V i)) := fun i hi => (hnx.cell (p := ⟨b, off + i, none⟩) hb).trans (by rw [hc i hi, bl_getD V m i hi])
      clear hc
      go_wp2
      go_loop [5, 6] (fun n k => ∃ q : Nat, ∃ y : Int, q ≤ 8 ∧ k = .int .i64 ((q : Int) - 1) ∧ n = .int .i64 y ∧ 0 ≤ y ∧ y < 256 ∧ Hid (y = ((V / 2 ^ (8 * j + q) % 2 ^ (8 - q) : Nat) : Int))) (fun _ k => (intOf k + 1).toNat)
      case atStart => exact ⟨8, 0, by omega, rfl, rfl, by omega, by omega, by unfold Hid; simp [Nat.mod_one]⟩
      case round =>
        obtain ⟨q, y, hq, rfl, rfl, hy0, hy1, HY⟩ := hrel
        cases q with
        | zero =>
          go_wp2_with (at_builtin; refine wpList_append_own _ rfl _ _ 34 rfl w.heap.size 5 i0 (.int .u8 0) 1 1 Try.underlying34 hi hz0 hz1 hz2 rfl (by decide) _ _ _ rfl (hown.alloc _) ⟨_, 0, none⟩ 1 1 [_] rfl rfl (cell_one_new _ _ _) ?c2 ?c3 ?c4 ?c5 ?_)
          case c2 => rfl
          case c3 => unfold maxLen; omega
          case c4 => omega
          case c5 => have := hnx.size; simp; omega
          intro v' w1 hown' hgrow _
          have hb1 := (hnx.alloc hnx.size (Obj.cells #[Value.int IntKind.u8 y] 5)).grown hgrow (by have := hnx.size; simp; omega) (fun k hk => (hown.lt k hk).1)
          have hown3 : w1.ownsRow w.heap.size 5 1 v' (j + 1) ((byL V (j + 1)).map (Value.int .u8)) := by
            rw [byL_succ, List.map_append, show byteAt V j = y by rw [HY.out]; unfold byteAt; rw [pow256]; rfl]
            exact hown'
          clear hown' hgrow hown hnx hc1
          go_wp2
          go_roundw
          case rel => exact ⟨j + 1, by omega, by go_num, hown3, hb1⟩
          case measure => simp [intOf]; omega
        | succ q =>
          by_cases hin : 8 * j + q < m
          · have g := hc1 _ hin
            have h01 := bitAt_01 V (8 * j + q)
            generalize hxe : bitAt V (8 * j + q) = x at g h01
            have HX : Hid _ := hxe
            clear hxe hc1
            go_wp2
            go_round
            case rel =>
              have H := up_bit V _ q m _ _ (by omega) HY.out HX.out
              have hl := up_lt V _ q (by omega) _ H.out
              exact ⟨q, _, by omega, by go_num, rfl, hl.1, hl.2, H⟩
            case measure => simp [intOf]
          · have hout : m ≤ 8 * j + q := by omega
            clear hin
            go_wp2
            go_round
            case rel =>
              have H := up_none V _ q m _ (by omega) HY.out hV hout
              have hl := up_lt V _ q (by omega) _ H.out
              exact ⟨q, _, by omega, by go_num, rfl, hl.1, hl.2, H⟩
            case measure => simp [intOf]
    · have hge : m ≤ 8 * j := by omega
      clear hlt
      go_wp2
      have : j = (m + 7) / 8 := by omega
      subst this
      go_ret
      exact ⟨_, rfl, hown, hnx⟩
end Go.Proofs.Ytdgacbelpenmmaa
