/- The contract of bits.Put, case by case. -/
import Derived.Test.YtdgacbelpenmmaaWj
namespace Go.Proofs.Ytdgacbelpenmmaa
open Go.RowKit
set_option linter.unusedVariables false
set_option linter.unusedSimpArgs false

theorem zeros_none (xs : List Int) (N : Nat) (h : xs.length = (N + 7) / 8) : xs ++ List.replicate ((N + 0 + 7) / 8 - xs.length) 0 = xs := by
  rw [h]; simp

theorem frozen_set (w : World) (a p : Addr) (v : Value) : (w.setCell a v).frozen? p = w.frozen? p := World.frozen?_setCell w a p v
theorem grownBy_drew {W w : World} {r : Option Nat} (h : W.grownBy w r) : W.grownBy w.drew r := ⟨h.os, h.tape, h.output, h.size, h.block⟩
/-- One bit more is put. -/
theorem put_step {cur : List Int} (hc : Byts cur) (X V N k : Nat) (x : Int) (hk : k < 32) (hl : N + k < 8 * cur.length) (hX : X < 2 ^ N) (he : cur.getD ((N + k) / 8) 0 = x) (hb : bv cur = X + V % 2 ^ k * 2 ^ N) (hV : V < 2 ^ 64) :
    ∃ y : Int, bits .or .u8 x (bits .and .u64 ((V : Int) / 2 ^ k) 1 % 256 * 2 ^ ((N + k) % 8) % 256) = y ∧ 0 ≤ y ∧ y < 256 ∧ bv (cur.set ((N + k) / 8) y) = X + V % 2 ^ (k + 1) * 2 ^ N := by
  have hx := hc.getD ((N + k) / 8)
  rw [he] at hx
  obtain ⟨Y, rfl⟩ := Int.eq_ofNat_of_zero_le hx.1
  have hlt : bv cur < 2 ^ (N + k) := by
    rw [hb]
    have h1 : V % 2 ^ k < 2 ^ k := Nat.mod_lt _ (Nat.two_pow_pos k)
    have h2 : (V % 2 ^ k + 1) * 2 ^ N ≤ 2 ^ k * 2 ^ N := Nat.mul_le_mul_right _ (by omega)
    rw [Nat.add_mul, Nat.one_mul] at h2
    rw [Nat.pow_add, Nat.mul_comm (2 ^ N)]
    omega
  have hg := bv_get hc ((N + k) / 8)
  rw [he, Int.toNat_natCast] at hg
  have hp : N + k = 8 * ((N + k) / 8) + (N + k) % 8 := by omega
  have hYlt : Y < 2 ^ ((N + k) % 8) := by
    rw [← hg, pow256]
    refine Nat.lt_of_le_of_lt (Nat.mod_le _ _) ?_
    rw [Nat.div_lt_iff_lt_mul (Nat.two_pow_pos _), ← Nat.pow_add, Nat.add_comm, ← hp]
    exact hlt
  have hr : (N + k) % 8 ≤ 7 := by omega
  have hdk : V / 2 ^ k ≤ V := Nat.div_le_self _ _
  have hbit : V / 2 ^ k % 2 < 2 := Nat.mod_lt _ (by decide)
  rw [nat_shr, and1_u64 _ (Int.natCast_nonneg _) (by exact_mod_cast Nat.lt_of_le_of_lt hdk hV)]
  have e : (((V / 2 ^ k : Nat) : Int) % 2) = ((V / 2 ^ k % 2 : Nat) : Int) := by simp
  rw [e]
  have hms := mod_two_pow_succ V k
  generalize V / 2 ^ k % 2 = b at hbit hms
  have hm := bit_mul b ((N + k) % 8) 7 hbit hr
  rw [show (b : Int) % 256 = b by omega, nat_shl, show ((b * 2 ^ ((N + k) % 8) : Nat) : Int) % 256 = ((b * 2 ^ ((N + k) % 8) : Nat) : Int) by omega, nat_or_low8 Y b _ hYlt (by omega) (by omega)]
  have hYm : Y + b * 2 ^ ((N + k) % 8) < 256 := by
    have h1 : 2 ^ ((N + k) % 8) ≤ 2 ^ 7 := Nat.pow_le_pow_right (by decide) hr
    omega
  refine ⟨_, rfl, by omega, by omega, ?_⟩
  have hs := bv_set cur ((N + k) / 8) ((Y + b * 2 ^ ((N + k) % 8) : Nat) : Int) (by omega)
  rw [he, Int.toNat_natCast, Int.toNat_natCast, Nat.add_mul, pow256, Nat.mul_assoc, ← Nat.pow_add, Nat.add_comm _ (8 * _), ← hp] at hs
  rw [hms, Nat.add_mul, Nat.mul_assoc, ← Nat.pow_add, Nat.add_comm k N]
  omega

set_option maxHeartbeats 1000000 in
theorem put_right_arg (a : Option Addr) (cap : Nat) (xs : List Int) (N : Nat) (w : World) (hv : Rw .u8 w (.slice a xs.length cap) xs) (hx : Byts xs) (hr : rightB xs N = true) (hN : N ≤ 32000) (hlen : Hid (xs.length = (N + 7) / 8)) (V : Nat) (n : Int) (hV : V < 2 ^ 64) (h : ¬ (0 ≤ n ∧ n ≤ 32)) :
    Calls Try.prog 35 #[.agg #[.slice a xs.length cap, .int .i64 N], .int .u64 V, .int .i64 n] w fun e w' => ∃ v', e = .returned (.tuple #[.agg #[v', .int .i64 (N : Int)], .int .i64 1]) ∧ RwF w.heap.size .u8 w' v' xs ∧ Below w.heap.size w w' := by
  have hd : decide (0 ≤ n ∧ n ≤ 32) = false := decide_eq_false h
  have hW := below2 w (.cells #[.slice a xs.length cap, .int .i64 (N : Int)] 50) (.cells #[.slice none 0 0, .int .i64 0] 50)
  have hv1 := hv.below hW
  go_enter Try.func35, Try.ntmps35
  go_wp2_with (go_at_call 40; refine (right_any _ xs (N : Int) _ hv1 hx).mono ?_; rintro e w' ⟨rfl, hb1⟩; obtain ⟨hc1, hf1⟩ := bcell hb1; rw [hr])
  have hz := hb1.size
  simp at hz
  have hBw := bthen hW hb1 hW.size
  have k0 : w'.cell? ⟨w.heap.size, 0, none⟩ = some (.slice a xs.length cap) := by rw [hc1 _ _ (by simp; omega)]; simp [go_sem]
  have k1 : w'.cell? ⟨w.heap.size, 1, none⟩ = some (.int .i64 (N : Int)) := by rw [hc1 _ _ (by simp; omega)]; simp [go_sem]
  have k2 : w'.cell? ⟨w.heap.size + 1, 0, none⟩ = some (.slice none 0 0) := by rw [hc1 _ _ (by simp)]; simp [go_sem]
  have k3 : w'.cell? ⟨w.heap.size + 1, 1, none⟩ = some (.int .i64 0) := by rw [hc1 _ _ (by simp)]; simp [go_sem]
  have f2 : ∀ o, w'.frozen? ⟨w.heap.size + 1, o, none⟩ = false := by intro o; rw [hf1 _ _ (by simp)]; simp [go_sem]
  have hBW : Below w.heap.size w w' := hBw
  have hzW : w.heap.size + 1 < w'.heap.size := by omega
  have hvW : Rw .u8 w' (.slice a xs.length cap) xs := hv.below hBW
  clear hc1 hf1 hb1 hv1 hv hW hBw
  go_wp2_with (first | (go_at_call 41; refine (widthFits_any _ _).mono ?_; rintro e w'' ⟨rfl, rfl⟩; rw [hd]) | (go_at_call 42; refine (grown_any _ _ xs N 0 _ hvW (by have := hlen.out; omega) (by omega)).mono ?_; rintro e w2 ⟨g, rfl, hg, hrow, hb2⟩; obtain ⟨hc2, hf2⟩ := bcell hb2))
  have hz2 := hb2.size
  have hne : g ≠ w.heap.size + 1 := by omega
  refine bodyPost_ret (v := .tuple #[.agg #[.slice (some ⟨g, 0, none⟩) ((N + 0 + 7) / 8) ((N + 0 + 7) / 8), .int .i64 (N : Int)], .int .i64 1]) (by simp [results, Try.results35, go_sem, hc2, k2, k3, f2, hf2, hzW]) rfl ⟨_, rfl, ?_, bset2 (bthen hBW hb2 (by omega)) _ _ _ _ _ _ (by omega) (by omega)⟩
  have hrow2 : ((w2.setCell ⟨w.heap.size + 1, 0, none⟩ (.slice (some ⟨g, 0, none⟩) ((N + 0 + 7) / 8) ((N + 0 + 7) / 8))).setCell ⟨w.heap.size + 1, 1, none⟩ (.int .i64 (N : Int))).heap[g]? = some (.cells ((xs).map (Value.int .u8)).toArray 5 (0, 0)) := by
    rw [Below.heap_setCell _ _ _ _ (by simpa using hne), Below.heap_setCell _ _ _ _ (by simpa using hne), hrow]
    rw [zeros_none xs N hlen.out]
  exact RwF.of_row hrow2 (by have := hlen.out; omega) (by omega)

set_option maxHeartbeats 1000000 in
theorem put_right_big (a : Option Addr) (cap : Nat) (xs : List Int) (N : Nat) (w : World) (hv : Rw .u8 w (.slice a xs.length cap) xs) (hx : Byts xs) (hr : rightB xs N = true) (hN : N ≤ 32000) (hlen : Hid (xs.length = (N + 7) / 8)) (V n : Nat) (hV : V < 2 ^ 64) (hn : n ≤ 32) (h : ((V : Int) / 2 ^ n != 0) = true) :
    Calls Try.prog 35 #[.agg #[.slice a xs.length cap, .int .i64 N], .int .u64 V, .int .i64 n] w fun e w' => ∃ v', e = .returned (.tuple #[.agg #[v', .int .i64 (N : Int)], .int .i64 1]) ∧ RwF w.heap.size .u8 w' v' xs ∧ Below w.heap.size w w' := by
  have hd : decide (0 ≤ (n : Int) ∧ (n : Int) ≤ 32) = true := decide_eq_true (by omega)
  have hW := below2 w (.cells #[.slice a xs.length cap, .int .i64 (N : Int)] 50) (.cells #[.slice none 0 0, .int .i64 0] 50)
  have hv1 := hv.below hW
  go_enter Try.func35, Try.ntmps35
  go_wp2_with (go_at_call 40; refine (right_any _ xs (N : Int) _ hv1 hx).mono ?_; rintro e w' ⟨rfl, hb1⟩; obtain ⟨hc1, hf1⟩ := bcell hb1; rw [hr])
  have hz := hb1.size
  simp at hz
  have hBw := bthen hW hb1 hW.size
  have k0 : w'.cell? ⟨w.heap.size, 0, none⟩ = some (.slice a xs.length cap) := by rw [hc1 _ _ (by simp; omega)]; simp [go_sem]
  have k1 : w'.cell? ⟨w.heap.size, 1, none⟩ = some (.int .i64 (N : Int)) := by rw [hc1 _ _ (by simp; omega)]; simp [go_sem]
  have k2 : w'.cell? ⟨w.heap.size + 1, 0, none⟩ = some (.slice none 0 0) := by rw [hc1 _ _ (by simp)]; simp [go_sem]
  have k3 : w'.cell? ⟨w.heap.size + 1, 1, none⟩ = some (.int .i64 0) := by rw [hc1 _ _ (by simp)]; simp [go_sem]
  have f2 : ∀ o, w'.frozen? ⟨w.heap.size + 1, o, none⟩ = false := by intro o; rw [hf1 _ _ (by simp)]; simp [go_sem]
  have hBW : Below w.heap.size w w' := hBw
  have hzW : w.heap.size + 1 < w'.heap.size := by omega
  have hvW : Rw .u8 w' (.slice a xs.length cap) xs := hv.below hBW
  clear hc1 hf1 hb1 hv1 hv hW hBw
  go_wp2_with (first | (go_at_call 41; refine (widthFits_any _ _).mono ?_; rintro e w'' ⟨rfl, rfl⟩; rw [hd]) | (go_at_call 42; refine (grown_any _ _ xs N 0 _ hvW (by have := hlen.out; omega) (by omega)).mono ?_; rintro e w2 ⟨g, rfl, hg, hrow, hb2⟩; obtain ⟨hc2, hf2⟩ := bcell hb2))
  have hz2 := hb2.size
  have hne : g ≠ w.heap.size + 1 := by omega
  refine bodyPost_ret (v := .tuple #[.agg #[.slice (some ⟨g, 0, none⟩) ((N + 0 + 7) / 8) ((N + 0 + 7) / 8), .int .i64 (N : Int)], .int .i64 1]) (by simp [results, Try.results35, go_sem, hc2, k2, k3, f2, hf2, hzW]) rfl ⟨_, rfl, ?_, bset2 (bthen hBW hb2 (by omega)) _ _ _ _ _ _ (by omega) (by omega)⟩
  have hrow2 : ((w2.setCell ⟨w.heap.size + 1, 0, none⟩ (.slice (some ⟨g, 0, none⟩) ((N + 0 + 7) / 8) ((N + 0 + 7) / 8))).setCell ⟨w.heap.size + 1, 1, none⟩ (.int .i64 (N : Int))).heap[g]? = some (.cells ((xs).map (Value.int .u8)).toArray 5 (0, 0)) := by
    rw [Below.heap_setCell _ _ _ _ (by simpa using hne), Below.heap_setCell _ _ _ _ (by simpa using hne), hrow]
    rw [zeros_none xs N hlen.out]
  exact RwF.of_row hrow2 (by have := hlen.out; omega) (by omega)

set_option maxHeartbeats 1000000 in
theorem put_right_full (a : Option Addr) (cap : Nat) (xs : List Int) (N : Nat) (w : World) (hv : Rw .u8 w (.slice a xs.length cap) xs) (hx : Byts xs) (hr : rightB xs N = true) (hN : N ≤ 32000) (hlen : Hid (xs.length = (N + 7) / 8)) (V n : Nat) (hV : V < 2 ^ 64) (hn : n ≤ 32) (h : ((V : Int) / 2 ^ n != 0) = false) (hfull : 32000 < N + n) :
    Calls Try.prog 35 #[.agg #[.slice a xs.length cap, .int .i64 N], .int .u64 V, .int .i64 n] w fun e w' => ∃ v', e = .returned (.tuple #[.agg #[v', .int .i64 (N : Int)], .int .i64 3]) ∧ RwF w.heap.size .u8 w' v' xs ∧ Below w.heap.size w w' := by
  have hd : decide (0 ≤ (n : Int) ∧ (n : Int) ≤ 32) = true := decide_eq_true (by omega)
  have hW := below2 w (.cells #[.slice a xs.length cap, .int .i64 (N : Int)] 50) (.cells #[.slice none 0 0, .int .i64 0] 50)
  have hv1 := hv.below hW
  go_enter Try.func35, Try.ntmps35
  go_wp2_with (go_at_call 40; refine (right_any _ xs (N : Int) _ hv1 hx).mono ?_; rintro e w' ⟨rfl, hb1⟩; obtain ⟨hc1, hf1⟩ := bcell hb1; rw [hr])
  have hz := hb1.size
  simp at hz
  have hBw := bthen hW hb1 hW.size
  have k0 : w'.cell? ⟨w.heap.size, 0, none⟩ = some (.slice a xs.length cap) := by rw [hc1 _ _ (by simp; omega)]; simp [go_sem]
  have k1 : w'.cell? ⟨w.heap.size, 1, none⟩ = some (.int .i64 (N : Int)) := by rw [hc1 _ _ (by simp; omega)]; simp [go_sem]
  have k2 : w'.cell? ⟨w.heap.size + 1, 0, none⟩ = some (.slice none 0 0) := by rw [hc1 _ _ (by simp)]; simp [go_sem]
  have k3 : w'.cell? ⟨w.heap.size + 1, 1, none⟩ = some (.int .i64 0) := by rw [hc1 _ _ (by simp)]; simp [go_sem]
  have f2 : ∀ o, w'.frozen? ⟨w.heap.size + 1, o, none⟩ = false := by intro o; rw [hf1 _ _ (by simp)]; simp [go_sem]
  have hBW : Below w.heap.size w w' := hBw
  have hzW : w.heap.size + 1 < w'.heap.size := by omega
  have hvW : Rw .u8 w' (.slice a xs.length cap) xs := hv.below hBW
  clear hc1 hf1 hb1 hv1 hv hW hBw
  go_wp2_with (first | (go_at_call 41; refine (widthFits_any _ _).mono ?_; rintro e w'' ⟨rfl, rfl⟩; rw [hd]) | (go_at_call 42; refine (grown_any _ _ xs N 0 _ hvW (by have := hlen.out; omega) (by omega)).mono ?_; rintro e w2 ⟨g, rfl, hg, hrow, hb2⟩; obtain ⟨hc2, hf2⟩ := bcell hb2))
  have hz2 := hb2.size
  have hne : g ≠ w.heap.size + 1 := by omega
  refine bodyPost_ret (v := .tuple #[.agg #[.slice (some ⟨g, 0, none⟩) ((N + 0 + 7) / 8) ((N + 0 + 7) / 8), .int .i64 (N : Int)], .int .i64 3]) (by simp [results, Try.results35, go_sem, hc2, k2, k3, f2, hf2, hzW]) rfl ⟨_, rfl, ?_, bset2 (bthen hBW hb2 (by omega)) _ _ _ _ _ _ (by omega) (by omega)⟩
  have hrow2 : ((w2.setCell ⟨w.heap.size + 1, 0, none⟩ (.slice (some ⟨g, 0, none⟩) ((N + 0 + 7) / 8) ((N + 0 + 7) / 8))).setCell ⟨w.heap.size + 1, 1, none⟩ (.int .i64 (N : Int))).heap[g]? = some (.cells ((xs).map (Value.int .u8)).toArray 5 (0, 0)) := by
    rw [Below.heap_setCell _ _ _ _ (by simpa using hne), Below.heap_setCell _ _ _ _ (by simpa using hne), hrow]
    rw [zeros_none xs N hlen.out]
  exact RwF.of_row hrow2 (by have := hlen.out; omega) (by omega)

set_option maxHeartbeats 2000000 in
theorem put_right_ok (a : Option Addr) (cap : Nat) (xs : List Int) (N : Nat) (w : World) (hv : Rw .u8 w (.slice a xs.length cap) xs) (hx : Byts xs) (hr : rightB xs N = true) (hN : N ≤ 32000) (hlen : Hid (xs.length = (N + 7) / 8)) (V n : Nat) (hV : V < 2 ^ 64) (hn : n ≤ 32) (h : ((V : Int) / 2 ^ n != 0) = false) (hfit : N + n ≤ 32000) (HX : Hid (bv xs < 2 ^ N)) :
    Calls Try.prog 35 #[.agg #[.slice a xs.length cap, .int .i64 N], .int .u64 V, .int .i64 n] w fun e w' => ∃ v', ∃ cur, e = .returned (.tuple #[.agg #[v', .int .i64 ((N : Int) + (n : Int))], .int .i64 0]) ∧ RwF w.heap.size .u8 w' v' cur ∧ Below w.heap.size w w' ∧ Byts cur ∧ cur.length = ((N + n + 7) / 8) ∧ bv cur = bv xs + V % 2 ^ n * 2 ^ N := by
  have hd : decide (0 ≤ (n : Int) ∧ (n : Int) ≤ 32) = true := decide_eq_true (by omega)
  have hW := below2 w (.cells #[.slice a xs.length cap, .int .i64 (N : Int)] 50) (.cells #[.slice none 0 0, .int .i64 0] 50)
  have hv1 := hv.below hW
  go_enter Try.func35, Try.ntmps35
  go_wp2_with (go_at_call 40; refine (right_any _ xs (N : Int) _ hv1 hx).mono ?_; rintro e w' ⟨rfl, hb1⟩; obtain ⟨hc1, hf1⟩ := bcell hb1; rw [hr])
  have hz := hb1.size
  simp at hz
  have hBw := bthen hW hb1 hW.size
  have k0 : w'.cell? ⟨w.heap.size, 0, none⟩ = some (.slice a xs.length cap) := by rw [hc1 _ _ (by simp; omega)]; simp [go_sem]
  have k1 : w'.cell? ⟨w.heap.size, 1, none⟩ = some (.int .i64 (N : Int)) := by rw [hc1 _ _ (by simp; omega)]; simp [go_sem]
  have k2 : w'.cell? ⟨w.heap.size + 1, 0, none⟩ = some (.slice none 0 0) := by rw [hc1 _ _ (by simp)]; simp [go_sem]
  have k3 : w'.cell? ⟨w.heap.size + 1, 1, none⟩ = some (.int .i64 0) := by rw [hc1 _ _ (by simp)]; simp [go_sem]
  have f2 : ∀ o, w'.frozen? ⟨w.heap.size + 1, o, none⟩ = false := by intro o; rw [hf1 _ _ (by simp)]; simp [go_sem]
  have hBW : Below w.heap.size w w' := hBw
  have hzW : w.heap.size + 1 < w'.heap.size := by omega
  have hvW : Rw .u8 w' (.slice a xs.length cap) xs := hv.below hBW
  clear hc1 hf1 hb1 hv1 hv hW hBw
  go_wp2_with (first | (go_at_call 41; refine (widthFits_any _ _).mono ?_; rintro e w'' ⟨rfl, rfl⟩; rw [hd]) | (go_at_call 42; refine (grown_any _ _ xs N n _ hvW (by have := hlen.out; omega) (by omega)).mono ?_; rintro e w2 ⟨g, rfl, hg, hrow, hb2⟩; obtain ⟨hc2, hf2⟩ := bcell hb2))
  have hz2 := hb2.size
  have hg2 : g < w2.heap.size := by
    rcases Nat.lt_or_ge g w2.heap.size with h' | h'
    · exact h'
    · rw [Array.getElem?_eq_none h'] at hrow; cases hrow
  have m1 : (w2.alloc (.cells #[.slice (some ⟨g, 0, none⟩) ((N + n + 7) / 8) ((N + n + 7) / 8), .int .i64 ((N : Int) + (n : Int))] 50)).cell? ⟨w.heap.size, 1, none⟩ = some (.int .i64 (N : Int)) := by
    rw [World.cell?_alloc_past _ _ _ (by omega), hc2 _ _ (by omega), k1]
  have m2 : (w2.alloc (.cells #[.slice (some ⟨g, 0, none⟩) ((N + n + 7) / 8) ((N + n + 7) / 8), .int .i64 ((N : Int) + (n : Int))] 50)).cell? ⟨w.heap.size + 1, 0, none⟩ = some (.slice none 0 0) := by
    rw [World.cell?_alloc_past _ _ _ (by omega), hc2 _ _ (by omega), k2]
  have m3 : (w2.alloc (.cells #[.slice (some ⟨g, 0, none⟩) ((N + n + 7) / 8) ((N + n + 7) / 8), .int .i64 ((N : Int) + (n : Int))] 50)).cell? ⟨w.heap.size + 1, 1, none⟩ = some (.int .i64 0) := by
    rw [World.cell?_alloc_past _ _ _ (by omega), hc2 _ _ (by omega), k3]
  have mf : ∀ o, (w2.alloc (.cells #[.slice (some ⟨g, 0, none⟩) ((N + n + 7) / 8) ((N + n + 7) / 8), .int .i64 ((N : Int) + (n : Int))] 50)).frozen? ⟨w.heap.size + 1, o, none⟩ = false := by
    intro o
    rw [World.frozen?_alloc_past _ _ _ (by omega), hf2 _ _ (by omega), f2]
  have mo0 : (w2.alloc (.cells #[.slice (some ⟨g, 0, none⟩) ((N + n + 7) / 8) ((N + n + 7) / 8), .int .i64 ((N : Int) + (n : Int))] 50)).cell? ⟨w2.heap.size, 0, none⟩ = some (.slice (some ⟨g, 0, none⟩) ((N + n + 7) / 8) ((N + n + 7) / 8)) := by simp [go_sem]
  have mo1 : (w2.alloc (.cells #[.slice (some ⟨g, 0, none⟩) ((N + n + 7) / 8) ((N + n + 7) / 8), .int .i64 ((N : Int) + (n : Int))] 50)).cell? ⟨w2.heap.size, 1, none⟩ = some (.int .i64 ((N : Int) + (n : Int))) := by simp [go_sem]
  have HR : Hid ((w2.alloc (.cells #[.slice (some ⟨g, 0, none⟩) ((N + n + 7) / 8) ((N + n + 7) / 8), .int .i64 ((N : Int) + (n : Int))] 50)).heap[g]? = some (.cells ((xs ++ List.replicate (((N + n + 7) / 8) - (xs).length) 0).map (Value.int .u8)).toArray 5 (0, 0))) := by
    unfold Hid; rw [Below.heap_alloc _ _ _ hg2]; exact hrow
  have hBW3 : Below w.heap.size w (w2.alloc (.cells #[.slice (some ⟨g, 0, none⟩) ((N + n + 7) / 8) ((N + n + 7) / 8), .int .i64 ((N : Int) + (n : Int))] 50)) := (bthen hBW hb2 (by omega)).alloc (by omega) _
  have hz3 : (w2.alloc (.cells #[.slice (some ⟨g, 0, none⟩) ((N + n + 7) / 8) ((N + n + 7) / 8), .int .i64 ((N : Int) + (n : Int))] 50)).heap.size = w2.heap.size + 1 := by simp
  clear hc2 hf2 hb2 hBW hrow k0 k1 k2 k3 f2 hvW
  generalize (w2.alloc (.cells #[.slice (some ⟨g, 0, none⟩) ((N + n + 7) / 8) ((N + n + 7) / 8), .int .i64 ((N : Int) + (n : Int))] 50)) = W3 at *
  go_loopw [37] (fun i wr => ∃ k : Nat, ∃ cur : List Int, k ≤ n ∧ i = .int .i64 k ∧ Hid (W3.grownBy wr (some g)) ∧ Hid (wr.heap[g]? = some (.cells (cur.map (Value.int .u8)).toArray 5 (0, 0))) ∧ Hid (cur.length = ((N + n + 7) / 8)) ∧ Byts cur ∧ Hid (bv cur = bv xs + V % 2 ^ k * 2 ^ N)) (fun i _ => n - (intOf i).toNat)
  case atStart =>
    refine ⟨0, _, by omega, rfl, World.grownBy.refl _ _, HR, ?_, hx.append (Byts.replicate _), ?_⟩
    · unfold Hid; simp; have := hlen.out; omega
    · unfold Hid; rw [bv_append, bv_zero]; simp [Nat.mod_one]
  case round =>
    obtain ⟨k, cur, hk, rfl, hgr, hR, hL, hcur, hB⟩ := hrel
    have a1 := (grownBy_cells hgr.out w.heap.size 1 (by omega) (by omega)).1.trans m1
    have ao := (grownBy_cells hgr.out w2.heap.size 0 (by omega) (by omega)).1.trans mo0
    have ao1 := (grownBy_cells hgr.out w2.heap.size 1 (by omega) (by omega)).1.trans mo1
    have a2 := (grownBy_cells hgr.out (w.heap.size + 1) 0 (by omega) (by omega)).1.trans m2
    have a3 := (grownBy_cells hgr.out (w.heap.size + 1) 1 (by omega) (by omega)).1.trans m3
    have af0 := (grownBy_cells hgr.out (w.heap.size + 1) 0 (by omega) (by omega)).2.trans (mf 0)
    have af1 := (grownBy_cells hgr.out (w.heap.size + 1) 1 (by omega) (by omega)).2.trans (mf 1)
    by_cases hlt : k < n
    · have hi : (N + k) / 8 < cur.length := by have := hL.out; omega
      obtain ⟨c1, c2⟩ := cell_of_row hR.out ((N + k) / 8) hi
      have hxb := hcur.getD ((N + k) / 8)
      generalize hxe : cur.getD ((N + k) / 8) 0 = x at c1 hxb
      have HE : Hid _ := hxe
      have hi2 : ((N + k) / 8) < ((N + n + 7) / 8) := by have := hL.out; omega
      clear hxe hi m1 m2 m3 mf mo0 mo1 HR
      go_wp2
      go_region
      go_wp2
      go_roundw
      case rel =>
        have hst := put_step hcur (bv xs) V N k x (by omega) (by have := hL.out; omega) HX.out (by exact HE.out) hB.out hV
        
        obtain ⟨y, hy, hy0, hy1, hyb⟩ := hst
        rw [hy]
        exact ⟨k + 1, cur.set ((N + k) / 8) y, by omega, by go_num, grownBy_drew (grownBy_set hgr.out _ _), row_set hR.out _ _, by unfold Hid; rw [List.length_set]; exact hL.out, hcur.set _ hy0 hy1, hyb⟩
      case measure => simp [intOf]; omega
    · have hge : n ≤ k := by omega
      clear hlt m1 m2 m3 mf mo0 mo1 HR
      go_wp2
      have hkn : k = n := by omega
      subst hkn
      refine bodyPost_ret (v := .tuple #[.agg #[.slice (some ⟨g, 0, none⟩) ((N + k + 7) / 8) ((N + k + 7) / 8), .int .i64 ((N : Int) + (k : Int))], .int .i64 0]) (by simp [results, Try.results35, go_sem, a2, a3, af0, af1]) rfl ⟨_, cur, rfl, ?_, ?_, hcur, hL.out, hB.out⟩
      · refine RwF.of_row (e := 5) ?_ hL.out (by omega)
        rw [Below.heap_setCell _ _ _ _ (by show g ≠ w.heap.size + 1; omega), Below.heap_setCell _ _ _ _ (by show g ≠ w.heap.size + 1; omega)]
        exact hR.out
      · exact bset2 (hBW3.grown hgr.out (by omega) (fun k hk => by cases hk; omega)) _ _ _ _ _ _ (by omega) (by omega)

set_option maxHeartbeats 1000000 in
theorem put_wrong_arg (a : Option Addr) (cap : Nat) (xs : List Int) (M : Int) (w : World) (hv : Rw .u8 w (.slice a xs.length cap) xs) (hx : Byts xs) (hr : rightB xs M = false) (V : Nat) (n : Int) (hV : V < 2 ^ 64) (h : ¬ (0 ≤ n ∧ n ≤ 32)) :
    Calls Try.prog 35 #[.agg #[.slice a xs.length cap, .int .i64 M], .int .u64 V, .int .i64 n] w fun e w' => ∃ v', e = .returned (.tuple #[.agg #[v', .int .i64 0], .int .i64 1]) ∧ RwF w.heap.size .u8 w' v' ([] : List Int) ∧ Below w.heap.size w w' := by
  have hd : decide (0 ≤ n ∧ n ≤ 32) = false := decide_eq_false h
  have hW := below2 w (.cells #[.slice a xs.length cap, .int .i64 M] 50) (.cells #[.slice none 0 0, .int .i64 0] 50)
  have hv1 := hv.below hW
  go_enter Try.func35, Try.ntmps35
  go_wp2_with (go_at_call 40; refine (right_any _ xs M _ hv1 hx).mono ?_; rintro e w' ⟨rfl, hb1⟩; obtain ⟨hc1, hf1⟩ := bcell hb1; rw [hr])
  have hz := hb1.size
  simp at hz
  have hBw := bthen hW hb1 hW.size
  have q0 : w'.cell? ⟨w.heap.size, 0, none⟩ = some (.slice a xs.length cap) := by rw [hc1 _ _ (by simp; omega)]; simp [go_sem]
  have q1 : w'.cell? ⟨w.heap.size, 1, none⟩ = some (.int .i64 M) := by rw [hc1 _ _ (by simp; omega)]; simp [go_sem]
  have k0 : ((w'.setCell ⟨w.heap.size, 0, none⟩ (.slice none 0 0)).setCell ⟨w.heap.size, 1, none⟩ (.int .i64 0)).cell? ⟨w.heap.size, 0, none⟩ = some (.slice none 0 0) := by simp [go_sem, q0, q1]; try omega
  have k1 : ((w'.setCell ⟨w.heap.size, 0, none⟩ (.slice none 0 0)).setCell ⟨w.heap.size, 1, none⟩ (.int .i64 0)).cell? ⟨w.heap.size, 1, none⟩ = some (.int .i64 0) := by simp [go_sem, q0, q1]; try omega
  have k2 : ((w'.setCell ⟨w.heap.size, 0, none⟩ (.slice none 0 0)).setCell ⟨w.heap.size, 1, none⟩ (.int .i64 0)).cell? ⟨w.heap.size + 1, 0, none⟩ = some (.slice none 0 0) := by rw [World.cell?_setCell_other _ _ _ _ (by simp), World.cell?_setCell_other _ _ _ _ (by simp)]; rw [hc1 _ _ (by simp)]; simp [go_sem]
  have k3 : ((w'.setCell ⟨w.heap.size, 0, none⟩ (.slice none 0 0)).setCell ⟨w.heap.size, 1, none⟩ (.int .i64 0)).cell? ⟨w.heap.size + 1, 1, none⟩ = some (.int .i64 0) := by rw [World.cell?_setCell_other _ _ _ _ (by simp), World.cell?_setCell_other _ _ _ _ (by simp)]; rw [hc1 _ _ (by simp)]; simp [go_sem]
  have f2 : ∀ o, ((w'.setCell ⟨w.heap.size, 0, none⟩ (.slice none 0 0)).setCell ⟨w.heap.size, 1, none⟩ (.int .i64 0)).frozen? ⟨w.heap.size + 1, o, none⟩ = false := by intro o; rw [frozen_set, frozen_set]; rw [hf1 _ _ (by simp)]; simp [go_sem]
  have hBW : Below w.heap.size w ((w'.setCell ⟨w.heap.size, 0, none⟩ (.slice none 0 0)).setCell ⟨w.heap.size, 1, none⟩ (.int .i64 0)) := bset2 hBw _ _ _ _ _ _ (by omega) (by omega)
  have hzW : w.heap.size + 1 < ((w'.setCell ⟨w.heap.size, 0, none⟩ (.slice none 0 0)).setCell ⟨w.heap.size, 1, none⟩ (.int .i64 0)).heap.size := by simp [World.setCell]; omega
  have hvW : Rw .u8 ((w'.setCell ⟨w.heap.size, 0, none⟩ (.slice none 0 0)).setCell ⟨w.heap.size, 1, none⟩ (.int .i64 0)) (.slice none 0 0) ([] : List Int) := ⟨none, 0, rfl, .inl rfl⟩
  clear hc1 hf1 hb1 hv1 hv hW hBw q0 q1
  generalize ((w'.setCell ⟨w.heap.size, 0, none⟩ (.slice none 0 0)).setCell ⟨w.heap.size, 1, none⟩ (.int .i64 0)) = W at *
  go_wp2_with (first | (go_at_call 41; refine (widthFits_any _ _).mono ?_; rintro e w'' ⟨rfl, rfl⟩; rw [hd]) | (go_at_call 42; refine (grown_any _ _ ([] : List Int) 0 0 _ hvW (by simp) (by omega)).mono ?_; rintro e w2 ⟨g, rfl, hg, hrow, hb2⟩; obtain ⟨hc2, hf2⟩ := bcell hb2))
  have hz2 := hb2.size
  have hne : g ≠ w.heap.size + 1 := by omega
  refine bodyPost_ret (v := .tuple #[.agg #[.slice (some ⟨g, 0, none⟩) ((0 + 0 + 7) / 8) ((0 + 0 + 7) / 8), .int .i64 0], .int .i64 1]) (by simp [results, Try.results35, go_sem, hc2, k2, k3, f2, hf2, hzW]) rfl ⟨_, rfl, ?_, bset2 (bthen hBW hb2 (by omega)) _ _ _ _ _ _ (by omega) (by omega)⟩
  have hrow2 : ((w2.setCell ⟨w.heap.size + 1, 0, none⟩ (.slice (some ⟨g, 0, none⟩) ((0 + 0 + 7) / 8) ((0 + 0 + 7) / 8))).setCell ⟨w.heap.size + 1, 1, none⟩ (.int .i64 0)).heap[g]? = some (.cells ((([] : List Int)).map (Value.int .u8)).toArray 5 (0, 0)) := by
    rw [Below.heap_setCell _ _ _ _ (by simpa using hne), Below.heap_setCell _ _ _ _ (by simpa using hne), hrow]
    rfl
  exact RwF.of_row hrow2 (by rfl) (by omega)

set_option maxHeartbeats 1000000 in
theorem put_wrong_big (a : Option Addr) (cap : Nat) (xs : List Int) (M : Int) (w : World) (hv : Rw .u8 w (.slice a xs.length cap) xs) (hx : Byts xs) (hr : rightB xs M = false) (V n : Nat) (hV : V < 2 ^ 64) (hn : n ≤ 32) (h : ((V : Int) / 2 ^ n != 0) = true) :
    Calls Try.prog 35 #[.agg #[.slice a xs.length cap, .int .i64 M], .int .u64 V, .int .i64 n] w fun e w' => ∃ v', e = .returned (.tuple #[.agg #[v', .int .i64 0], .int .i64 1]) ∧ RwF w.heap.size .u8 w' v' ([] : List Int) ∧ Below w.heap.size w w' := by
  have hd : decide (0 ≤ (n : Int) ∧ (n : Int) ≤ 32) = true := decide_eq_true (by omega)
  have hW := below2 w (.cells #[.slice a xs.length cap, .int .i64 M] 50) (.cells #[.slice none 0 0, .int .i64 0] 50)
  have hv1 := hv.below hW
  go_enter Try.func35, Try.ntmps35
  go_wp2_with (go_at_call 40; refine (right_any _ xs M _ hv1 hx).mono ?_; rintro e w' ⟨rfl, hb1⟩; obtain ⟨hc1, hf1⟩ := bcell hb1; rw [hr])
  have hz := hb1.size
  simp at hz
  have hBw := bthen hW hb1 hW.size
  have q0 : w'.cell? ⟨w.heap.size, 0, none⟩ = some (.slice a xs.length cap) := by rw [hc1 _ _ (by simp; omega)]; simp [go_sem]
  have q1 : w'.cell? ⟨w.heap.size, 1, none⟩ = some (.int .i64 M) := by rw [hc1 _ _ (by simp; omega)]; simp [go_sem]
  have k0 : ((w'.setCell ⟨w.heap.size, 0, none⟩ (.slice none 0 0)).setCell ⟨w.heap.size, 1, none⟩ (.int .i64 0)).cell? ⟨w.heap.size, 0, none⟩ = some (.slice none 0 0) := by simp [go_sem, q0, q1]; try omega
  have k1 : ((w'.setCell ⟨w.heap.size, 0, none⟩ (.slice none 0 0)).setCell ⟨w.heap.size, 1, none⟩ (.int .i64 0)).cell? ⟨w.heap.size, 1, none⟩ = some (.int .i64 0) := by simp [go_sem, q0, q1]; try omega
  have k2 : ((w'.setCell ⟨w.heap.size, 0, none⟩ (.slice none 0 0)).setCell ⟨w.heap.size, 1, none⟩ (.int .i64 0)).cell? ⟨w.heap.size + 1, 0, none⟩ = some (.slice none 0 0) := by rw [World.cell?_setCell_other _ _ _ _ (by simp), World.cell?_setCell_other _ _ _ _ (by simp)]; rw [hc1 _ _ (by simp)]; simp [go_sem]
  have k3 : ((w'.setCell ⟨w.heap.size, 0, none⟩ (.slice none 0 0)).setCell ⟨w.heap.size, 1, none⟩ (.int .i64 0)).cell? ⟨w.heap.size + 1, 1, none⟩ = some (.int .i64 0) := by rw [World.cell?_setCell_other _ _ _ _ (by simp), World.cell?_setCell_other _ _ _ _ (by simp)]; rw [hc1 _ _ (by simp)]; simp [go_sem]
  have f2 : ∀ o, ((w'.setCell ⟨w.heap.size, 0, none⟩ (.slice none 0 0)).setCell ⟨w.heap.size, 1, none⟩ (.int .i64 0)).frozen? ⟨w.heap.size + 1, o, none⟩ = false := by intro o; rw [frozen_set, frozen_set]; rw [hf1 _ _ (by simp)]; simp [go_sem]
  have hBW : Below w.heap.size w ((w'.setCell ⟨w.heap.size, 0, none⟩ (.slice none 0 0)).setCell ⟨w.heap.size, 1, none⟩ (.int .i64 0)) := bset2 hBw _ _ _ _ _ _ (by omega) (by omega)
  have hzW : w.heap.size + 1 < ((w'.setCell ⟨w.heap.size, 0, none⟩ (.slice none 0 0)).setCell ⟨w.heap.size, 1, none⟩ (.int .i64 0)).heap.size := by simp [World.setCell]; omega
  have hvW : Rw .u8 ((w'.setCell ⟨w.heap.size, 0, none⟩ (.slice none 0 0)).setCell ⟨w.heap.size, 1, none⟩ (.int .i64 0)) (.slice none 0 0) ([] : List Int) := ⟨none, 0, rfl, .inl rfl⟩
  clear hc1 hf1 hb1 hv1 hv hW hBw q0 q1
  generalize ((w'.setCell ⟨w.heap.size, 0, none⟩ (.slice none 0 0)).setCell ⟨w.heap.size, 1, none⟩ (.int .i64 0)) = W at *
  go_wp2_with (first | (go_at_call 41; refine (widthFits_any _ _).mono ?_; rintro e w'' ⟨rfl, rfl⟩; rw [hd]) | (go_at_call 42; refine (grown_any _ _ ([] : List Int) 0 0 _ hvW (by simp) (by omega)).mono ?_; rintro e w2 ⟨g, rfl, hg, hrow, hb2⟩; obtain ⟨hc2, hf2⟩ := bcell hb2))
  have hz2 := hb2.size
  have hne : g ≠ w.heap.size + 1 := by omega
  refine bodyPost_ret (v := .tuple #[.agg #[.slice (some ⟨g, 0, none⟩) ((0 + 0 + 7) / 8) ((0 + 0 + 7) / 8), .int .i64 0], .int .i64 1]) (by simp [results, Try.results35, go_sem, hc2, k2, k3, f2, hf2, hzW]) rfl ⟨_, rfl, ?_, bset2 (bthen hBW hb2 (by omega)) _ _ _ _ _ _ (by omega) (by omega)⟩
  have hrow2 : ((w2.setCell ⟨w.heap.size + 1, 0, none⟩ (.slice (some ⟨g, 0, none⟩) ((0 + 0 + 7) / 8) ((0 + 0 + 7) / 8))).setCell ⟨w.heap.size + 1, 1, none⟩ (.int .i64 0)).heap[g]? = some (.cells ((([] : List Int)).map (Value.int .u8)).toArray 5 (0, 0)) := by
    rw [Below.heap_setCell _ _ _ _ (by simpa using hne), Below.heap_setCell _ _ _ _ (by simpa using hne), hrow]
    rfl
  exact RwF.of_row hrow2 (by rfl) (by omega)

set_option maxHeartbeats 2000000 in
theorem put_wrong_ok (a : Option Addr) (cap : Nat) (xs : List Int) (M : Int) (w : World) (hv : Rw .u8 w (.slice a xs.length cap) xs) (hx : Byts xs) (hr : rightB xs M = false) (V n : Nat) (hV : V < 2 ^ 64) (hn : n ≤ 32) (h : ((V : Int) / 2 ^ n != 0) = false) (hfit : 0 + n ≤ 32000) (HX : Hid (bv ([] : List Int) < 2 ^ 0)) :
    Calls Try.prog 35 #[.agg #[.slice a xs.length cap, .int .i64 M], .int .u64 V, .int .i64 n] w fun e w' => ∃ v', ∃ cur, e = .returned (.tuple #[.agg #[v', .int .i64 ((n : Int))], .int .i64 0]) ∧ RwF w.heap.size .u8 w' v' cur ∧ Below w.heap.size w w' ∧ Byts cur ∧ cur.length = ((n + 7) / 8) ∧ bv cur = bv ([] : List Int) + V % 2 ^ n * 2 ^ 0 := by
  have hd : decide (0 ≤ (n : Int) ∧ (n : Int) ≤ 32) = true := decide_eq_true (by omega)
  have hW := below2 w (.cells #[.slice a xs.length cap, .int .i64 M] 50) (.cells #[.slice none 0 0, .int .i64 0] 50)
  have hv1 := hv.below hW
  go_enter Try.func35, Try.ntmps35
  go_wp2_with (go_at_call 40; refine (right_any _ xs M _ hv1 hx).mono ?_; rintro e w' ⟨rfl, hb1⟩; obtain ⟨hc1, hf1⟩ := bcell hb1; rw [hr])
  have hz := hb1.size
  simp at hz
  have hBw := bthen hW hb1 hW.size
  have q0 : w'.cell? ⟨w.heap.size, 0, none⟩ = some (.slice a xs.length cap) := by rw [hc1 _ _ (by simp; omega)]; simp [go_sem]
  have q1 : w'.cell? ⟨w.heap.size, 1, none⟩ = some (.int .i64 M) := by rw [hc1 _ _ (by simp; omega)]; simp [go_sem]
  have k0 : ((w'.setCell ⟨w.heap.size, 0, none⟩ (.slice none 0 0)).setCell ⟨w.heap.size, 1, none⟩ (.int .i64 0)).cell? ⟨w.heap.size, 0, none⟩ = some (.slice none 0 0) := by simp [go_sem, q0, q1]; try omega
  have k1 : ((w'.setCell ⟨w.heap.size, 0, none⟩ (.slice none 0 0)).setCell ⟨w.heap.size, 1, none⟩ (.int .i64 0)).cell? ⟨w.heap.size, 1, none⟩ = some (.int .i64 0) := by simp [go_sem, q0, q1]; try omega
  have k2 : ((w'.setCell ⟨w.heap.size, 0, none⟩ (.slice none 0 0)).setCell ⟨w.heap.size, 1, none⟩ (.int .i64 0)).cell? ⟨w.heap.size + 1, 0, none⟩ = some (.slice none 0 0) := by rw [World.cell?_setCell_other _ _ _ _ (by simp), World.cell?_setCell_other _ _ _ _ (by simp)]; rw [hc1 _ _ (by simp)]; simp [go_sem]
  have k3 : ((w'.setCell ⟨w.heap.size, 0, none⟩ (.slice none 0 0)).setCell ⟨w.heap.size, 1, none⟩ (.int .i64 0)).cell? ⟨w.heap.size + 1, 1, none⟩ = some (.int .i64 0) := by rw [World.cell?_setCell_other _ _ _ _ (by simp), World.cell?_setCell_other _ _ _ _ (by simp)]; rw [hc1 _ _ (by simp)]; simp [go_sem]
  have f2 : ∀ o, ((w'.setCell ⟨w.heap.size, 0, none⟩ (.slice none 0 0)).setCell ⟨w.heap.size, 1, none⟩ (.int .i64 0)).frozen? ⟨w.heap.size + 1, o, none⟩ = false := by intro o; rw [frozen_set, frozen_set]; rw [hf1 _ _ (by simp)]; simp [go_sem]
  have hBW : Below w.heap.size w ((w'.setCell ⟨w.heap.size, 0, none⟩ (.slice none 0 0)).setCell ⟨w.heap.size, 1, none⟩ (.int .i64 0)) := bset2 hBw _ _ _ _ _ _ (by omega) (by omega)
  have hzW : w.heap.size + 1 < ((w'.setCell ⟨w.heap.size, 0, none⟩ (.slice none 0 0)).setCell ⟨w.heap.size, 1, none⟩ (.int .i64 0)).heap.size := by simp [World.setCell]; omega
  have hvW : Rw .u8 ((w'.setCell ⟨w.heap.size, 0, none⟩ (.slice none 0 0)).setCell ⟨w.heap.size, 1, none⟩ (.int .i64 0)) (.slice none 0 0) ([] : List Int) := ⟨none, 0, rfl, .inl rfl⟩
  clear hc1 hf1 hb1 hv1 hv hW hBw q0 q1
  generalize ((w'.setCell ⟨w.heap.size, 0, none⟩ (.slice none 0 0)).setCell ⟨w.heap.size, 1, none⟩ (.int .i64 0)) = W at *
  go_wp2_with (first | (go_at_call 41; refine (widthFits_any _ _).mono ?_; rintro e w'' ⟨rfl, rfl⟩; rw [hd]) | (go_at_call 42; refine (grown_any _ _ ([] : List Int) 0 n _ hvW (by simp) (by omega)).mono ?_; rintro e w2 ⟨g, rfl, hg, hrow, hb2⟩; obtain ⟨hc2, hf2⟩ := bcell hb2))
  have hz2 := hb2.size
  have hg2 : g < w2.heap.size := by
    rcases Nat.lt_or_ge g w2.heap.size with h' | h'
    · exact h'
    · rw [Array.getElem?_eq_none h'] at hrow; cases hrow
  have m1 : (w2.alloc (.cells #[.slice (some ⟨g, 0, none⟩) ((n + 7) / 8) ((n + 7) / 8), .int .i64 ((n : Int))] 50)).cell? ⟨w.heap.size, 1, none⟩ = some (.int .i64 0) := by
    rw [World.cell?_alloc_past _ _ _ (by omega), hc2 _ _ (by omega), k1]
  have m2 : (w2.alloc (.cells #[.slice (some ⟨g, 0, none⟩) ((n + 7) / 8) ((n + 7) / 8), .int .i64 ((n : Int))] 50)).cell? ⟨w.heap.size + 1, 0, none⟩ = some (.slice none 0 0) := by
    rw [World.cell?_alloc_past _ _ _ (by omega), hc2 _ _ (by omega), k2]
  have m3 : (w2.alloc (.cells #[.slice (some ⟨g, 0, none⟩) ((n + 7) / 8) ((n + 7) / 8), .int .i64 ((n : Int))] 50)).cell? ⟨w.heap.size + 1, 1, none⟩ = some (.int .i64 0) := by
    rw [World.cell?_alloc_past _ _ _ (by omega), hc2 _ _ (by omega), k3]
  have mf : ∀ o, (w2.alloc (.cells #[.slice (some ⟨g, 0, none⟩) ((n + 7) / 8) ((n + 7) / 8), .int .i64 ((n : Int))] 50)).frozen? ⟨w.heap.size + 1, o, none⟩ = false := by
    intro o
    rw [World.frozen?_alloc_past _ _ _ (by omega), hf2 _ _ (by omega), f2]
  have mo0 : (w2.alloc (.cells #[.slice (some ⟨g, 0, none⟩) ((n + 7) / 8) ((n + 7) / 8), .int .i64 ((n : Int))] 50)).cell? ⟨w2.heap.size, 0, none⟩ = some (.slice (some ⟨g, 0, none⟩) ((n + 7) / 8) ((n + 7) / 8)) := by simp [go_sem]
  have mo1 : (w2.alloc (.cells #[.slice (some ⟨g, 0, none⟩) ((n + 7) / 8) ((n + 7) / 8), .int .i64 ((n : Int))] 50)).cell? ⟨w2.heap.size, 1, none⟩ = some (.int .i64 ((n : Int))) := by simp [go_sem]
  have HR : Hid ((w2.alloc (.cells #[.slice (some ⟨g, 0, none⟩) ((n + 7) / 8) ((n + 7) / 8), .int .i64 ((n : Int))] 50)).heap[g]? = some (.cells ((([] : List Int) ++ List.replicate (((n + 7) / 8) - (([] : List Int)).length) 0).map (Value.int .u8)).toArray 5 (0, 0))) := by
    unfold Hid; rw [Below.heap_alloc _ _ _ hg2]; simpa using hrow
  have hBW3 : Below w.heap.size w (w2.alloc (.cells #[.slice (some ⟨g, 0, none⟩) ((n + 7) / 8) ((n + 7) / 8), .int .i64 ((n : Int))] 50)) := (bthen hBW hb2 (by omega)).alloc (by omega) _
  have hz3 : (w2.alloc (.cells #[.slice (some ⟨g, 0, none⟩) ((n + 7) / 8) ((n + 7) / 8), .int .i64 ((n : Int))] 50)).heap.size = w2.heap.size + 1 := by simp
  clear hc2 hf2 hb2 hBW hrow k0 k1 k2 k3 f2 hvW
  generalize (w2.alloc (.cells #[.slice (some ⟨g, 0, none⟩) ((n + 7) / 8) ((n + 7) / 8), .int .i64 ((n : Int))] 50)) = W3 at *
  go_loopw [37] (fun i wr => ∃ k : Nat, ∃ cur : List Int, k ≤ n ∧ i = .int .i64 k ∧ Hid (W3.grownBy wr (some g)) ∧ Hid (wr.heap[g]? = some (.cells (cur.map (Value.int .u8)).toArray 5 (0, 0))) ∧ Hid (cur.length = ((n + 7) / 8)) ∧ Byts cur ∧ Hid (bv cur = bv ([] : List Int) + V % 2 ^ k * 2 ^ 0)) (fun i _ => n - (intOf i).toNat)
  case atStart =>
    refine ⟨0, _, by omega, rfl, World.grownBy.refl _ _, HR, ?_, Byts.nil.append (Byts.replicate _), ?_⟩
    · unfold Hid; simp
    · unfold Hid; rw [bv_append, bv_zero]; simp [Nat.mod_one]
  case round =>
    obtain ⟨k, cur, hk, rfl, hgr, hR, hL, hcur, hB⟩ := hrel
    have a1 := (grownBy_cells hgr.out w.heap.size 1 (by omega) (by omega)).1.trans m1
    have ao := (grownBy_cells hgr.out w2.heap.size 0 (by omega) (by omega)).1.trans mo0
    have ao1 := (grownBy_cells hgr.out w2.heap.size 1 (by omega) (by omega)).1.trans mo1
    have a2 := (grownBy_cells hgr.out (w.heap.size + 1) 0 (by omega) (by omega)).1.trans m2
    have a3 := (grownBy_cells hgr.out (w.heap.size + 1) 1 (by omega) (by omega)).1.trans m3
    have af0 := (grownBy_cells hgr.out (w.heap.size + 1) 0 (by omega) (by omega)).2.trans (mf 0)
    have af1 := (grownBy_cells hgr.out (w.heap.size + 1) 1 (by omega) (by omega)).2.trans (mf 1)
    by_cases hlt : k < n
    · have hi : k / 8 < cur.length := by have := hL.out; omega
      obtain ⟨c1, c2⟩ := cell_of_row hR.out (k / 8) hi
      have hxb := hcur.getD (k / 8)
      generalize hxe : cur.getD (k / 8) 0 = x at c1 hxb
      have HE : Hid _ := hxe
      have hi2 : (k / 8) < ((n + 7) / 8) := by have := hL.out; omega
      clear hxe hi m1 m2 m3 mf mo0 mo1 HR
      go_wp2
      go_region
      go_wp2
      go_roundw
      case rel =>
        have hst := put_step hcur (bv ([] : List Int)) V 0 k x (by omega) (by have := hL.out; omega) HX.out (by rw [Nat.zero_add]; exact HE.out) hB.out hV
        rw [Nat.zero_add] at hst
        obtain ⟨y, hy, hy0, hy1, hyb⟩ := hst
        rw [hy]
        exact ⟨k + 1, cur.set (k / 8) y, by omega, by go_num, grownBy_drew (grownBy_set hgr.out _ _), row_set hR.out _ _, by unfold Hid; rw [List.length_set]; exact hL.out, hcur.set _ hy0 hy1, hyb⟩
      case measure => simp [intOf]; omega
    · have hge : n ≤ k := by omega
      clear hlt m1 m2 m3 mf mo0 mo1 HR
      go_wp2
      have hkn : k = n := by omega
      subst hkn
      refine bodyPost_ret (v := .tuple #[.agg #[.slice (some ⟨g, 0, none⟩) ((k + 7) / 8) ((k + 7) / 8), .int .i64 ((k : Int))], .int .i64 0]) (by simp [results, Try.results35, go_sem, a2, a3, af0, af1]) rfl ⟨_, cur, rfl, ?_, ?_, hcur, hL.out, hB.out⟩
      · refine RwF.of_row (e := 5) ?_ hL.out (by omega)
        rw [Below.heap_setCell _ _ _ _ (by show g ≠ w.heap.size + 1; omega), Below.heap_setCell _ _ _ _ (by show g ≠ w.heap.size + 1; omega)]
        exact hR.out
      · exact bset2 (hBW3.grown hgr.out (by omega) (fun k hk => by cases hk; omega)) _ _ _ _ _ _ (by omega) (by omega)
end Go.Proofs.Ytdgacbelpenmmaa
