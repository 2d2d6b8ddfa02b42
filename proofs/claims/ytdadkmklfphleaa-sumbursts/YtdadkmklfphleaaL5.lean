/- The Go function of the statement SumBursts returns true at every input, and leaves each argument as it read. No condition. -/
import Derived.Test.YtdadkmklfphleaaWd
import Derived.Deep.RegionHeld3
import Derived.ProofKit
import Derived.OpenShut
import Derived.ShutString
import Derived.ChangeOld
import Derived.Lib.SmallJoins
namespace Go.Proofs.Ytdadkmklfphleaa.sumBursts
open Go.ChangeShapes Go.WideShapes Go.ChangeAt Go.RowKit Go.Joins
set_option linter.unusedVariables false
set_option linter.unusedSimpArgs false

theorem own : ownKnob Try.prog.godebug = none := by kernel_rfl
theorem laidOut : laidOutB Try.prog = true := by kernel_rfl

theorem info5 : (Try.prog.info? 5).map (fun i => (i.zero, i.size, i.bytes)) = some (some (.int .u8 0), 1, 1) := by kernel_rfl
theorem mul_xor (n a b : Nat) : 2 ^ n * (a ^^^ b) = 2 ^ n * a ^^^ 2 ^ n * b := by
  apply Nat.eq_of_testBit_eq
  intro j
  simp only [Nat.testBit_two_pow_mul, Nat.testBit_xor]
  by_cases h : j ≥ n <;> simp [h]
theorem bvN_cons (x : Nat) (l : List Nat) (h : x < 256) : bvN (x :: l) = 2 ^ 8 * bvN l ^^^ x := by
  rw [← add_xor 8 _ x h]; simp only [bvN]; omega
theorem bvN_turn (l m : List Nat) (hl : l.length = m.length) (h1 : ∀ x ∈ l, x < 256) (h2 : ∀ x ∈ m, x < 256) (j q : Nat) (hq : q < 8) (hj : j < m.length) :
    bvN (List.zipWith (· ^^^ ·) l (m.set j (m.getD j 0 ^^^ 2 ^ q))) = bvN (List.zipWith (· ^^^ ·) l m) ^^^ 2 ^ (8 * j + q) := by
  have hp : 2 ^ q < 256 := Nat.lt_of_lt_of_le (Nat.pow_lt_pow_right (by decide) hq) (by decide)
  induction l generalizing m j with
  | nil => cases m with
    | nil => simp at hj
    | cons y m => simp at hl
  | cons x l ih => cases m with
    | nil => simp at hj
    | cons y m =>
      have hx := h1 x (by simp)
      have hy := h2 y (by simp)
      have hxy := xor8_lt x y hx hy
      cases j with
      | zero =>
        simp only [List.set_cons_zero, List.zipWith_cons_cons, List.getD_cons_zero]
        rw [bvN_cons _ _ (xor8_lt _ _ hx (xor8_lt _ _ hy hp)), bvN_cons _ _ hxy]
        simp [Nat.xor_assoc]
      | succ j =>
        simp only [List.set_cons_succ, List.zipWith_cons_cons, List.getD_cons_succ]
        rw [bvN_cons _ _ hxy, bvN_cons _ _ hxy, ih m (by simpa using hl) (fun z hz => h1 z (by simp [hz])) (fun z hz => h2 z (by simp [hz])) j (by simpa using hj), show 8 * (j + 1) + q = 8 + (8 * j + q) by omega, mul_xor, ← Nat.pow_add, Nat.xor_assoc, Nat.xor_assoc, Nat.xor_comm (2 ^ (8 + (8 * j + q)))]
theorem turn_step (F T i : Nat) (hb : T / 2 ^ i % 2 = 1) : 2 ^ F * (T % 2 ^ i) ^^^ 2 ^ (F + i) = 2 ^ F * (T % 2 ^ (i + 1)) := by
  have h1 : T % 2 ^ i < 2 ^ i := Nat.mod_lt _ (Nat.two_pow_pos i)
  have h2 : 2 ^ F * (T % 2 ^ i) < 2 ^ (F + i) := by rw [Nat.pow_add]; exact Nat.mul_lt_mul_of_pos_left h1 (Nat.two_pow_pos F)
  have h3 := add_xor (F + i) 1 _ h2
  rw [Nat.mul_one] at h3
  rw [Nat.xor_comm, ← h3, mod_two_pow_succ, hb, Nat.mul_add, Nat.pow_add, Nat.one_mul, Nat.add_comm]
theorem turn_stay (T i : Nat) (hb : ¬ T / 2 ^ i % 2 = 1) : T % 2 ^ i = T % 2 ^ (i + 1) := by
  rw [mod_two_pow_succ, show T / 2 ^ i % 2 = 0 by omega]; simp
theorem first_at (a : Int) (n : Nat) (h : 0 < n) : ∃ F : Nat, (IntKind.u64.wrap a).tmod (8 * (n : Int)) = F ∧ F < 8 * n := by
  have h0 : 0 ≤ IntKind.u64.wrap a := by rw [IntKind.wrap_u64]; omega
  have h1 : 0 ≤ (IntKind.u64.wrap a).tmod (8 * (n : Int)) := Int.tmod_nonneg _ h0
  have h2 := Int.tmod_lt_of_pos (IntKind.u64.wrap a) (show (0 : Int) < 8 * (n : Int) by omega)
  exact ⟨((IntKind.u64.wrap a).tmod (8 * (n : Int))).toNat, by omega, by omega⟩
/-- Numbers, as integers. -/
def ofN (m : List Nat) : List Int := m.map (fun (n : Nat) => (n : Int))

theorem ofN_toNat {xs : List Int} (hx : Byts xs) : ofN (xs.map Int.toNat) = xs := by
  unfold ofN
  rw [List.map_map]
  conv => rhs; rw [← List.map_id xs]
  apply List.map_congr_left
  intro y hy
  have := hx y hy
  show ((y.toNat : Nat) : Int) = y
  omega
theorem shr_mod (K I : Nat) : ((K : Int) / 2 ^ I).tmod 2 = ((K / 2 ^ I % 2 : Nat) : Int) := by
  rw [nat_shr]; rfl
theorem bit_true (K I : Nat) (h : K / 2 ^ I % 2 = 1) : (((K : Int) / 2 ^ I).tmod 2 == 1) = true := by
  rw [shr_mod, h]; rfl
theorem bit_false (K I : Nat) (h : ¬ K / 2 ^ I % 2 = 1) : (((K : Int) / 2 ^ I).tmod 2 == 1) = false := by
  rw [shr_mod, show K / 2 ^ I % 2 = 0 by omega]; rfl
theorem turn_val (y q : Nat) (hy : y < 256) (hq : q < 8) : bits .xor .u8 (y : Int) (2 ^ q % 256) = ((y ^^^ 2 ^ q : Nat) : Int) := by
  have hp : 2 ^ q < 256 := Nat.lt_of_lt_of_le (Nat.pow_lt_pow_right (by decide) hq) (by decide)
  have e : (2 ^ q % 256 : Int) = ((2 ^ q : Nat) : Int) := by
    have e0 : (2 ^ q : Int) = ((2 ^ q : Nat) : Int) := by rw [Int.natCast_pow]; rfl
    rw [e0]
    generalize 2 ^ q = z at hp
    omega
  rw [e, u8_xor_nat _ _ hy hp]
theorem xor_cancel (a b c : Nat) : (a ^^^ c = b ^^^ c) ↔ a = b := by
  constructor
  · intro h
    have := congrArg (· ^^^ c) h
    simpa [Nat.xor_assoc] using this
  · intro h; rw [h]
theorem bvN_same (l : List Nat) : bvN (List.zipWith (· ^^^ ·) l l) = 0 := by
  induction l with
  | nil => rfl
  | cons x l ih => simp only [List.zipWith_cons_cons, bvN, ih, Nat.xor_self]

set_option maxRecDepth 10000 in
set_option maxHeartbeats 2000000 in
theorem walk (a0 : Option Addr) (len0 cap0 : Nat) (z0 : List Int) (a1 : Int) (a2 : Int) (w : World) (w0 : IsRow .u8 w a0 len0 cap0 z0) (w1 : (Lit.int .i64 a1).wf = true) (w2 : (Lit.int .u32 a2).wf = true) :
    Calls Try.prog 7 #[.slice a0 len0 cap0, .int .i64 a1, .int .u32 a2] w fun e w' => e = .returned (.bool true) ∧ Below w.heap.size w w' := by
  obtain ⟨xs, rfl, hrw, hx⟩ := row_rw w0
  have hcap := row_cap w0
  obtain ⟨K, rfl, hK⟩ := u32_nat w2
  obtain ⟨i0, hi, hz0, hz1, hz2⟩ := info_parts info5
  clear w0 w1 w2
  by_cases hg : 5000 < xs.length
  · have hd : decide (5000 < xs.length) = true := decide_eq_true hg
    go_enter Try.func7, Try.ntmps7
    go_wp2_with (first | (go_at_call 11; refine (great_any _ _ _ _).mono ?_; rintro e w ⟨rfl, rfl⟩; rw [hd]) | (go_at_call 10; refine (knows_any _).mono ?_; rintro e w5 ⟨rfl, hb5⟩))
    go_ret
    exact ⟨rfl, hb5⟩
  have hd : decide (5000 < xs.length) = false := decide_eq_false hg
  have hl : xs.length ≤ 5000 := by omega
  clear hg
  by_cases hg : xs.length = 0
  · have hg2 : (xs.length : Int) = 0 := by omega
    have hd : decide (5000 < 0) = false := rfl
    go_enter Try.func7, Try.ntmps7
    go_wp2_with (first | (go_at_call 11; refine (great_any _ 0 _ _).mono ?_; rintro e w ⟨rfl, rfl⟩; rw [hd]) | (go_at_call 10; refine (knows_any _).mono ?_; rintro e w5 ⟨rfl, hb5⟩))
    go_ret
    exact ⟨rfl, hb5⟩
  have hg2 : ¬ (xs.length : Int) = 0 := by omega
  by_cases hk : K = 0
  · subst hk
    go_enter Try.func7, Try.ntmps7
    go_wp2_with (first | (go_at_call 11; refine (great_any _ _ _ _).mono ?_; rintro e w ⟨rfl, rfl⟩; rw [hd]) | (go_at_call 10; refine (knows_any _).mono ?_; rintro e w5 ⟨rfl, hb5⟩))
    go_ret
    exact ⟨rfl, hb5⟩
  have hk2 : ¬ (K : Int) = 0 := by omega
  have hg3 : ((xs.length : Int) == 0) = false := by simpa using hg2
  have hk3 : ((K : Int) == 0) = false := by simpa using hk2
  obtain ⟨F, hF, hF2⟩ := first_at a1 xs.length (by omega)
  go_enter Try.func7, Try.ntmps7
  go_wp2_with (first | (go_at_call 11; refine (great_any _ _ _ _).mono ?_; rintro e w ⟨rfl, rfl⟩; rw [hd]) | (at_builtin; refine wpList_append_rw rfl _ _ 28 rfl w.heap.size 5 i0 (.int .u8 0) 1 Try.underlying28 hi hz0 hz1 hz2 rfl .u8 _ 0 [] rfl (World.ownsRow_lit w #[] 0 (Nat.le_refl _) (by decide) rfl) a0 cap0 xs rfl ?c1 hcap ?c2 ?c3 ?c4 ?_))
  case c1 => exact hrw.below (below1 _ _)
  case c2 => unfold maxLen; omega
  case c3 => omega
  case c4 => simp
  intro v2 w2 hown hgrow
  have hB : Below w.heap.size w w2 := (below1 w (.cells #[] 5)).grown hgrow (by simp) (fun k hk => by simp [Value.ownBlock] at hk; omega)
  obtain ⟨g, c2, rfl⟩ : ∃ g c2, v2 = .slice (some ⟨g, 0, none⟩) xs.length c2 := by
    rcases hown.2 with ⟨h, h0⟩ | ⟨g, cap, cur, h, _⟩
    · omega
    · exact ⟨g, cap, by simpa using h⟩
  have hgb : w.heap.size ≤ g := by
    rcases hown.2 with ⟨h, h0⟩ | ⟨g', cap, cur, h, hb, _⟩
    · cases h
    · simp at h; omega
  have hown0 : w2.ownsRow w.heap.size 5 1 (.slice (some ⟨g, 0, none⟩) xs.length c2) xs.length ((ofN (xs.map Int.toNat)).map (Value.int .u8)) := by
    rw [ofN_toNat hx]
    simpa using hown
  clear hown hgrow
  go_wp2
  go_loopw [9, 10] (fun d i wr => ∃ (I : Nat) (m : List Nat), I ≤ 32 ∧ i = .int .i64 I ∧ F + I ≤ 8 * xs.length ∧ d = .bool (decide (K % 2 ^ I ≠ 0)) ∧ Hid (m.length = xs.length) ∧ (∀ x ∈ m, x < 256) ∧ Hid (bvN (List.zipWith (· ^^^ ·) (xs.map Int.toNat) m) = 2 ^ F * (K % 2 ^ I)) ∧ Below w.heap.size w wr ∧ wr.ownsRow w.heap.size 5 1 (.slice (some ⟨g, 0, none⟩) xs.length c2) xs.length ((ofN m).map (Value.int .u8))) (fun _ i _ => 32 - (intOf i).toNat)
  case atStart => exact ⟨0, xs.map Int.toNat, by omega, rfl, by omega, by simp [Nat.mod_one], by unfold Hid; simp, nums_lt hx, by unfold Hid; rw [Nat.pow_zero, Nat.mod_one, Nat.mul_zero]; exact bvN_same _, hB, hown0⟩
  case round =>
    obtain ⟨I, m, hI, rfl, hFI, rfl, hml, hmb, hbv, hbw, hown⟩ := hrel
    by_cases hi1 : I < 32 ∧ F + I < 8 * xs.length
    · obtain ⟨hi1, hi2⟩ := hi1
      by_cases hbit : K / 2 ^ I % 2 = 1
      · have hj : (F + I) / 8 < m.length := by rw [hml.out]; omega
        have hcell := hown.cellAt ((F + I) / 8) (by omega)
        have hfro := hown.frozenAt ((F + I) / 8)
        obtain ⟨hown2, hgr2⟩ := hown.stored ((F + I) / 8) (.int .u8 ((m.getD ((F + I) / 8) 0 ^^^ 2 ^ ((F + I) % 8) : Nat) : Int))
        have hbt : (((K : Int) / 2 ^ I).tmod 2 == 1) = true := bit_true K I hbit
        have hget : (List.map (Value.int .u8) (ofN m))[(F + I) / 8]? = some (.int .u8 ((m.getD ((F + I) / 8) 0 : Nat) : Int)) := by
          unfold ofN
          simp [hj]
        rw [hget] at hcell
        have hyl := hmb (m.getD ((F + I) / 8) 0) (by rw [List.getD_eq_getElem?_getD, List.getElem?_eq_getElem hj]; exact List.getElem_mem hj)
        have hval : Hid _ := turn_val (m.getD ((F + I) / 8) 0) ((F + I) % 8) hyl (by omega)
        generalize hy : m.getD ((F + I) / 8) 0 = y at *
        generalize hY : y ^^^ 2 ^ ((F + I) % 8) = Y at *
        have hy' : Hid _ := hy
        have hY' : Hid _ := hY
        clear hy hY hget
        go_wp2
        go_region
        rw [hval.out]
        have hbw2 := hbw.setCell (p := ⟨g, (F + I) / 8, none⟩) hgb (.int .u8 (Y : Int))
        have hown3 : (wr.setCell ⟨g, (F + I) / 8, none⟩ (.int .u8 (Y : Int))).ownsRow w.heap.size 5 1 (.slice (some ⟨g, 0, none⟩) xs.length c2) xs.length ((ofN (m.set ((F + I) / 8) Y)).map (Value.int .u8)) := by
          unfold ofN at hown2 ⊢
          rw [List.map_set, List.map_set]
          exact hown2
        clear hown2 hgr2 hown hbw hcell hfro
        generalize wr.setCell ⟨g, (F + I) / 8, none⟩ (.int .u8 (Y : Int)) = W3 at *
        have hbw3 : Below w.heap.size w W3.drew := ⟨hbw2.os, hbw2.tape, hbw2.output, hbw2.size, hbw2.block⟩
        have hown4 := hown3.drew
        go_wp2
        have hlen : (xs.map Int.toNat).length = m.length := by rw [hml.out]; simp
        have hne : K % 2 ^ (I + 1) ≠ 0 := by
          rw [mod_two_pow_succ, hbit]
          have := Nat.two_pow_pos I
          omega
        refine ⟨⟨I + 1, m.set ((F + I) / 8) Y, by omega, by go_num, by omega, by simp [hne], by unfold Hid; rw [List.length_set]; exact hml.out, ?_, ?_, hbw3, hown4⟩, by simp [intOf]; omega⟩
        · intro z hz
          rcases List.mem_or_eq_of_mem_set hz with h | h
          · exact hmb z h
          · rw [h, ← hY'.out]
            exact xor8_lt _ _ hyl (Nat.lt_of_lt_of_le (Nat.pow_lt_pow_right (by decide) (Nat.mod_lt (F + I) (show 0 < 8 by decide))) (by decide))
        · unfold Hid
          rw [← hY'.out, ← hy'.out, bvN_turn _ _ hlen (nums_lt hx) hmb _ _ (by omega) hj, hbv.out, show 8 * ((F + I) / 8) + (F + I) % 8 = F + I by omega, turn_step F K I hbit]
      · have hbt : (((K : Int) / 2 ^ I).tmod 2 == 1) = false := bit_false K I hbit
        go_wp2
        have h2 : K % 2 ^ I = K % 2 ^ (I + 1) := turn_stay K I hbit
        exact ⟨⟨I + 1, m, by omega, by go_num, by omega, by rw [h2]; simp, hml, hmb, by rw [← h2]; exact hbv, hbw, hown⟩, by simp [intOf]; omega⟩
    · have hge : (32 : Int) ≤ I ∨ ((I : Int) < 32 ∧ 8 * (xs.length : Int) ≤ F + I) := by omega
      have hlen : (xs.map Int.toNat).length = m.length := by rw [hml.out]; simp
      have hzb : ∀ x ∈ List.zipWith (· ^^^ ·) (xs.map Int.toNat) m, x < 256 := by
        intro x hm
        obtain ⟨i, hi, rfl⟩ := List.mem_iff_getElem.1 hm
        rw [List.getElem_zipWith]
        exact xor8_lt _ _ (nums_lt hx _ (List.getElem_mem _)) (hmb _ (List.getElem_mem _))
      have hbu := burst (xs.map Int.toNat) m hlen hzb F (K % 2 ^ I) (Nat.lt_of_le_of_lt (Nat.mod_le _ _) hK) hbv.out (by simp; omega) 4294967295
      have hmi : Byts (ofN m) := by
        intro z hz
        unfold ofN at hz
        simp only [List.mem_map] at hz
        obtain ⟨n, hn, rfl⟩ := hz
        have := hmb n hn
        omega
      have hmn : (ofN m).map Int.toNat = m := by
        unfold ofN
        rw [List.map_map]
        conv => rhs; rw [← List.map_id m]
        apply List.map_congr_left
        intro y hy
        rfl
      have hol : (ofN m).length = xs.length := by unfold ofN; rw [List.length_map]; exact hml.out
      have hrm : Rw .u8 wr (.slice (some ⟨g, 0, none⟩) xs.length c2) (ofN m) := Rw.of_owns hown
      have hs1 := fun (w : World) v ht hb => sum_tab v (.slice a0 xs.length cap0) xs w ht hb hx hl
      have hs2 := fun (w : World) v ht hb => sum_tab v (.slice (some ⟨g, 0, none⟩) xs.length c2) (ofN m) w ht hb hmi (by omega)
      rw [hmn] at hs2
      have hcr : Hid (crc (xs.map Int.toNat) = crc m ↔ K % 2 ^ I = 0) := by
        unfold Hid crc
        rw [xor_cancel, hbu]
      generalize crc (xs.map Int.toNat) = A at *
      generalize crc m = B at *
      have hrx := hrw.below hbw
      clear hi1 hown hbv hbu hzb
      clear hml hmb hlen hol hmn hmi hown0 hB hcap hF hF2
      by_cases hT : K % 2 ^ I = 0
      · obtain rfl := hcr.out.2 hT
        rcases hge with hge | ⟨hge, hge2⟩
        · go_wp2_with (first | (go_at_call 8; refine (table_any _).mono ?_; rintro e w3 ⟨g3, rfl, hg3, hrow3, hb3⟩))
          refine (hs1 w3 _ (tab_rw hrow3) (hrx.below hb3)).mono ?_
          rintro e w4 ⟨rfl, hb4⟩
          have hB3 := bthen hb3 hb4 hb3.size
          clear hrow3 hb3 hb4 hs1
          go_wp2_with (first | (go_at_call 8; refine (table_any _).mono ?_; rintro e w6 ⟨g6, rfl, hg6, hrow6, hb6⟩))
          have hB6 := bthen hB3 hb6 hB3.size
          refine (hs2 w6 _ (tab_rw hrow6) (hrm.below hB6)).mono ?_
          rintro e w7 ⟨rfl, hb7⟩
          have hB7 := bthen hB6 hb7 hB6.size
          clear hrow6 hb6 hb7 hs2 hB6 hB3
          go_wp2_with (first | (go_at_call 10; refine (knows_any _).mono ?_; rintro e w5 ⟨rfl, hb5⟩))
          go_ret
          have hB8 := bthen hbw hB7 hbw.size
          exact ⟨rfl, bthen hB8 hb5 hB8.size⟩
        · go_wp2_with (first | (go_at_call 8; refine (table_any _).mono ?_; rintro e w3 ⟨g3, rfl, hg3, hrow3, hb3⟩))
          refine (hs1 w3 _ (tab_rw hrow3) (hrx.below hb3)).mono ?_
          rintro e w4 ⟨rfl, hb4⟩
          have hB3 := bthen hb3 hb4 hb3.size
          clear hrow3 hb3 hb4 hs1
          go_wp2_with (first | (go_at_call 8; refine (table_any _).mono ?_; rintro e w6 ⟨g6, rfl, hg6, hrow6, hb6⟩))
          have hB6 := bthen hB3 hb6 hB3.size
          refine (hs2 w6 _ (tab_rw hrow6) (hrm.below hB6)).mono ?_
          rintro e w7 ⟨rfl, hb7⟩
          have hB7 := bthen hB6 hb7 hB6.size
          clear hrow6 hb6 hb7 hs2 hB6 hB3
          go_wp2_with (first | (go_at_call 10; refine (knows_any _).mono ?_; rintro e w5 ⟨rfl, hb5⟩))
          go_ret
          have hB8 := bthen hbw hB7 hbw.size
          exact ⟨rfl, bthen hB8 hb5 hB8.size⟩
      · have hAB : ¬ A = B := fun h => hT (hcr.out.1 h)
        have hAB2 : ¬ (A : Int) = B := by omega
        have hAB3 : ((A : Int) != B) = true := by simpa using hAB2
        rcases hge with hge | ⟨hge, hge2⟩
        · go_wp2_with (first | (go_at_call 8; refine (table_any _).mono ?_; rintro e w3 ⟨g3, rfl, hg3, hrow3, hb3⟩))
          refine (hs1 w3 _ (tab_rw hrow3) (hrx.below hb3)).mono ?_
          rintro e w4 ⟨rfl, hb4⟩
          have hB3 := bthen hb3 hb4 hb3.size
          clear hrow3 hb3 hb4 hs1
          go_wp2_with (first | (go_at_call 8; refine (table_any _).mono ?_; rintro e w6 ⟨g6, rfl, hg6, hrow6, hb6⟩))
          have hB6 := bthen hB3 hb6 hB3.size
          refine (hs2 w6 _ (tab_rw hrow6) (hrm.below hB6)).mono ?_
          rintro e w7 ⟨rfl, hb7⟩
          have hB7 := bthen hB6 hb7 hB6.size
          clear hrow6 hb6 hb7 hs2 hB6 hB3
          go_wp2_with (first | (go_at_call 10; refine (knows_any _).mono ?_; rintro e w5 ⟨rfl, hb5⟩))
          go_ret
          have hB8 := bthen hbw hB7 hbw.size
          exact ⟨rfl, bthen hB8 hb5 hB8.size⟩
        · go_wp2_with (first | (go_at_call 8; refine (table_any _).mono ?_; rintro e w3 ⟨g3, rfl, hg3, hrow3, hb3⟩))
          refine (hs1 w3 _ (tab_rw hrow3) (hrx.below hb3)).mono ?_
          rintro e w4 ⟨rfl, hb4⟩
          have hB3 := bthen hb3 hb4 hb3.size
          clear hrow3 hb3 hb4 hs1
          go_wp2_with (first | (go_at_call 8; refine (table_any _).mono ?_; rintro e w6 ⟨g6, rfl, hg6, hrow6, hb6⟩))
          have hB6 := bthen hB3 hb6 hB3.size
          refine (hs2 w6 _ (tab_rw hrow6) (hrm.below hB6)).mono ?_
          rintro e w7 ⟨rfl, hb7⟩
          have hB7 := bthen hB6 hb7 hB6.size
          clear hrow6 hb6 hb7 hs2 hB6 hB3
          go_wp2_with (first | (go_at_call 10; refine (knows_any _).mono ?_; rintro e w5 ⟨rfl, hb5⟩))
          go_ret
          have hB8 := bthen hbw hB7 hbw.size
          exact ⟨rfl, bthen hB8 hb5 hB8.size⟩


set_option maxRecDepth 100000 in
theorem lifted (os : Os) (started : os.Started) (H : Type) (enc : TypeId × Value → H) :
    ReturnsInHanded {} Try.checked os 7 .any (Rows.sumBurstsSpec.pre6 enc Try.prog Try.f7 Rows.sumBurstsRow.domain false) (Rows.sumBurstsSpec.post enc Try.prog Try.f7 false true false false) := by
  refine returnsInHanded_of_change (C := Try.checked) own started (by kernel_rfl) Try.func7
    (ChangeSpec.witness6 (enc := enc) (C := Try.checked) false ⟨#[], #[.slice none 0 0, .int .i64 0, .int .u32 0], []⟩ 8 (by kernel_rfl) (by kernel_rfl) (by kernel_rfl) (by kernel_rfl)) ?_
  intro W base args ds gs before hval0 hW hcnd _
  have hval : ∀ (j : Nat) t v, Try.f7.params[j]? = some t → args[j]? = some v → Value.okWide Try.prog W .any base t v := hval0
  have hW' := hW
  obtain ⟨p, q, hA0, hV, rfl, hfz, hnd⟩ := hW
  have hA : DataW.TrodAll enc Try.prog W 0 (fun _ => true) true Try.f7.params.toList args.toList ds p := hA0
  rw [Try.params7] at hA hval
  obtain ⟨v0, vs0, d0, ds0, p0, q0, hargs, rfl, rfl, h0, r0⟩ := trodAll_cons hA
  obtain ⟨v1, vs1, d1, ds1, p1, q1, rfl, rfl, rfl, h1, r1⟩ := trodAll_cons r0
  obtain ⟨v2, vs2, d2, ds2, p2, q2, rfl, rfl, rfl, h2, r2⟩ := trodAll_cons r1
  obtain ⟨rfl, rfl, rfl⟩ := trodAll_nil r2
  obtain rfl : args = #[v0, v1, v2] := by cases args; simp_all
  obtain ⟨rfl, rfl⟩ := trodVars_none hV
  have k0 := h0
  have lt0 : ∀ x ∈ p0, x.block < W.heap.size := by obtain ⟨m, hm⟩ := k0; exact DataW.trod_lt m _ _ _ hm
  obtain ⟨a0, len0, cap0, rfl⟩ := okWide_slice Try.underlying28 (hval 0 28 v0 rfl rfl)
  obtain ⟨z0, w0⟩ : ∃ zs, IsRow .u8 W a0 len0 cap0 zs := by
    obtain ⟨fuel, hf⟩ := h0
    obtain ⟨a', l', c', zs, he, hr⟩ := ints_of_trod Try.underlying28 Try.underlying5 (by kernel_rfl) (show DataW.trod enc Try.prog W 0 (fun _ => true) true fuel 28 [.slice a0 len0 cap0] = _ from hf)
    simp only [Value.slice.injEq] at he
    obtain ⟨rfl, rfl, rfl⟩ := he
    exact ⟨zs, hr⟩
  obtain ⟨a1, rfl, rfl, rfl, w1⟩ := open_int Try.underlying3 (hval 1 3 v1 rfl rfl) h1
  obtain ⟨a2, rfl, rfl, rfl, w2⟩ := open_int Try.underlying24 (hval 2 24 v2 rfl rfl) h2
  clear hA0 hval0
  refine (walk a0 len0 cap0 z0 a1 a2 W w0 w1 w2).mono fun e W' ⟨he, bel⟩ => ?_
  subst he
  exact ⟨_, rfl, _, _, _, [], _, [], hW', trodAll_mk1 (shut_bool Try.underlying4 _), (trodAll_cons_mk (Below.trod laidOut (by kernel_rfl) (of_decide_eq_true (by kernel_rfl)) k0 bel lt0) (trodAll_cons_mk (shut_int Try.underlying3 w1) (trodAll_cons_mk (shut_int Try.underlying24 w2) trodAll_mk0))), rfl, bel.frame _, fun h => by cases h⟩

theorem over : Rows.sumBurstsRow.holds Try.pinned (OpenSpec.ofChange Rows.sumBurstsSpec) :=
  OpenClaim.holds_of_wide 7 Try.f7 rfl rfl rfl rfl rfl rfl rfl ⟨rfl, rfl, rfl, rfl, rfl⟩ rfl rfl rfl rfl rfl (by kernel_rfl) Try.func7 (by kernel_rfl)
    (of_decide_eq_true (by kernel_rfl)) (by unfold Func.isWrapper; first | (rw [if_pos (by decide +kernel)]; kernel_rfl) | (rw [if_neg (by decide +kernel)]; exact ⟨rfl, rfl⟩))
    (fun os started H enc _ => lifted os started H enc)

theorem proved : Rows.SumBurstsSaid := over
#print axioms proved
end Go.Proofs.Ytdadkmklfphleaa.sumBursts
