/- The Go function of the statement BitsStays returns true at every input, and leaves each argument as it read. No condition. -/
import Derived.Test.YtjlfnihogfgjnaaWo
import Derived.Deep.DeepCutAuto
import Derived.ProofKit
import Derived.OpenShut
import Derived.ShutString
import Derived.ChangeOld
import Derived.Lib.SmallJoins
namespace Go.Proofs.Ytjlfnihogfgjnaa.bitsStays
open Go.ChangeShapes Go.WideShapes Go.ChangeAt Go.RowKit Go.Joins
set_option linter.unusedVariables false
set_option linter.unusedSimpArgs false

theorem own : ownKnob Try.prog.godebug = none := by kernel_rfl
theorem laidOut : laidOutB Try.prog = true := by kernel_rfl


theorem drewN_below' {a b : World} (h : Below a.heap.size a b) (n : Nat) : Below a.heap.size a (b.drewN n) := ⟨h.os, h.tape, h.output, h.size, h.block⟩
set_option maxHeartbeats 2000000 in
theorem walk_out (a1 : Option Addr) (cap1 : Nat) (xs : List Int) (a2 a3 a4 : Int) (w : World) (hrw : Rw .u8 w (.slice a1 xs.length cap1) xs) (hx : Byts xs) (h : 5000 < xs.length ∨ rightB xs a2 = false) :
    Calls Try.prog 8 #[.agg #[.slice a1 xs.length cap1, .int .i64 a2], .int .u64 a3, .int .i64 a4] w fun e w' => e = .returned (.bool true) ∧ Below w.heap.size w w' := by
  have hW := below1 w (.cells #[.slice a1 xs.length cap1, .int .i64 a2] 27)
  by_cases hg : 5000 < xs.length
  · have hd : decide (5000 < xs.length) = true := decide_eq_true hg
    go_enter Try.func8, Try.ntmps8
    go_wp2_with (first | (go_at_call 9; refine (great_any _ _ _ _).mono ?_; rintro e w' ⟨rfl, rfl⟩; rw [hd]) | (go_at_call 10; refine (knows_any _).mono ?_; rintro e w' ⟨rfl, hb⟩))
    go_ret
    exact ⟨rfl, bthen hW hb hW.size⟩
  have hd : decide (5000 < xs.length) = false := decide_eq_false hg
  have hr : rightB xs a2 = false := h.resolve_left hg
  go_enter Try.func8, Try.ntmps8
  go_wp2_with (first | (go_at_call 9; refine (great_any _ _ _ _).mono ?_; rintro e w' ⟨rfl, rfl⟩; rw [hd]) | (go_at_call 16; refine (as_any _ _ _ _ _).mono ?_; rintro e wa ⟨rfl, ba⟩) | (go_at_call 12; refine (rright_any _ xs a2 _ (hrw.below (bthen hW ba hW.size)) hx (by omega)).mono ?_; rintro e wr ⟨rfl, br⟩; rw [hr]) | (go_at_call 10; refine (knows_any _).mono ?_; rintro e w' ⟨rfl, hb⟩))
  go_ret
  have h1 := bthen hW ba hW.size
  have h2 := bthen h1 br h1.size
  exact ⟨rfl, bthen h2 hb h2.size⟩

set_option maxRecDepth 100000 in
set_option maxHeartbeats 4000000 in
theorem walk_err (a1 : Option Addr) (cap1 : Nat) (xs : List Int) (a2 : Int) (V : Nat) (a4 : Int) (w : World) (hrw : Rw .u8 w (.slice a1 xs.length cap1) xs) (hx : Byts xs) (hV : V < 2 ^ 64) (hg : xs.length ≤ 5000) (hr : rightB xs a2 = true) (h0 : (putE xs a2 V a4 != 0) = true) (hpX : Hid (putX xs a2 V a4 = xs)) (hpN : Hid (putN xs a2 V a4 = a2)) :
    Calls Try.prog 8 #[.agg #[.slice a1 xs.length cap1, .int .i64 a2], .int .u64 V, .int .i64 a4] w fun e w' => e = .returned (.bool true) ∧ Below w.heap.size w w' := by
  have hW := below1 w (.cells #[.slice a1 xs.length cap1, .int .i64 a2] 27)
  have hd : decide (5000 < xs.length) = false := decide_eq_false (by omega)
  go_enter Try.func8, Try.ntmps8
  go_wp2_with (first | (go_at_call 9; refine (great_any _ _ _ _).mono ?_; rintro e w' ⟨rfl, rfl⟩; rw [hd]) | (go_at_call 16; refine (as_any _ _ _ _ _).mono ?_; rintro e wa ⟨rfl, ba⟩; obtain ⟨q0, q1, f0, f1, hz⟩ := one_box ba) | (go_at_call 12; refine (rright_any _ xs a2 _ (hrw.below (bthen hW ba hW.size)) hx (by omega)).mono ?_; rintro e wr ⟨rfl, br⟩; rw [hr]; obtain ⟨q0, q1, f0, f1, hz⟩ := box_below br hz q0 q1 f0 f1))
  have h1 := bthen hW ba hW.size
  have h2 := bthen h1 br h1.size
  refine (put_any _ xs a2 V a4 _ (hrw.below h2) hx hV).mono ?_
  rintro e w5 ⟨v5, rfl, r5, b5⟩
  rw [hpX.out] at r5
  rw [hpN.out]
  obtain ⟨q0, q1, f0, f1, hz⟩ := box_below b5 hz q0 q1 f0 f1
  obtain ⟨x5, c5, rfl, _⟩ := id r5
  have h5 := bthen h2 b5 h2.size
  have h6 := h5.alloc h5.size (.cells #[.slice x5 xs.length c5, .int .i64 a2] 27)
  have S0 := four_new (x0 := .slice x5 xs.length c5) (x1 := .int .i64 a2) (t := 27) hz q0 q1
  have rw6 := hrw.below h6
  have rx6 := r5.rw.below (below1 w5 (.cells #[.slice x5 xs.length c5, .int .i64 a2] 27))
  have hz5 : w.heap.size < (w5.alloc (.cells #[.slice x5 xs.length c5, .int .i64 a2] 27)).heap.size := by simp; omega
  have hz6 : w5.heap.size < (w5.alloc (.cells #[.slice x5 xs.length c5, .int .i64 a2] 27)).heap.size := by simp
  clear r5 b5 br ba h1 h2 h5 hrw hW
  go_wp2_with fail
  generalize (w5.alloc (.cells #[.slice x5 xs.length c5, .int .i64 a2] 27)) = wc at *
  go_region_held3 (fun w' => w'.cell? ⟨w.heap.size, 0, none⟩ = some (.slice a1 xs.length cap1) ∧ w'.cell? ⟨w.heap.size, 1, none⟩ = some (.int .i64 a2) ∧ w'.cell? ⟨w5.heap.size, 0, none⟩ = some (.slice x5 xs.length c5) ∧ w'.cell? ⟨w5.heap.size, 1, none⟩ = some (.int .i64 a2)) (exact S0.below (by first | assumption | exact (Below.refl _ _).drew) hz5 hz6) (first | (go_at_call 16; refine (as_any _ _ _ _ _).mono ?_; rintro e yA ⟨rfl, eA⟩; have hyA : Below wc.heap.size wc yA := bthen' (by first | assumption | exact (Below.refl _ _).drew) eA) | (go_at_call 17; refine (same_self _ _ _ xs _ (rx6.below (by first | assumption | exact (Below.refl _ _).drew)) (rw6.below (by first | assumption | exact (Below.refl _ _).drew)) hx).mono ?_; rintro e yB ⟨rfl, eB⟩; have hyB : Below wc.heap.size wc yB := bthen' (by first | assumption | exact (Below.refl _ _).drew) eB) | (go_at_call 10; refine (knows_any _).mono ?_; rintro e yC ⟨rfl, eC⟩; have hyC : Below wc.heap.size wc yC := bthen' (by first | assumption | exact (Below.refl _ _).drew) eC))
  all_goals go_wp2
  all_goals go_ret
  all_goals exact ⟨rfl, bthen h6 hyC h6.size⟩

set_option maxRecDepth 100000 in
set_option maxHeartbeats 4000000 in
theorem walk_ok (a1 : Option Addr) (cap1 : Nat) (xs : List Int) (N V n : Nat) (w : World) (hrw : Rw .u8 w (.slice a1 xs.length cap1) xs) (hx : Byts xs) (hV : V < 2 ^ 64) (hg : xs.length ≤ 5000) (hr : rightB xs N = true) (hn : n ≤ 32) (hNn : N + n ≤ 32000) (X : List Int) (hX : Byts X) (hlX : X.length ≤ 5000)
    (h0 : (putE xs N V n != 0) = false) (hpX : Hid (putX xs N V n = X)) (hpN : Hid (putN xs N V n = (N : Int) + n)) (hrX : rightB X ((N : Int) + n) = true) (HB : Hid (∀ i, i < N → bitAt (bv X) i = bitAt (bv xs) i)) (hNx : N ≤ 8 * xs.length) (hNX : N ≤ 8 * X.length) :
    Calls Try.prog 8 #[.agg #[.slice a1 xs.length cap1, .int .i64 N], .int .u64 V, .int .i64 n] w fun e w' => e = .returned (.bool true) ∧ Below w.heap.size w w' := by
  have hW := below1 w (.cells #[.slice a1 xs.length cap1, .int .i64 (N : Int)] 27)
  have hd : decide (5000 < xs.length) = false := decide_eq_false (by omega)
  go_enter Try.func8, Try.ntmps8
  go_wp2_with (first | (go_at_call 9; refine (great_any _ _ _ _).mono ?_; rintro e w' ⟨rfl, rfl⟩; rw [hd]) | (go_at_call 16; refine (as_any _ _ _ _ _).mono ?_; rintro e wa ⟨rfl, ba⟩; obtain ⟨q0, q1, f0, f1, hz⟩ := one_box ba) | (go_at_call 12; refine (rright_any _ xs N _ (hrw.below (bthen hW ba hW.size)) hx (by omega)).mono ?_; rintro e wr ⟨rfl, br⟩; rw [hr]; obtain ⟨q0, q1, f0, f1, hz⟩ := box_below br hz q0 q1 f0 f1))
  have h1 := bthen hW ba hW.size
  have h2 := bthen h1 br h1.size
  refine (put_any _ xs N V n _ (hrw.below h2) hx hV).mono ?_
  rintro e w5 ⟨v5, rfl, r5, b5⟩
  rw [hpX.out] at r5
  rw [hpN.out]
  obtain ⟨q0, q1, f0, f1, hz⟩ := box_below b5 hz q0 q1 f0 f1
  obtain ⟨x5, c5, rfl, _⟩ := id r5
  have h5 := bthen h2 b5 h2.size
  have h6 := h5.alloc h5.size (.cells #[.slice x5 X.length c5, .int .i64 ((N : Int) + n)] 27)
  have S0 := four_new (x0 := .slice x5 X.length c5) (x1 := .int .i64 ((N : Int) + n)) (t := 27) hz q0 q1
  have rw6 := hrw.below h6
  have rx6 := r5.rw.below (below1 w5 (.cells #[.slice x5 X.length c5, .int .i64 ((N : Int) + n)] 27))
  have hz5 : w.heap.size < (w5.alloc (.cells #[.slice x5 X.length c5, .int .i64 ((N : Int) + n)] 27)).heap.size := by simp; omega
  have hz6 : w5.heap.size < (w5.alloc (.cells #[.slice x5 X.length c5, .int .i64 ((N : Int) + n)] 27)).heap.size := by simp
  clear r5 b5 br ba h1 h2 h5 hrw hW
  go_wp2_with fail
  generalize (w5.alloc (.cells #[.slice x5 X.length c5, .int .i64 ((N : Int) + n)] 27)) = wc at *
  go_wp2_with (first | (go_at_call 11; refine (right_any _ X ((N : Int) + n) _ rx6 hX).mono ?_; rw [hrX]; rintro e y1 ⟨rfl, e1⟩; have S1 := S0.below e1 hz5 hz6; obtain ⟨s10, s11, s12, s13⟩ := id S1) | (go_at_call 16; refine (as_any _ _ _ _ _).mono ?_; rintro e y2 ⟨rfl, e2⟩; have hy2 := bthen' e1 e2) | (go_at_call 12; refine (rright_any _ X ((N : Int) + n) _ (rx6.below hy2) hX (by omega)).mono ?_; rw [hrX]; rintro e y3 ⟨rfl, e3⟩; have hy3 := bthen' hy2 e3; have S3 := S0.below hy3 hz5 hz6; obtain ⟨s30, s31, s32, s33⟩ := id S3))
  have hz7 : w.heap.size < y3.heap.size := Nat.lt_of_lt_of_le hz5 hy3.size
  have hz8 : w5.heap.size < y3.heap.size := Nat.lt_of_lt_of_le hz6 hy3.size
  have h7 := bthen h6 hy3 h6.size
  have rw7 := rw6.below hy3
  have rx7 := rx6.below hy3
  clear S0 S1 s10 s11 s12 s13 e1 e2 e3 hy2 hy3 s30 s31 s32 s33 rw6 rx6 h6
  go_region_held3 (fun w' => w'.cell? ⟨w.heap.size, 0, none⟩ = some (.slice a1 xs.length cap1) ∧ w'.cell? ⟨w.heap.size, 1, none⟩ = some (.int .i64 N) ∧ w'.cell? ⟨w5.heap.size, 0, none⟩ = some (.slice x5 X.length c5) ∧ w'.cell? ⟨w5.heap.size, 1, none⟩ = some (.int .i64 ((N : Int) + n))) (exact S3.below (by first | assumption | exact (Below.refl _ _).drew) hz7 hz8) (first | (go_at_call_of 21 (Value.slice x5 X.length c5); refine (bits_any _ X _ (rx7.below (by first | assumption | exact (Below.refl _ _).drew)) hX (by omega)).mono ?_; rintro e yA ⟨vA, rfl, oA, eA⟩; have hyA : Below y3.heap.size y3 yA := bthen' (by first | assumption | exact (Below.refl _ _).drew) eA; obtain ⟨aA, cA, rfl, hAc⟩ := owns_bits oA) | (go_at_call_of 21 (Value.slice a1 xs.length cap1); refine (bits_any _ xs _ (rw7.below (by first | assumption | exact (Below.refl _ _).drew)) hx (by omega)).mono ?_; rintro e yB ⟨vB, rfl, oB, eB⟩; have hyB : Below y3.heap.size y3 yB := bthen' (by first | assumption | exact (Below.refl _ _).drew) eB; obtain ⟨aB, cB, rfl, hBc⟩ := owns_bits oB))
  all_goals go_wp2
  have h8 := bthen h7 hyB h7.size
  have t1 := (S3.below hyB hz7 hz8).2.1
  have hz9 : w.heap.size < yB.heap.size := Nat.lt_of_lt_of_le hz7 hyB.size
  clear S3 rw7 rx7 oA oB hyA hyB h7 eA
  go_loopw [11] (fun i wr => ∃ k : Nat, k ≤ N ∧ i = .int .i64 k ∧ Below yB.heap.size yB wr) (fun i _ => N - (intOf i).toNat)
  case atStart => exact ⟨0, by omega, rfl, Below.refl _ _⟩
  case round =>
    obtain ⟨k, hk, rfl, hnx⟩ := hrel
    have u1 := ((bcell hnx).1 w.heap.size 1 hz9).trans t1
    by_cases hlt : k < N
    · obtain ⟨bA, oA, rfl, hbA, hcA⟩ := hAc.resolve_left (by omega)
      obtain ⟨bB, oB, rfl, hbB, hcB⟩ := hBc.resolve_left (by omega)
      have gA := ((bcell hnx).1 bA (oA + k) (Nat.lt_of_lt_of_le hbA eB.size)).trans (((bcell eB).1 bA (oA + k) hbA).trans (hcA k (by omega)))
      have gB := ((bcell hnx).1 bB (oB + k) hbB).trans (hcB k (by omega))
      rw [HB.out k hlt] at gA
      generalize bitAt (bv xs) k = x at gA gB
      have i1 : (k : Int) < 8 * (X.length : Int) := by omega
      have i2 : (k : Int) < 8 * (xs.length : Int) := by omega
      clear hcA hcB hAc hBc t1
      go_wp2
      go_quiet ((fail))
      go_wp2
      go_roundw
      case rel => exact ⟨k + 1, by omega, by go_num, drewN_below' hnx _⟩
      case measure => simp [intOf]; omega
    · have hge : N ≤ k := by omega
      clear hlt
      go_wp2_with (go_at_call 10; refine (knows_any _).mono ?_; rintro e w9 ⟨rfl, hb⟩)
      go_ret
      have h9 := bthen h8 hnx h8.size
      exact ⟨rfl, bthen h9 hb h9.size⟩

theorem walk (a1 : Option Addr) (len1 cap1 : Nat) (z1 : List Int) (a2 : Int) (a3 : Int) (a4 : Int) (w : World) (w1 : IsRow .u8 w a1 len1 cap1 z1) (w2 : (Lit.int .i64 a2).wf = true) (w3 : (Lit.int .u64 a3).wf = true) (w4 : (Lit.int .i64 a4).wf = true) :
    Calls Try.prog 8 #[.agg #[.slice a1 len1 cap1, .int .i64 a2], .int .u64 a3, .int .i64 a4] w fun e w' => e = .returned (.bool true) ∧ Below w.heap.size w w' := by
  obtain ⟨xs, rfl, hrw, hx⟩ := row_rw w1
  obtain ⟨V, rfl, hV⟩ := u64_nat w3
  by_cases h : 5000 < xs.length ∨ rightB xs a2 = false
  · exact walk_out a1 cap1 xs a2 V a4 w hrw hx h
  · have hr : rightB xs a2 = true := by
      cases hh : rightB xs a2
      · exact absurd (.inr hh) h
      · rfl
    have gX : goodX xs a2 = xs := by unfold goodX; rw [if_pos hr]
    have gN : goodN xs a2 = a2 := by unfold goodN; rw [if_pos hr]
    by_cases h0 : putE xs a2 V a4 = 0
    · obtain ⟨n, rfl, hn, hVn, hfit⟩ := putE_ok h0
      have hr' := hr
      unfold rightB at hr'
      rw [decide_eq_true_eq] at hr'
      obtain ⟨N, rfl⟩ := Int.eq_ofNat_of_zero_le hr'.1
      rw [Int.toNat_natCast] at hr'
      have hpN : putN xs N V n = (N : Int) + n := by rw [putN_ok h0, gN]
      have hpX : putX xs N V n = byL (bv xs + V * 2 ^ N) ((N + n + 7) / 8) := by rw [putX_ok h0, gX, gN]; rfl
      rw [gN] at hfit
      refine walk_ok a1 cap1 xs N V n w hrw hx hV (by omega) hr hn (by omega) (putX xs N V n) (putX_byts hx _ _ _) (by rw [hpX, byL_length]; omega) (by simpa using h0) rfl hpN (by have := put_is_right xs N V n; rwa [hpN] at this) ?_ (by omega) (by rw [hpX, byL_length]; omega)
      intro i hi
      rw [hpX, byL_bv, Nat.mod_eq_of_lt]
      · exact bl_put_old _ _ _ _ hi
      · refine Nat.lt_of_lt_of_le (put_lt _ _ _ _ hr'.2.2.2 hVn) ?_
        rw [pow256]
        exact Nat.pow_le_pow_right (by decide) (by omega)
    · exact walk_err a1 cap1 xs a2 V a4 w hrw hx hV (by omega) hr (by simpa using h0) (by unfold Hid putX; rw [if_neg h0, gX]) (by unfold Hid putN; rw [if_neg h0, gN])

set_option maxRecDepth 100000 in
theorem lifted (os : Os) (started : os.Started) (H : Type) (enc : TypeId × Value → H) :
    ReturnsInHanded {} Try.checked os 8 .any (Rows.bitsStaysSpec.pre6 enc Try.prog Try.f8 Rows.bitsStaysRow.domain false) (Rows.bitsStaysSpec.post enc Try.prog Try.f8 false true false false) := by
  refine returnsInHanded_of_change (C := Try.checked) own started (by kernel_rfl) Try.func8
    (ChangeSpec.witness6 (enc := enc) (C := Try.checked) false ⟨#[], #[.agg #[.slice none 0 0, .int .i64 0], .int .u64 0, .int .i64 0], []⟩ 8 (by kernel_rfl) (by kernel_rfl) (by kernel_rfl) (by kernel_rfl)) ?_
  intro W base args ds gs before hval0 hW hcnd _
  have hval : ∀ (j : Nat) t v, Try.f8.params[j]? = some t → args[j]? = some v → Value.okWide Try.prog W .any base t v := hval0
  have hW' := hW
  obtain ⟨p, q, hA0, hV, rfl, hfz, hnd⟩ := hW
  have hA : DataW.TrodAll enc Try.prog W 0 (fun _ => true) true Try.f8.params.toList args.toList ds p := hA0
  rw [Try.params8] at hA hval
  obtain ⟨v0, vs0, d0, ds0, p0, q0, hargs, rfl, rfl, h0, r0⟩ := trodAll_cons hA
  obtain ⟨v1, vs1, d1, ds1, p1, q1, rfl, rfl, rfl, h1, r1⟩ := trodAll_cons r0
  obtain ⟨v2, vs2, d2, ds2, p2, q2, rfl, rfl, rfl, h2, r2⟩ := trodAll_cons r1
  obtain ⟨rfl, rfl, rfl⟩ := trodAll_nil r2
  obtain rfl : args = #[v0, v1, v2] := by cases args; simp_all
  obtain ⟨rfl, rfl⟩ := trodVars_none hV
  have k0 := h0
  have lt0 : ∀ x ∈ p0, x.block < W.heap.size := by obtain ⟨m, hm⟩ := k0; exact DataW.trod_lt m _ _ _ hm
  obtain ⟨c00, c01, y00, y01, m0, rfl, hd0, hp0, hy00, hy01⟩ := open_agg2 Try.underlying27 (by kernel_rfl) (by kernel_rfl) (hval 0 27 v0 rfl rfl) h0
  clear hd0 hp0
  obtain ⟨a1, len1, cap1, z1, e1, w1⟩ := ints_of_trod Try.underlying22 Try.underlying5 (by kernel_rfl) hy00
  subst e1
  obtain ⟨a2, e2, _, w2⟩ := DataW.trod_int Try.underlying3 hy01
  simp only [List.cons.injEq, and_true] at e2
  subst e2
  obtain ⟨a3, rfl, rfl, rfl, w3⟩ := open_int Try.underlying34 (hval 1 34 v1 rfl rfl) h1
  obtain ⟨a4, rfl, rfl, rfl, w4⟩ := open_int Try.underlying3 (hval 2 3 v2 rfl rfl) h2
  clear hA0 hval0
  refine (walk a1 len1 cap1 z1 a2 a3 a4 W w1 w2 w3 w4).mono fun e W' ⟨he, bel⟩ => ?_
  subst he
  exact ⟨_, rfl, _, _, _, [], _, [], hW', trodAll_mk1 (shut_bool Try.underlying4 _), (trodAll_cons_mk (Below.trod laidOut (by kernel_rfl) (of_decide_eq_true (by kernel_rfl)) k0 bel lt0) (trodAll_cons_mk (shut_int Try.underlying34 w3) (trodAll_cons_mk (shut_int Try.underlying3 w4) trodAll_mk0))), rfl, bel.frame _, fun h => by cases h⟩

theorem over : Rows.bitsStaysRow.holds Try.pinned (OpenSpec.ofChange Rows.bitsStaysSpec) :=
  OpenClaim.holds_of_wide 8 Try.f8 rfl rfl rfl rfl rfl rfl rfl ⟨rfl, rfl, rfl, rfl, rfl⟩ rfl rfl rfl rfl rfl (by kernel_rfl) Try.func8 (by kernel_rfl)
    (of_decide_eq_true (by kernel_rfl)) (by unfold Func.isWrapper; first | (rw [if_pos (by decide +kernel)]; kernel_rfl) | (rw [if_neg (by decide +kernel)]; exact ⟨rfl, rfl⟩))
    (fun os started H enc _ => lifted os started H enc)

theorem proved : Rows.BitsStaysSaid := over
#print axioms proved
end Go.Proofs.Ytjlfnihogfgjnaa.bitsStays
