/- The Go function of the statement BitsParts returns true at every input, and leaves each argument as it read. No condition. -/
import Derived.Test.YtjlfnihogfgjnaaWo
import Derived.Deep.DeepCutAuto
import Derived.ProofKit
import Derived.OpenShut
import Derived.ShutString
import Derived.ChangeOld
import Derived.Lib.SmallJoins
namespace Go.Proofs.Ytjlfnihogfgjnaa.bitsParts
open Go.ChangeShapes Go.WideShapes Go.ChangeAt Go.RowKit Go.Joins
set_option linter.unusedVariables false
set_option linter.unusedSimpArgs false

theorem own : ownKnob Try.prog.godebug = none := by kernel_rfl
theorem laidOut : laidOutB Try.prog = true := by kernel_rfl


theorem P2_le (V n : Nat) : (P2 n ≤ (V : Int)) ↔ 2 ^ n ≤ V := by unfold P2; omega
theorem putE_arg (xs : List Int) (M : Int) (V n : Nat) (h : 2 ^ n ≤ V) : putE xs M V n = 1 := by
  unfold putE; rw [if_neg (by rintro ⟨_, _, h'⟩; simp at h'; omega)]
theorem putE_full (xs : List Int) (M : Int) (V n : Nat) (hn : n ≤ 32) (h : V < 2 ^ n) (h0 : ¬ putE xs M V n = 0) : putE xs M V n = 3 := by
  unfold putE at *
  rw [if_pos ⟨by omega, by omega, by simpa using h⟩] at *
  split at h0
  · exact absurd rfl h0
  · rename_i h'; rw [if_neg h']

set_option maxHeartbeats 2000000 in
theorem walk_out (a1 : Option Addr) (cap1 : Nat) (xs : List Int) (a2 a3 a4 a5 : Int) (w : World) (h : 5000 < xs.length ∨ a5 < 0 ∨ a4 < a5 ∨ 32 < a4) :
    Calls Try.prog 7 #[.agg #[.slice a1 xs.length cap1, .int .i64 a2], .int .u64 a3, .int .i64 a4, .int .i64 a5] w fun e w' => e = .returned (.bool true) ∧ Below w.heap.size w w' := by
  have hW := below1 w (.cells #[.slice a1 xs.length cap1, .int .i64 a2] 27)
  by_cases hg : 5000 < xs.length
  · have hd : decide (5000 < xs.length) = true := decide_eq_true hg
    go_enter Try.func7, Try.ntmps7
    go_wp2_with (first | (go_at_call 9; refine (great_any _ _ _ _).mono ?_; rintro e w' ⟨rfl, rfl⟩; rw [hd]) | (go_at_call 10; refine (knows_any _).mono ?_; rintro e w' ⟨rfl, hb⟩))
    go_ret
    exact ⟨rfl, bthen hW hb hW.size⟩
  have hd : decide (5000 < xs.length) = false := decide_eq_false hg
  by_cases h1 : a5 < 0
  · go_enter Try.func7, Try.ntmps7
    go_wp2_with (first | (go_at_call 9; refine (great_any _ _ _ _).mono ?_; rintro e w' ⟨rfl, rfl⟩; rw [hd]) | (go_at_call 10; refine (knows_any _).mono ?_; rintro e w' ⟨rfl, hb⟩))
    go_ret
    exact ⟨rfl, bthen hW hb hW.size⟩
  by_cases h2 : a4 < a5
  · go_enter Try.func7, Try.ntmps7
    go_wp2_with (first | (go_at_call 9; refine (great_any _ _ _ _).mono ?_; rintro e w' ⟨rfl, rfl⟩; rw [hd]) | (go_at_call 10; refine (knows_any _).mono ?_; rintro e w' ⟨rfl, hb⟩))
    go_ret
    exact ⟨rfl, bthen hW hb hW.size⟩
  have h3 : 32 < a4 := by omega
  go_enter Try.func7, Try.ntmps7
  go_wp2_with (first | (go_at_call 9; refine (great_any _ _ _ _).mono ?_; rintro e w' ⟨rfl, rfl⟩; rw [hd]) | (go_at_call 10; refine (knows_any _).mono ?_; rintro e w' ⟨rfl, hb⟩))
  go_ret
  exact ⟨rfl, bthen hW hb hW.size⟩

set_option maxHeartbeats 2000000 in
theorem walk_err (a1 : Option Addr) (cap1 : Nat) (xs : List Int) (a2 : Int) (V n m : Nat) (w : World) (hrw : Rw .u8 w (.slice a1 xs.length cap1) xs) (hx : Byts xs) (hV : V < 2 ^ 64) (hg : xs.length ≤ 5000) (hm : m ≤ n) (hn : n ≤ 32)
    (h0 : (putE xs a2 V n != 0) = true) (h1 : (putE xs a2 V n == 1) = decide (P2 n ≤ (V : Int))) :
    Calls Try.prog 7 #[.agg #[.slice a1 xs.length cap1, .int .i64 a2], .int .u64 V, .int .i64 n, .int .i64 m] w fun e w' => e = .returned (.bool true) ∧ Below w.heap.size w w' := by
  have hW := below1 w (.cells #[.slice a1 xs.length cap1, .int .i64 a2] 27)
  have hd : decide (5000 < xs.length) = false := decide_eq_false (by omega)
  go_enter Try.func7, Try.ntmps7
  go_wp2_with (first | (go_at_call 9; refine (great_any _ _ _ _).mono ?_; rintro e w' ⟨rfl, rfl⟩; rw [hd]) | (go_at_call 14; refine (put_any _ xs a2 V n _ (hrw.below hW) hx hV).mono ?_; rintro e w5 ⟨v5, rfl, r5, b5⟩; obtain ⟨x5, c5, rfl, _⟩ := id r5) | (go_at_call 20; refine (power_any n _ hn).mono ?_; rintro e w'' ⟨rfl, rfl⟩) | (go_at_call 10; refine (knows_any _).mono ?_; rintro e w9 ⟨rfl, hb⟩))
  go_ret
  have hW5 := bthen hW b5 hW.size
  exact ⟨rfl, bthen (hW5.alloc hW5.size _) hb (hW5.alloc hW5.size _).size⟩

set_option maxRecDepth 100000 in
set_option maxHeartbeats 4000000 in
theorem walk_ok (a1 : Option Addr) (cap1 : Nat) (xs : List Int) (a2 : Int) (V n m : Nat) (w : World) (hrw : Rw .u8 w (.slice a1 xs.length cap1) xs) (hx : Byts xs) (hV : V < 2 ^ 64) (hg : xs.length ≤ 5000) (hm : m ≤ n) (hn : n ≤ 32)
    (h0 : (putE xs a2 V n != 0) = false) :
    Calls Try.prog 7 #[.agg #[.slice a1 xs.length cap1, .int .i64 a2], .int .u64 V, .int .i64 n, .int .i64 m] w fun e w' => e = .returned (.bool true) ∧ Below w.heap.size w w' := by
  have hW := below1 w (.cells #[.slice a1 xs.length cap1, .int .i64 a2] 27)
  have hd : decide (5000 < xs.length) = false := decide_eq_false (by omega)
  have hP1 : 0 < P2 m := by unfold P2; have := Nat.two_pow_pos m; omega
  have hP2 : (P2 m == 0) = false := by simp; omega
  have HP : Hid _ := put_parts hx hm (by simpa using h0 : putE xs a2 V n = 0)
  go_enter Try.func7, Try.ntmps7
  go_wp2_with (first | (go_at_call 9; refine (great_any _ _ _ _).mono ?_; rintro e w' ⟨rfl, rfl⟩; rw [hd]))
  refine (put_any _ xs a2 V n _ (hrw.below hW) hx hV).mono ?_
  rintro e w5 ⟨v5, rfl, r5, b5⟩
  obtain ⟨q0, q1, f0, f1, hz⟩ := one_box b5
  obtain ⟨x5, c5, rfl, _⟩ := id r5
  have hW5 := bthen hW b5 hW.size
  have hW6 := hW5.alloc hW5.size (.cells #[.slice x5 (putX xs a2 V n).length c5, .int .i64 (putN xs a2 V n)] 27)
  have r6 := r5.below (below1 w5 (.cells #[.slice x5 (putX xs a2 V n).length c5, .int .i64 (putN xs a2 V n)] 27))
  go_wp2_with (first | (go_at_call 20; refine (power_any m _ (by omega)).mono ?_; rintro e w'' ⟨rfl, rfl⟩))
  have eL : (V : Int) % P2 m = ((V % 2 ^ m : Nat) : Int) := by unfold P2; omega
  have HL : Hid _ := eL
  clear eL
  rw [HL.out]
  refine (put_any _ xs a2 (V % 2 ^ m) m _ (hrw.below hW6) hx (Nat.lt_of_le_of_lt (Nat.mod_le _ _) hV)).mono ?_
  rintro e w7 ⟨v7, rfl, r7, b7⟩
  obtain ⟨p0, p1, g0, g1, hz7⟩ := one_box b7
  have r7x := r6.below b7
  have hW7 := bthen hW6 b7 hW6.size
  obtain ⟨x7, c7, rfl, _⟩ := id r7
  have hY := putX_byts hx a2 (V % 2 ^ m) m
  have hX := putX_byts hx a2 V n
  have SEC : Hid (∀ W v, Rw .u8 W v (putX xs a2 (V % 2 ^ m) m) → Calls Try.prog 14 #[.agg #[v, .int .i64 (putN xs a2 (V % 2 ^ m) m)], .int .u64 ((V : Int) / P2 m), .int .i64 ((n : Int) - m)] W fun e w' => ∃ v', e = .returned (.tuple #[.agg #[v', .int .i64 (putN xs a2 V n)], .int .i64 0]) ∧ RwF W.heap.size .u8 w' v' (putX xs a2 V n) ∧ Below W.heap.size W w') := by
    intro W v hv
    have h := put_any v _ (putN xs a2 (V % 2 ^ m) m) (V / 2 ^ m) ((n : Int) - m) W hv hY (Nat.lt_of_le_of_lt (Nat.div_le_self _ _) hV)
    have HPo := HP.out
    rw [HPo.2.1, HPo.2.2.1, HPo.2.2.2] at h
    rw [show (V : Int) / P2 m = ((V / 2 ^ m : Nat) : Int) by unfold P2; simp]
    exact h
  have e1 := HP.out.1
  rw [e1]
  clear HP
  generalize putX xs a2 (V % 2 ^ m) m = Y at *
  generalize putN xs a2 (V % 2 ^ m) m = K at *
  generalize putX xs a2 V n = X at *
  generalize putN xs a2 V n = M at *
  go_wp2_with fail
  have hW8 := hW7.alloc hW7.size (.cells #[.slice x7 Y.length c7, .int .i64 K] 27)
  have hB7 := below1 w7 (.cells #[.slice x7 Y.length c7, .int .i64 K] 27)
  have rx := r7x.rw.below hB7
  have ry := r7.rw.below hB7
  have hz8 : (w7.alloc (.cells #[.slice x7 Y.length c7, .int .i64 K] 27)).heap.size = w7.heap.size + 1 := by simp
  have S0 := four_new (x0 := .slice x7 Y.length c7) (x1 := .int .i64 K) (t := 27) hz7 p0 p1
  clear r7 r7x r6 r5 b7 b5 hW5 hW6 hW7 hB7 p0 p1 g0 g1 q0 q1 f0 f1 e1 HL hrw
  generalize w7.alloc (.cells #[.slice x7 Y.length c7, .int .i64 K] 27) = Wy at *
  have hz5 : w5.heap.size < Wy.heap.size := by omega
  have hz6 : w7.heap.size < Wy.heap.size := by omega
  have HZ8 : Hid _ := hz8
  clear hz8
  have hnm : (0 : Int) ≤ (n : Int) - m := by omega
  have hP3 : ¬ P2 m = 0 := by omega
  have hq0 : (V : Int) / P2 m ≤ V := Int.ediv_le_self _ (by omega)
  have hq9 : 0 ≤ (V : Int) / P2 m := Int.ediv_nonneg (by omega) (by omega)
  have hq1 : IntKind.u64.wrap ((V : Int) / P2 m) = (V : Int) / P2 m := wraps_u64 _ hq9 (by omega)
  have hq2 : IntKind.i64.wrap ((n : Int) - m) = (n : Int) - m := by rw [IntKind.wrap_i64]; omega
  clear hq0 hq9
  go_cut [14, 15] (fun z g wz => ∃ bz x9 c9, z = .pointer (some ⟨bz, 0, none⟩) ∧ g = .int .i64 0 ∧ Rw .u8 wz (.slice x9 X.length c9) X ∧ wz.cell? ⟨bz, 0, none⟩ = some (.slice x9 X.length c9) ∧ wz.cell? ⟨bz, 1, none⟩ = some (.int .i64 M) ∧ bz < wz.heap.size ∧ Below Wy.heap.size Wy wz)
  case first =>
    go_region_held3 (fun w' => w'.cell? ⟨w7.heap.size, 0, none⟩ = some (.slice x7 Y.length c7) ∧ w'.cell? ⟨w7.heap.size, 1, none⟩ = some (.int .i64 K)) (first | exact (S0.below (by first | exact (Below.refl _ _).drew | exact ((Below.refl _ _).alloc (Nat.le_refl _) _).drew | exact hy1 | exact hy1.alloc hy1.size _ | exact (hy1.setCell (Nat.le_refl _) _).setCell (Nat.le_refl _) _ | exact bset2 hy1 _ _ _ _ _ _ (Nat.le_refl _) (Nat.le_refl _)) hz5 hz6).2.2) (first | (go_at_call 20; refine (power_any m _ (by omega)).mono ?_; rintro e w'' ⟨rfl, rfl⟩) | (go_at_call 14; (first | rw [hq1] | skip); (first | rw [hq2] | skip); refine (SEC.out _ _ (ry.below (by first | exact (Below.refl _ _).drew | exact ((Below.refl _ _).alloc (Nat.le_refl _) _).drew | exact hy1 | exact hy1.alloc hy1.size _ | exact (hy1.setCell (Nat.le_refl _) _).setCell (Nat.le_refl _) _ | exact bset2 hy1 _ _ _ _ _ _ (Nat.le_refl _) (Nat.le_refl _)))).mono ?_; rintro e y1 ⟨v9, rfl, r9, e1⟩; obtain ⟨x9, c9, rfl, _⟩ := id r9; have hy1 : Below Wy.heap.size Wy y1 := bthen (by first | exact (Below.refl _ _).drew | exact ((Below.refl _ _).alloc (Nat.le_refl _) _).drew | exact hy1 | exact hy1.alloc hy1.size _ | exact (hy1.setCell (Nat.le_refl _) _).setCell (Nat.le_refl _) _ | exact bset2 hy1 _ _ _ _ _ _ (Nat.le_refl _) (Nat.le_refl _)) e1 (by first | exact Nat.le_refl _ | (simp; done)); obtain ⟨hcA, hfA⟩ := bcell e1))
    all_goals go_wp2
    all_goals go_meet
    all_goals first | exact relA r9 hy1 | exact relB r9 e1
  case rest =>
    obtain ⟨bz, x9, c9, rfl, rfl, r9, z0, z1, hzz, hyz⟩ := hcut
    have S1 := S0.below hyz hz5 hz6
    have T0 : Four wc w5.heap.size bz (.slice x5 X.length c5) (.int .i64 M) (.slice x9 X.length c9) (.int .i64 M) := ⟨S1.1, S1.2.1, z0, z1⟩
    have hz5' : w5.heap.size < wc.heap.size := Nat.lt_of_lt_of_le hz5 hyz.size
    have rx' := rx.below hyz
    have hWc := bthen hW8 hyz hW8.size
    clear S0 S1 z0 z1 rx ry SEC
    go_wp2_with fail
    go_region_held3 (fun w' => w'.cell? ⟨w5.heap.size, 0, none⟩ = some (.slice x5 X.length c5) ∧ w'.cell? ⟨w5.heap.size, 1, none⟩ = some (.int .i64 M) ∧ w'.cell? ⟨bz, 0, none⟩ = some (.slice x9 X.length c9) ∧ w'.cell? ⟨bz, 1, none⟩ = some (.int .i64 M)) (exact T0.below (by first | assumption | exact (Below.refl _ _).drew) hz5' hzz) (first | (go_at_call 16; refine (as_any _ _ _ _ _).mono ?_; rintro e yA ⟨rfl, eA⟩; have hyA : Below wc.heap.size wc yA := bthen' (by first | assumption | exact (Below.refl _ _).drew) eA) | (go_at_call 17; refine (same_self _ _ _ X _ (rx'.below (by first | assumption | exact (Below.refl _ _).drew)) (r9.below (by first | assumption | exact (Below.refl _ _).drew)) hX).mono ?_; rintro e yB ⟨rfl, eB⟩; have hyB : Below wc.heap.size wc yB := bthen' (by first | assumption | exact (Below.refl _ _).drew) eB) | (go_at_call 10; refine (knows_any _).mono ?_; rintro e yC ⟨rfl, eC⟩; have hyC : Below wc.heap.size wc yC := bthen' (by first | assumption | exact (Below.refl _ _).drew) eC))
    all_goals go_wp2
    all_goals go_ret
    all_goals exact ⟨rfl, bthen hWc hyC hWc.size⟩

theorem walk (a1 : Option Addr) (len1 cap1 : Nat) (z1 : List Int) (a2 : Int) (a3 : Int) (a4 : Int) (a5 : Int) (w : World) (w1 : IsRow .u8 w a1 len1 cap1 z1) (w2 : (Lit.int .i64 a2).wf = true) (w3 : (Lit.int .u64 a3).wf = true) (w4 : (Lit.int .i64 a4).wf = true) (w5 : (Lit.int .i64 a5).wf = true) :
    Calls Try.prog 7 #[.agg #[.slice a1 len1 cap1, .int .i64 a2], .int .u64 a3, .int .i64 a4, .int .i64 a5] w fun e w' => e = .returned (.bool true) ∧ Below w.heap.size w w' := by
  obtain ⟨xs, rfl, hrw, hx⟩ := row_rw w1
  obtain ⟨V, rfl, hV⟩ := u64_nat w3
  by_cases h : 5000 < xs.length ∨ a5 < 0 ∨ a4 < a5 ∨ 32 < a4
  · exact walk_out a1 cap1 xs a2 V a4 a5 w h
  · obtain ⟨m, rfl⟩ := Int.eq_ofNat_of_zero_le (show 0 ≤ a5 by omega)
    obtain ⟨n, rfl⟩ := Int.eq_ofNat_of_zero_le (show 0 ≤ a4 by omega)
    by_cases h0 : putE xs a2 V n = 0
    · exact walk_ok a1 cap1 xs a2 V n m w hrw hx hV (by omega) (by omega) (by omega) (by simpa using h0)
    · refine walk_err a1 cap1 xs a2 V n m w hrw hx hV (by omega) (by omega) (by omega) (by simpa using h0) ?_
      by_cases h2 : 2 ^ n ≤ V
      · rw [putE_arg xs a2 V n h2, decide_eq_true ((P2_le V n).2 h2)]; rfl
      · rw [putE_full xs a2 V n (by omega) (by omega) h0, decide_eq_false (by rw [P2_le]; exact h2)]; rfl

set_option maxRecDepth 100000 in
theorem lifted (os : Os) (started : os.Started) (H : Type) (enc : TypeId × Value → H) :
    ReturnsInHanded {} Try.checked os 7 .any (Rows.bitsPartsSpec.pre6 enc Try.prog Try.f7 Rows.bitsPartsRow.domain false) (Rows.bitsPartsSpec.post enc Try.prog Try.f7 false true false false) := by
  refine returnsInHanded_of_change (C := Try.checked) own started (by kernel_rfl) Try.func7
    (ChangeSpec.witness6 (enc := enc) (C := Try.checked) false ⟨#[], #[.agg #[.slice none 0 0, .int .i64 0], .int .u64 0, .int .i64 0, .int .i64 0], []⟩ 8 (by kernel_rfl) (by kernel_rfl) (by kernel_rfl) (by kernel_rfl)) ?_
  intro W base args ds gs before hval0 hW hcnd _
  have hval : ∀ (j : Nat) t v, Try.f7.params[j]? = some t → args[j]? = some v → Value.okWide Try.prog W .any base t v := hval0
  have hW' := hW
  obtain ⟨p, q, hA0, hV, rfl, hfz, hnd⟩ := hW
  have hA : DataW.TrodAll enc Try.prog W 0 (fun _ => true) true Try.f7.params.toList args.toList ds p := hA0
  rw [Try.params7] at hA hval
  obtain ⟨v0, vs0, d0, ds0, p0, q0, hargs, rfl, rfl, h0, r0⟩ := trodAll_cons hA
  obtain ⟨v1, vs1, d1, ds1, p1, q1, rfl, rfl, rfl, h1, r1⟩ := trodAll_cons r0
  obtain ⟨v2, vs2, d2, ds2, p2, q2, rfl, rfl, rfl, h2, r2⟩ := trodAll_cons r1
  obtain ⟨v3, vs3, d3, ds3, p3, q3, rfl, rfl, rfl, h3, r3⟩ := trodAll_cons r2
  obtain ⟨rfl, rfl, rfl⟩ := trodAll_nil r3
  obtain rfl : args = #[v0, v1, v2, v3] := by cases args; simp_all
  obtain ⟨rfl, rfl⟩ := trodVars_none hV
  have k0 := h0
  have lt0 : ∀ x ∈ p0, x.block < W.heap.size := by obtain ⟨m, hm⟩ := k0; exact DataW.trod_lt m _ _ _ hm
  obtain ⟨c00, c01, y00, y01, m0, rfl, hd0, hp0, hy00, hy01⟩ := open_agg2 Try.underlying27 (by kernel_rfl) (by kernel_rfl) (hval 0 27 v0 rfl rfl) h0
  clear hd0 hp0
  obtain ⟨a1, len1, cap1, z1, e1, w1⟩ := ints_of_trod Try.underlying22 Try.underlying5 (by kernel_rfl) hy00
  subst e1
  obtain ⟨a2, e2, _, w2⟩ := DataW.trod_int Try.underlying3 hy01
  simp only [List.cons.injEq, and_true] at e2
  subst e2
  obtain ⟨a3, rfl, rfl, rfl, w3⟩ := open_int Try.underlying34 (hval 1 34 v1 rfl rfl) h1
  obtain ⟨a4, rfl, rfl, rfl, w4⟩ := open_int Try.underlying3 (hval 2 3 v2 rfl rfl) h2
  obtain ⟨a5, rfl, rfl, rfl, w5⟩ := open_int Try.underlying3 (hval 3 3 v3 rfl rfl) h3
  clear hA0 hval0
  refine (walk a1 len1 cap1 z1 a2 a3 a4 a5 W w1 w2 w3 w4 w5).mono fun e W' ⟨he, bel⟩ => ?_
  subst he
  exact ⟨_, rfl, _, _, _, [], _, [], hW', trodAll_mk1 (shut_bool Try.underlying4 _), (trodAll_cons_mk (Below.trod laidOut (by kernel_rfl) (of_decide_eq_true (by kernel_rfl)) k0 bel lt0) (trodAll_cons_mk (shut_int Try.underlying34 w3) (trodAll_cons_mk (shut_int Try.underlying3 w4) (trodAll_cons_mk (shut_int Try.underlying3 w5) trodAll_mk0)))), rfl, bel.frame _, fun h => by cases h⟩

theorem over : Rows.bitsPartsRow.holds Try.pinned (OpenSpec.ofChange Rows.bitsPartsSpec) :=
  OpenClaim.holds_of_wide 7 Try.f7 rfl rfl rfl rfl rfl rfl rfl ⟨rfl, rfl, rfl, rfl, rfl⟩ rfl rfl rfl rfl rfl (by kernel_rfl) Try.func7 (by kernel_rfl)
    (of_decide_eq_true (by kernel_rfl)) (by unfold Func.isWrapper; first | (rw [if_pos (by decide +kernel)]; kernel_rfl) | (rw [if_neg (by decide +kernel)]; exact ⟨rfl, rfl⟩))
    (fun os started H enc _ => lifted os started H enc)

theorem proved : Rows.BitsPartsSaid := over
#print axioms proved
end Go.Proofs.Ytjlfnihogfgjnaa.bitsParts
