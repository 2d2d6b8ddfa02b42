/- The Go function of the statement HuffAll returns true at every input, and leaves each argument as it read. No condition. -/
import Derived.Test.YtnlahpnpajadpaaXk
import Derived.BigQuiet
import Derived.ProofKit
import Derived.OpenShut
import Derived.ShutString
import Derived.ChangeOld
import Derived.Lib.SmallJoins
namespace Go.Proofs.Ytnlahpnpajadpaa.huffAll
open Go.ChangeShapes Go.WideShapes Go.ChangeAt Go.RowKit Go.Joins
set_option linter.unusedVariables false
set_option linter.unusedSimpArgs false

theorem own : ownKnob Try.prog.godebug = none := by kernel_rfl
theorem laidOut : laidOutB Try.prog = true := by kernel_rfl

set_option maxRecDepth 10000 in
set_option maxHeartbeats 4000000 in
theorem walk (a0 : Option Addr) (len0 cap0 : Nat) (z0 : List Int) (a1 : Option Addr) (len1 cap1 : Nat) (z1 : List Int) (w : World) (w0 : IsRow .i64 w a0 len0 cap0 z0) (w1 : IsRow .u8 w a1 len1 cap1 z1) :
    Calls Try.prog 9 #[.slice a0 len0 cap0, .slice a1 len1 cap1] w fun e w' => e = .returned (.bool true) ∧ Below w.heap.size w w' := by
  obtain ⟨l, rfl, hl, _⟩ := row_rw_any w0
  obtain ⟨xs, rfl, hv, hx⟩ := row_rw w1
  clear w0 w1
  by_cases hg : 4100 < xs.length ∨ 200 < l.length
  · have hd : decide (4100 < xs.length ∨ 200 < l.length) = true := decide_eq_true hg
    go_enter Try.func9, Try.ntmps9
    go_wp2_with (first | (go_at_call 16; refine (great_any _ _ _ _ _ _ _).mono ?_; rintro e w' ⟨rfl, rfl⟩; rw [hd]) | (go_at_call 10; refine (knows_any _).mono ?_; rintro e w9 ⟨rfl, hb9⟩))
    go_ret
    exact ⟨rfl, hb9⟩
  have hd : decide (4100 < xs.length ∨ 200 < l.length) = false := decide_eq_false hg
  clear hg
  cases hr : rightL l
  · go_enter Try.func9, Try.ntmps9
    go_wp2_with (first | (go_at_call 16; refine (great_any _ _ _ _ _ _ _).mono ?_; rintro e w' ⟨rfl, rfl⟩; rw [hd]) | (go_at_call 12; refine (rright4_any _ l _ hl).mono ?_; rintro e w' ⟨rfl, rfl⟩; rw [hr]) | (go_at_call 10; refine (knows_any _).mono ?_; rintro e w9 ⟨rfl, hb9⟩))
    go_ret
    exact ⟨rfl, hb9⟩
  by_cases hg : 100 < xs.length
  · have hg2 : (100 : Int) < xs.length := by omega
    go_enter Try.func9, Try.ntmps9
    go_wp2_with (first | (go_at_call 16; refine (great_any _ _ _ _ _ _ _).mono ?_; rintro e w' ⟨rfl, rfl⟩; rw [hd]) | (go_at_call 12; refine (rright4_any _ l _ hl).mono ?_; rintro e w' ⟨rfl, rfl⟩; rw [hr]) | (go_at_call 10; refine (knows_any _).mono ?_; rintro e w9 ⟨rfl, hb9⟩))
    go_ret
    exact ⟨rfl, hb9⟩
  have hg2 : (xs.length : Int) ≤ 100 := by omega
  have hxl : xs.length ≤ 100 := by omega
  clear hg
  have hl0 := hl
  have hl1 := (right_parts hr).1
  have hl2 := (right_parts hr).2.1
  obtain ⟨a, c, he, hal⟩ := hl0
  simp only [Value.slice.injEq, true_and] at he
  obtain ⟨rfl, rfl⟩ := he
  obtain ⟨b, off, rfl, hbl, hcl⟩ := hal.resolve_left (by intro h0; subst h0; simp at hl1)
  have HR : Hid _ := hr
  clear hal
  go_enter Try.func9, Try.ntmps9
  go_wp2_with (first | (go_at_call 16; refine (great_any _ _ _ _ _ _ _).mono ?_; rintro e w' ⟨rfl, rfl⟩; rw [hd]) | (go_at_call 12; refine (rright4_any _ l _ hl).mono ?_; rintro e w' ⟨rfl, rfl⟩; rw [hr]))
  clear hr
  go_loop [5, 6] (fun us i => ∃ k u : Nat, k ≤ l.length ∧ i = .int .i64 k ∧ us = .int .i64 u ∧ u ≤ 64 ∧ Hid (u = usedN (l.take k))) (fun _ i => l.length - (intOf i).toNat)
  case atStart => exact ⟨0, 0, by omega, rfl, rfl, by omega, by unfold Hid; rfl⟩
  case round =>
    obtain ⟨k, u, hk, rfl, rfl, hu, HU⟩ := hrel
    by_cases hlt : k < l.length
    · have g1 := hcl k hlt
      have hut := used_take l k hlt
      rw [← HU.out] at hut
      by_cases h0 : 0 < l.getD k 0
      · rw [if_pos h0] at hut
        have HU2 : Hid _ := hut.symm
        have hu2 : u + 1 ≤ 64 := by
          rw [HU2.out]
          exact Nat.le_trans (used_le _) (by rw [List.length_take]; omega)
        generalize l.getD k 0 = x at g1 h0
        clear hut HU hcl
        go_wp2
        exact ⟨⟨k + 1, u + 1, by omega, by go_num, by go_num, hu2, HU2⟩, by simp [intOf]; omega⟩
      · rw [if_neg h0] at hut
        have HU2 : Hid _ := hut.symm
        generalize l.getD k 0 = x at g1 h0
        clear hut HU hcl
        go_wp2
        exact ⟨⟨k + 1, u, by omega, by go_num, rfl, hu, HU2⟩, by simp [intOf]; omega⟩
    · have hkl : k = l.length := by omega
      subst hkl
      have hul : u = usedN l := by rw [HU.out, List.take_length]
      have HUL : Hid _ := hul
      clear hul HU hlt
      by_cases h2 : u < 2
      · have h2' : (u : Int) < 2 := by omega
        clear hcl
        go_wp2_with (go_at_call 10; refine (knows_any _).mono ?_; rintro e w9 ⟨rfl, hb9⟩)
        go_ret
        exact ⟨rfl, hb9⟩
      have h2' : (2 : Int) ≤ u := by omega
      have hW4 := below1 w' (.cells #[.slice a1 xs.length cap1, .int .i64 0] 45)
      obtain ⟨q0, q1, f0, f1, hz⟩ := one_box (Below.refl (w'.alloc (.cells #[.slice a1 xs.length cap1, .int .i64 0] 45)).heap.size (w'.alloc (.cells #[.slice a1 xs.length cap1, .int .i64 0] 45)))
      go_wp2
      generalize (w'.alloc (.cells #[.slice a1 xs.length cap1, .int .i64 0] 45)) = W4 at *
      go_loopw [8] (fun i wr => ∃ k p : Nat, k ≤ p ∧ p ≤ 8 * xs.length ∧ i = .int .i64 k ∧ Hid (wr.cell? ⟨w'.heap.size, 0, none⟩ = some (.slice a1 xs.length cap1) ∧ wr.cell? ⟨w'.heap.size, 1, none⟩ = some (.int .i64 (p : Int)) ∧ wr.frozen? ⟨w'.heap.size, 0, none⟩ = false ∧ wr.frozen? ⟨w'.heap.size, 1, none⟩ = false ∧ w'.heap.size < wr.heap.size) ∧ Below w'.heap.size w' wr) (fun i _ => 8 * xs.length + 1 - (intOf i).toNat)
      case atStart => exact ⟨0, 0, by omega, by omega, rfl, ⟨q0, q1, f0, f1, hz⟩, hW4⟩
      case round =>
        obtain ⟨k, p, hkp, hpT, rfl, HQ, hnx⟩ := hrel
        clear q0 q1 f0 f1 hz hW4
        have hrd := read_ok a1 cap1 _ xs l p wr hx (by omega) (hv.below hnx) (hl.below hnx) HR.out
        cases hf : findS l (bv xs) (8 * xs.length) p with
        | some s =>
          have hm := of_find hf
          obtain ⟨e1, e2, e3⟩ := rd_some hm
          rw [e1, e2, e3] at hrd
          obtain ⟨m1, m2, m3, m4⟩ := hm
          have hb16 := inB_at (right_parts HR.out).2.2.1 s
          have g1 := hcl s m1
          clear e1 e2 e3 m4 hf hcl
          generalize l.getD s 0 = z at hrd m2 m3 hb16 g1
          obtain ⟨n, rfl⟩ := Int.eq_ofNat_of_zero_le hb16.1
          rw [Int.toNat_natCast] at m3
          obtain ⟨q0, q1, f0, f1, hz⟩ := HQ.out
          go_wp2_with (go_at_call 21; refine hrd.mono ?_; rintro e w5 ⟨rfl, hb5⟩; clear q0 q1 f0 f1)
          have hB5 := bthen hnx hb5 hnx.size
          obtain ⟨q0, q1, f0, f1, hz5⟩ := box_below hb5 hz HQ.out.1 HQ.out.2.1 HQ.out.2.2.1 HQ.out.2.2.2.1
          obtain ⟨q0, q1, f0, f1, hz6⟩ := box_below (below1 w5 (.cells #[.slice a1 xs.length cap1, .int .i64 ((p : Int) + (n : Int))] 45)) hz5 q0 q1 f0 f1
          obtain ⟨y0, y1, y2, y3, hy⟩ := one_box (Below.refl (w5.alloc (.cells #[.slice a1 xs.length cap1, .int .i64 ((p : Int) + (n : Int))] 45)).heap.size (w5.alloc (.cells #[.slice a1 xs.length cap1, .int .i64 ((p : Int) + (n : Int))] 45)))
          have hB6 := hB5.alloc hB5.size (.cells #[.slice a1 xs.length cap1, .int .i64 ((p : Int) + (n : Int))] 45)
          have g2 := (hB6.cell (p := ⟨b, off + s, none⟩) hbl).trans g1
          have d1 : decide ((s : Int) < 0) = false := decide_eq_false (by omega)
          have d2 : decide ((l.length : Int) ≤ s) = false := decide_eq_false (by omega)
          have d2' : decide (l.length ≤ s) = false := decide_eq_false (by omega)
          have d3 : ((n : Int) == 0) = false := by simp; omega
          have i1 : (0 : Int) ≤ (s : Int) := by omega
          have i2 : (s : Int) < (l.length : Int) := by omega
          have i3 : IntKind.i64.wrap (s : Int) = s := wraps_i64 _ (by omega) (by omega)
          have i4 : IntKind.i64.wrap ((p : Int) + (n : Int)) = (p : Int) + n := wraps_i64 _ (by omega) (by omega)
          generalize (w5.alloc (.cells #[.slice a1 xs.length cap1, .int .i64 ((p : Int) + (n : Int))] 45)) = W6 at *
          generalize w5.heap.size = X at *
          clear hrd hb5 g1
          go_wp2
          go_quiet (fail)
          go_wp2
          obtain ⟨q0, q1, f0, f1, hz7⟩ := box_below (drewN_below W6 (Below.refl _ _) nq) hz6 q0 q1 f0 f1
          obtain ⟨r0, r1, r2, r3, r4⟩ := box_set (.slice a1 xs.length cap1) (.int .i64 ((p : Int) + (n : Int))) q0 q1 f0 f1 hz7
          refine ⟨⟨k + 1, p + n, by omega, m3, by go_num, ⟨r0, by rw [r1]; simp, r2, r3, r4⟩, bset2 (drewN_below _ hB6 _) _ _ _ _ _ _ (Nat.le_refl _) (Nat.le_refl _)⟩, by simp [intOf]; omega⟩
        | none =>
          have hno := of_find_none hf
          obtain ⟨e1, e2, e3⟩ := rd_none hno
          rw [if_neg (by rw [← HUL.out]; omega)] at e3
          rw [e1, e2, e3] at hrd
          have hleft : 8 * xs.length < p + 16 := by
            rcases Nat.lt_or_ge (8 * xs.length) (p + 16) with h | h
            · exact h
            · exfalso
              obtain ⟨_, _, rb, _, rt⟩ := right_parts HR.out
              have hle : ∀ x ∈ l, x ≤ ((16 : Nat) : Int) := by
                intro x hx
                unfold inB at rb
                rw [List.all_eq_true] at rb
                have := rb x hx
                simp at this; omega
              obtain ⟨s, hs, _⟩ := Mt.some (V := bv xs) (T := 8 * xs.length) (p := p) rb (rt (by rw [← HUL.out]; omega)).1 (m := 16) (by omega) (by omega) hle h
              exact hno s hs
          have hpi : (0 : Int) ≤ (p : Int) ∧ (p : Int) ≤ 8 * (xs.length : Int) := by omega
          have hlt16 : 8 * (xs.length : Int) - (p : Int) < 16 := by omega
          obtain ⟨q0, q1, f0, f1, hz⟩ := HQ.out
          clear e1 e2 e3 hno hf hcl
          go_wp2_with (first | (go_at_call 21; refine hrd.mono ?_; rintro e w5 ⟨rfl, hb5⟩; clear q0 q1 f0 f1; obtain ⟨q0, q1, f0, f1, hz5⟩ := box_below (hb5.alloc hb5.size (.cells #[.slice a1 xs.length cap1, .int .i64 (p : Int)] 45)) hz HQ.out.1 HQ.out.2.1 HQ.out.2.2.1 HQ.out.2.2.2.1) | (go_at_call 23; refine (left_any _ _ _ _ _ (by omega)).mono ?_; rw [if_pos hpi]; rintro e w6 ⟨rfl, hb6⟩) | (go_at_call 10; refine (knows_any _).mono ?_; rintro e w9 ⟨rfl, hb9⟩))
          have hB5 := bthen hnx (hb5.alloc hb5.size (.cells #[.slice a1 xs.length cap1, .int .i64 (p : Int)] 45)) hnx.size
          have hB6 := bthen hB5 hb6 hB5.size
          go_ret
          exact ⟨rfl, bthen hB6 hb9 hB6.size⟩


set_option maxRecDepth 100000 in
theorem lifted (os : Os) (started : os.Started) (H : Type) (enc : TypeId × Value → H) :
    ReturnsInHanded {} Try.checked os 9 .any (Rows.huffAllSpec.pre6 enc Try.prog Try.f9 Rows.huffAllRow.domain false) (Rows.huffAllSpec.post enc Try.prog Try.f9 false true false false) := by
  refine returnsInHanded_of_change (C := Try.checked) own started (by kernel_rfl) Try.func9
    (ChangeSpec.witness6 (enc := enc) (C := Try.checked) false ⟨#[], #[.slice none 0 0, .slice none 0 0], []⟩ 8 (by kernel_rfl) (by kernel_rfl) (by kernel_rfl) (by kernel_rfl)) ?_
  intro W base args ds gs before hval0 hW hcnd _
  have hval : ∀ (j : Nat) t v, Try.f9.params[j]? = some t → args[j]? = some v → Value.okWide Try.prog W .any base t v := hval0
  have hW' := hW
  obtain ⟨p, q, hA0, hV, rfl, hfz, hnd⟩ := hW
  have hA : DataW.TrodAll enc Try.prog W 0 (fun _ => true) true Try.f9.params.toList args.toList ds p := hA0
  rw [Try.params9] at hA hval
  obtain ⟨v0, vs0, d0, ds0, p0, q0, hargs, rfl, rfl, h0, r0⟩ := trodAll_cons hA
  obtain ⟨v1, vs1, d1, ds1, p1, q1, rfl, rfl, rfl, h1, r1⟩ := trodAll_cons r0
  obtain ⟨rfl, rfl, rfl⟩ := trodAll_nil r1
  obtain rfl : args = #[v0, v1] := by cases args; simp_all
  obtain ⟨rfl, rfl⟩ := trodVars_none hV
  have k0 := h0
  have lt0 : ∀ x ∈ p0, x.block < W.heap.size := by obtain ⟨m, hm⟩ := k0; exact DataW.trod_lt m _ _ _ hm
  obtain ⟨a0, len0, cap0, rfl⟩ := okWide_slice Try.underlying22 (hval 0 22 v0 rfl rfl)
  obtain ⟨z0, w0⟩ : ∃ zs, IsRow .i64 W a0 len0 cap0 zs := by
    obtain ⟨fuel, hf⟩ := h0
    obtain ⟨a', l', c', zs, he, hr⟩ := ints_of_trod Try.underlying22 Try.underlying3 (by kernel_rfl) (show DataW.trod enc Try.prog W 0 (fun _ => true) true fuel 22 [.slice a0 len0 cap0] = _ from hf)
    simp only [Value.slice.injEq] at he
    obtain ⟨rfl, rfl, rfl⟩ := he
    exact ⟨zs, hr⟩
  have k1 := h1
  have lt1 : ∀ x ∈ p1, x.block < W.heap.size := by obtain ⟨m, hm⟩ := k1; exact DataW.trod_lt m _ _ _ hm
  obtain ⟨a1, len1, cap1, rfl⟩ := okWide_slice Try.underlying32 (hval 1 32 v1 rfl rfl)
  obtain ⟨z1, w1⟩ : ∃ zs, IsRow .u8 W a1 len1 cap1 zs := by
    obtain ⟨fuel, hf⟩ := h1
    obtain ⟨a', l', c', zs, he, hr⟩ := ints_of_trod Try.underlying32 Try.underlying5 (by kernel_rfl) (show DataW.trod enc Try.prog W 0 (fun _ => true) true fuel 32 [.slice a1 len1 cap1] = _ from hf)
    simp only [Value.slice.injEq] at he
    obtain ⟨rfl, rfl, rfl⟩ := he
    exact ⟨zs, hr⟩
  clear hA0 hval0
  refine (walk a0 len0 cap0 z0 a1 len1 cap1 z1 W w0 w1).mono fun e W' ⟨he, bel⟩ => ?_
  subst he
  exact ⟨_, rfl, _, _, _, [], _, [], hW', trodAll_mk1 (shut_bool Try.underlying4 _), (trodAll_cons_mk (Below.trod laidOut (by kernel_rfl) (of_decide_eq_true (by kernel_rfl)) k0 bel lt0) (trodAll_cons_mk (Below.trod laidOut (by kernel_rfl) (of_decide_eq_true (by kernel_rfl)) k1 bel lt1) trodAll_mk0)), rfl, bel.frame _, fun h => by cases h⟩

theorem over : Rows.huffAllRow.holds Try.pinned (OpenSpec.ofChange Rows.huffAllSpec) :=
  OpenClaim.holds_of_wide 9 Try.f9 rfl rfl rfl rfl rfl rfl rfl ⟨rfl, rfl, rfl, rfl, rfl⟩ rfl rfl rfl rfl rfl (by kernel_rfl) Try.func9 (by kernel_rfl)
    (of_decide_eq_true (by kernel_rfl)) (by unfold Func.isWrapper; first | (rw [if_pos (by decide +kernel)]; kernel_rfl) | (rw [if_neg (by decide +kernel)]; exact ⟨rfl, rfl⟩))
    (fun os started H enc _ => lifted os started H enc)

theorem proved : Rows.HuffAllSaid := over
#print axioms proved
end Go.Proofs.Ytnlahpnpajadpaa.huffAll
