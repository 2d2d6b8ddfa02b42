/- The Go function of the statement HuffApart returns true at every input, and leaves each argument as it read. No condition. -/
import Derived.Test.YtnlahpnpajadpaaXk
import Derived.BigQuiet
import Derived.Deep.RegionHeld3
import Derived.ProofKit
import Derived.OpenShut
import Derived.ShutString
import Derived.ChangeOld
import Derived.Lib.SmallJoins
namespace Go.Proofs.Ytnlahpnpajadpaa.huffApart
open Go.ChangeShapes Go.WideShapes Go.ChangeAt Go.RowKit Go.Joins
set_option linter.unusedVariables false
set_option linter.unusedSimpArgs false

theorem own : ownKnob Try.prog.godebug = none := by kernel_rfl
theorem laidOut : laidOutB Try.prog = true := by kernel_rfl

set_option maxRecDepth 10000 in
set_option maxHeartbeats 4000000 in
theorem walk (a0 : Option Addr) (len0 cap0 : Nat) (z0 : List Int) (a1 : Int) (a2 : Int) (w : World) (w0 : IsRow .i64 w a0 len0 cap0 z0) (w1 : (Lit.int .i64 a1).wf = true) (w2 : (Lit.int .i64 a2).wf = true) :
    Calls Try.prog 8 #[.slice a0 len0 cap0, .int .i64 a1, .int .i64 a2] w fun e w' => e = .returned (.bool true) ∧ Below w.heap.size w w' := by
  obtain ⟨l, rfl, hl, _⟩ := row_rw_any w0
  clear w0
  cases d1 : decide ((200 : Int) < l.length)
  case true =>
    go_enter Try.func8, Try.ntmps8
    go_wp2
    go_quiet (fail)
    go_wp2_with (go_at_call 10; refine (knows_any _).mono ?_; rintro e w9 ⟨rfl, hb9⟩)
    go_ret
    exact ⟨rfl, bthen (drewN_below _ (Below.refl _ _) _) hb9 (Nat.le_refl _)⟩
  cases d2 : decide (a1 < 0)
  case true =>
    go_enter Try.func8, Try.ntmps8
    go_wp2
    go_quiet (fail)
    go_wp2_with (go_at_call 10; refine (knows_any _).mono ?_; rintro e w9 ⟨rfl, hb9⟩)
    go_ret
    exact ⟨rfl, bthen (drewN_below _ (Below.refl _ _) _) hb9 (Nat.le_refl _)⟩
  cases d3 : decide (a2 < 0)
  case true =>
    go_enter Try.func8, Try.ntmps8
    go_wp2
    go_quiet (fail)
    go_wp2_with (go_at_call 10; refine (knows_any _).mono ?_; rintro e w9 ⟨rfl, hb9⟩)
    go_ret
    exact ⟨rfl, bthen (drewN_below _ (Below.refl _ _) _) hb9 (Nat.le_refl _)⟩
  rw [decide_eq_false_iff_not] at d2 d3
  obtain ⟨A, rfl⟩ := Int.eq_ofNat_of_zero_le (show 0 ≤ a1 by omega)
  obtain ⟨B, rfl⟩ := Int.eq_ofNat_of_zero_le (show 0 ≤ a2 by omega)
  clear d2 d3
  have d2 : decide ((A : Int) < 0) = false := decide_eq_false (by omega)
  have d3 : decide ((B : Int) < 0) = false := decide_eq_false (by omega)
  cases d4 : decide ((l.length : Int) ≤ A)
  case true =>
    have d4' : decide (l.length ≤ A) = true := by rw [decide_eq_true_eq] at d4 ⊢; omega
    go_enter Try.func8, Try.ntmps8
    go_wp2
    go_quiet (fail)
    go_wp2_with (go_at_call 10; refine (knows_any _).mono ?_; rintro e w9 ⟨rfl, hb9⟩)
    go_ret
    exact ⟨rfl, bthen (drewN_below _ (Below.refl _ _) _) hb9 (Nat.le_refl _)⟩
  have d4' : decide (l.length ≤ A) = false := by rw [decide_eq_false_iff_not] at d4 ⊢; omega
  cases d5 : decide ((l.length : Int) ≤ B)
  case true =>
    have d5' : decide (l.length ≤ B) = true := by rw [decide_eq_true_eq] at d5 ⊢; omega
    go_enter Try.func8, Try.ntmps8
    go_wp2
    go_quiet (fail)
    go_wp2_with (go_at_call 10; refine (knows_any _).mono ?_; rintro e w9 ⟨rfl, hb9⟩)
    go_ret
    exact ⟨rfl, bthen (drewN_below _ (Below.refl _ _) _) hb9 (Nat.le_refl _)⟩
  have d5' : decide (l.length ≤ B) = false := by rw [decide_eq_false_iff_not] at d5 ⊢; omega
  have hAl : A < l.length := by rw [decide_eq_false_iff_not] at d4'; omega
  have hBl : B < l.length := by rw [decide_eq_false_iff_not] at d5'; omega
  by_cases c6 : A = B
  · subst c6
    go_enter Try.func8, Try.ntmps8
    go_wp2
    go_quiet (fail)
    go_wp2_with (go_at_call 10; refine (knows_any _).mono ?_; rintro e w9 ⟨rfl, hb9⟩)
    go_ret
    exact ⟨rfl, bthen (drewN_below _ (Below.refl _ _) _) hb9 (Nat.le_refl _)⟩
  have d6 : ((A : Int) == (B : Int)) = false := by simp; omega
  have hl0 := hl
  cases hr : rightL l
  · have hrt : ∀ k, Calls Try.prog 12 #[.slice a0 l.length cap0] (w.drewN k) fun e w' => e = .returned (.bool false) ∧ w' = w.drewN k := fun k => by
      have := rright4_any _ l _ (hl0.below (drewN_below w (Below.refl _ _) k))
      rwa [hr] at this
    go_enter Try.func8, Try.ntmps8
    go_wp2
    go_quiet (first | (go_at_call 12; refine Calls.quiet_of_same (hrt _)))
    go_wp2_with (go_at_call 10; refine (knows_any _).mono ?_; rintro e w9 ⟨rfl, hb9⟩)
    go_ret
    exact ⟨rfl, bthen (drewN_below _ (Below.refl _ _) _) hb9 (Nat.le_refl _)⟩
  have hrt : ∀ k, Calls Try.prog 12 #[.slice a0 l.length cap0] (w.drewN k) fun e w' => e = .returned (.bool true) ∧ w' = w.drewN k := fun k => by
    have := rright4_any _ l _ (hl0.below (drewN_below w (Below.refl _ _) k))
    rwa [hr] at this
  have hl1 := (right_parts hr).1
  have hl2 := (right_parts hr).2.1
  obtain ⟨a, c, he, hal⟩ := hl
  simp only [Value.slice.injEq, true_and] at he
  obtain ⟨rfl, rfl⟩ := he
  obtain ⟨b, off, rfl, hbl, hcl⟩ := hal.resolve_left (by intro h0; subst h0; simp at hl1)
  have gA := hcl A hAl
  have gB := hcl B hBl
  have hA16 := inB_at (right_parts hr).2.2.1 A
  have hB16 := inB_at (right_parts hr).2.2.1 B
  have i1 : (0 : Int) ≤ (A : Int) := by omega
  have i2 : (A : Int) < (l.length : Int) := by omega
  have i3 : (0 : Int) ≤ (B : Int) := by omega
  have i4 : (B : Int) < (l.length : Int) := by omega
  have i5 : IntKind.i64.wrap (A : Int) = A := wraps_i64 _ (by omega) (by omega)
  have i6 : IntKind.i64.wrap (B : Int) = B := wraps_i64 _ (by omega) (by omega)
  by_cases h0 : l.getD A 0 = 0
  · rw [h0] at gA
    clear hal hcl h0
    go_enter Try.func8, Try.ntmps8
    go_wp2
    go_quiet (first | (go_at_call 12; refine Calls.quiet_of_same (hrt _)))
    go_wp2_with (go_at_call 10; refine (knows_any _).mono ?_; rintro e w9 ⟨rfl, hb9⟩)
    go_ret
    exact ⟨rfl, bthen (drewN_below _ (Below.refl _ _) _) hb9 (Nat.le_refl _)⟩
  have hpos : 0 < l.getD A 0 := by omega
  have hap := fun h => cd_apart l A B hAl hBl c6 hpos h
  have hcA : codeAt l A = (cd l A : Int) := by unfold codeAt; rw [if_pos hpos]
  have hcB : ∀ h : 0 < l.getD B 0, codeAt l B = (cd l B : Int) := fun h => by unfold codeAt; rw [if_pos h]
  have hsA := cd_small l hl2 (right_parts hr).2.2.1 A
  have hsB := cd_small l hl2 (right_parts hr).2.2.1 B
  have HcA : Hid _ := hcA
  have HcB : Hid _ := hcB
  have Hap : Hid _ := hap
  clear hcA hcB hap hal hcl
  have HKA : Hid _ := hAl
  have HKB : Hid _ := hBl
  generalize l.getD A 0 = x at gA h0 hpos hA16 Hap
  generalize l.getD B 0 = y at gB hB16 Hap HcB
  obtain ⟨n, rfl⟩ := Int.eq_ofNat_of_zero_le hA16.1
  obtain ⟨m, rfl⟩ := Int.eq_ofNat_of_zero_le hB16.1
  have d8 : ((n : Int) == 0) = false := by simp; omega
  cases d9 : decide (((m : Nat) : Int) < (n : Int))
  case true =>
    have d9' : decide (m < n) = true := by rw [decide_eq_true_eq] at d9 ⊢; omega
    go_enter Try.func8, Try.ntmps8
    go_wp2
    go_quiet (first | (go_at_call 12; refine Calls.quiet_of_same (hrt _)))
    go_wp2_with (go_at_call 10; refine (knows_any _).mono ?_; rintro e w9 ⟨rfl, hb9⟩)
    go_ret
    exact ⟨rfl, bthen (drewN_below _ (Below.refl _ _) _) hb9 (Nat.le_refl _)⟩
  have d9' : decide (m < n) = false := by rw [decide_eq_false_iff_not] at d9 ⊢; omega
  have hmn : n ≤ m := by rw [decide_eq_false_iff_not] at d9'; omega
  have Hap2 : Hid (cd l B / 2 ^ (m - n) ≠ cd l A) := Hap.out (by omega)
  have HcB2 : Hid (codeAt l B = (cd l B : Int)) := HcB.out (by omega)
  clear Hap HcB
  have HR : Hid _ := hr
  go_enter Try.func8, Try.ntmps8
  go_wp2
  go_quiet (first | (go_at_call 12; refine Calls.quiet_of_same (hrt _)))
  clear hrt
  go_wp2_with (go_at_call 13; refine (codes_ok _ l _ (hl0.below (drewN_below w (Below.refl _ _) _)) HR.out).mono ?_; rintro e w1 ⟨g, rfl, hrow, hb1⟩)
  have hBw : Below w.heap.size w w1 := (drewN_below w (Below.refl _ _) _).trans hb1
  obtain ⟨ga, gcap, gv, grow⟩ := hrow
  obtain ⟨gb, goff, ge, gB', gsz, gcell⟩ := grow.resolve_left (by intro h; have := codes_len l; rw [h] at this; simp at this; omega)
  simp only [Value.slice.injEq] at gv
  obtain ⟨rfl, ge1, ge2⟩ := gv
  clear ge1 ge2
  simp only [Option.some.injEq, Addr.mk.injEq] at ge
  obtain ⟨rfl, rfl, _⟩ := ge
  clear grow
  have kA := gcell A (by rw [codes_len]; exact HKA.out)
  have kB := gcell B (by rw [codes_len]; exact HKB.out)
  rw [Nat.zero_add, codes_at l A HKA.out, HcA.out] at kA
  rw [Nat.zero_add, codes_at l B HKB.out, HcB2.out] at kB
  have gA1 := (hBw.cell (p := ⟨b, off + A, none⟩) hbl).trans gA
  have gB1 := (hBw.cell (p := ⟨b, off + B, none⟩) hbl).trans gB
  generalize cd l A = CA at kA hsA Hap2
  generalize cd l B = CB at kB hsB Hap2
  have hne : ((CB : Int) / 2 ^ (m - n) == (CA : Int)) = false := by
    rw [nat_shr, beq_eq_false_iff_ne]
    intro h
    exact Hap2.out (Int.ofNat_inj.1 h)
  have hne1 : ((CB : Int) / 2 ^ (m - n) != (CA : Int)) = true := by rw [bne, hne]; rfl
  have hne2 : ¬ ((CB : Int) / 2 ^ (m - n) = (CA : Int)) := by simpa using hne
  have hbl1 : b < w1.heap.size := Nat.lt_of_lt_of_le hbl hBw.size
  have hmD : (m : Int) = (n : Int) + ((m - n : Nat) : Int) := by omega
  generalize m - n = D at hmD hne hne1 hne2
  rw [hmD] at gB1
  have hD0 : (0 : Int) ≤ (D : Int) := by omega
  have hD1 : (n : Int) + (D : Int) ≤ 16 := by omega
  have hD2 : IntKind.i64.wrap ((n : Int) + (D : Int) - (n : Int)) = D := by rw [wraps_i64 _ (by omega) (by omega)]; omega
  clear hmD
  clear gcell Hap2 gA gB HcA HcB2
  go_wp2
  go_region_held3 (fun w' => (w'.cell? ⟨b, off + A, none⟩ = some (.int .i64 (n : Int)) ∧ w'.cell? ⟨b, off + B, none⟩ = some (.int .i64 ((n : Int) + (D : Int)))) ∧ (w'.cell? ⟨g, A, none⟩ = some (.int .u32 (CA : Int)) ∧ w'.cell? ⟨g, B, none⟩ = some (.int .u32 (CB : Int)))) (exact held4' (by first | exact (Below.refl _ _).drew | exact hy9) hbl1 gsz gA1 gB1 kA kB) (first | (go_at_call 10; refine (knows_any _).mono ?_; rintro e w9 ⟨rfl, hb9⟩; have hy9 := drew_below hb9))
  go_wp2
  go_ret
  exact ⟨rfl, bthen hBw hy9 hBw.size⟩


set_option maxRecDepth 100000 in
theorem lifted (os : Os) (started : os.Started) (H : Type) (enc : TypeId × Value → H) :
    ReturnsInHanded {} Try.checked os 8 .any (Rows.huffApartSpec.pre6 enc Try.prog Try.f8 Rows.huffApartRow.domain false) (Rows.huffApartSpec.post enc Try.prog Try.f8 false true false false) := by
  refine returnsInHanded_of_change (C := Try.checked) own started (by kernel_rfl) Try.func8
    (ChangeSpec.witness6 (enc := enc) (C := Try.checked) false ⟨#[], #[.slice none 0 0, .int .i64 0, .int .i64 0], []⟩ 8 (by kernel_rfl) (by kernel_rfl) (by kernel_rfl) (by kernel_rfl)) ?_
  intro W base args ds gs before hval0 hW hcnd _
  have hval : ∀ (j : Nat) t v, Try.f8.params[j]? = some t → args[j]? = some v → Value.okWide Try.prog W .any base t v := hval0
  have hW' := hW
  obtain ⟨p, q, hA0, hV, rfl, hfz, hnd⟩ := hW
  have hA : DataW.TrodAll enc Try.prog W 0 (fun _ => true) true Try.f8.params.toList args.toList ds p := hA0
  rw [Try.params8] at hA hval
  obtain ⟨v0, vs0, d0, ds0, p0, q0, hargs, rfl, rfl, h0, r0⟩ := trodAll_cons hA
  obtain ⟨v1, vs1, d1, ds1, p1, q1, rfl, rfl, rfl, h1, r1⟩ := trodAll_cons r0
  obtain ⟨v2, vs2, d2, ds2, p2, q2, rfl, rfl, rfl, h2, r2⟩ := trodAll_cons r1
  obtain ⟨rfl, rfl, rfl⟩ := trodAll_nil r2
  obtain rfl : args = #[v0, v1, v2] := by cases args; simp_all
  obtain ⟨rfl, rfl⟩ := trodVars_none hV
  have k0 := h0
  have lt0 : ∀ x ∈ p0, x.block < W.heap.size := by obtain ⟨m, hm⟩ := k0; exact DataW.trod_lt m _ _ _ hm
  obtain ⟨a0, len0, cap0, rfl⟩ := okWide_slice Try.underlying22 (hval 0 22 v0 rfl rfl)
  obtain ⟨z0, w0⟩ : ∃ zs, IsRow .i64 W a0 len0 cap0 zs := by
    obtain ⟨fuel, hf⟩ := h0
    obtain ⟨a', l', c', zs, he, hr⟩ := ints_of_trod Try.underlying22 Try.underlying3 (by kernel_rfl) (show DataW.trod enc Try.prog W 0 (fun _ => true) true fuel 22 [.slice a0 len0 cap0] = _ from hf)
    simp only [Value.slice.injEq] at he
    obtain ⟨rfl, rfl, rfl⟩ := he
    exact ⟨zs, hr⟩
  obtain ⟨a1, rfl, rfl, rfl, w1⟩ := open_int Try.underlying3 (hval 1 3 v1 rfl rfl) h1
  obtain ⟨a2, rfl, rfl, rfl, w2⟩ := open_int Try.underlying3 (hval 2 3 v2 rfl rfl) h2
  clear hA0 hval0
  refine (walk a0 len0 cap0 z0 a1 a2 W w0 w1 w2).mono fun e W' ⟨he, bel⟩ => ?_
  subst he
  exact ⟨_, rfl, _, _, _, [], _, [], hW', trodAll_mk1 (shut_bool Try.underlying4 _), (trodAll_cons_mk (Below.trod laidOut (by kernel_rfl) (of_decide_eq_true (by kernel_rfl)) k0 bel lt0) (trodAll_cons_mk (shut_int Try.underlying3 w1) (trodAll_cons_mk (shut_int Try.underlying3 w2) trodAll_mk0))), rfl, bel.frame _, fun h => by cases h⟩

theorem over : Rows.huffApartRow.holds Try.pinned (OpenSpec.ofChange Rows.huffApartSpec) :=
  OpenClaim.holds_of_wide 8 Try.f8 rfl rfl rfl rfl rfl rfl rfl ⟨rfl, rfl, rfl, rfl, rfl⟩ rfl rfl rfl rfl rfl (by kernel_rfl) Try.func8 (by kernel_rfl)
    (of_decide_eq_true (by kernel_rfl)) (by unfold Func.isWrapper; first | (rw [if_pos (by decide +kernel)]; kernel_rfl) | (rw [if_neg (by decide +kernel)]; exact ⟨rfl, rfl⟩))
    (fun os started H enc _ => lifted os started H enc)

theorem proved : Rows.HuffApartSaid := over
#print axioms proved
end Go.Proofs.Ytnlahpnpajadpaa.huffApart
