/- The Go function of the statement CoupleListsBack returns true at every input, and leaves each argument as it read. No condition. -/
import Derived.Test.YtjehjpibgficcaaSf
import Derived.ProofKit
import Derived.OpenShut
import Derived.ShutString
import Derived.ChangeOld
import Derived.Lib.SmallJoins
namespace Go.Proofs.Ytjehjpibgficcaa.coupleListsBack
open Go.ChangeShapes Go.WideShapes Go.ChangeAt Go.RowKit Go.Joins
set_option linter.unusedVariables false
set_option linter.unusedSimpArgs false

theorem own : ownKnob Try.prog.godebug = none := by kernel_rfl
theorem laidOut : laidOutB Try.prog = true := by kernel_rfl

set_option maxRecDepth 10000 in
set_option maxHeartbeats 2000000 in
theorem walk (a0 : Option Addr) (len0 cap0 : Nat) (z0 : List Int) (a1 : Option Addr) (len1 cap1 : Nat) (z1 : List Int) (w : World) (w0 : IsRow .i64 w a0 len0 cap0 z0) (w1 : IsRow .i64 w a1 len1 cap1 z1) :
    Calls Try.prog 7 #[.slice a0 len0 cap0, .slice a1 len1 cap1] w fun e w' => e = .returned (.bool true) ∧ Below w.heap.size w w' := by
  have hacc : Below w.heap.size w w := Below.refl _ _
  obtain ⟨x, rfl, hv0, hwf⟩ := row_rw_any w0
  clear hwf w0
  obtain ⟨y, rfl, hv1, hwf⟩ := row_rw_any w1
  clear hwf w1
  by_cases hg0 : 100 < x.length
  · have hg : (100 : Int) < (x.length : Int) := by omega
    generalize x.length = n at *
    go_enter Try.func7, Try.ntmps7
    go_wp2_with (first | (go_at_call 13; refine (knows_any _).mono ?_; rintro e w9 ⟨rfl, hb9⟩; replace hacc := bthen' hacc hb9))
    go_ret
    exact ⟨rfl, hacc⟩
  have hn0 : x.length ≤ 100 := by omega
  have hn1 : ¬ (100 : Int) < (x.length : Int) := by omega
  clear hg0
  by_cases hg1 : 100 < y.length
  · have hg : (100 : Int) < (y.length : Int) := by omega
    generalize x.length = m at *
    generalize y.length = n at *
    go_enter Try.func7, Try.ntmps7
    go_wp2_with (first | (go_at_call 13; refine (knows_any _).mono ?_; rintro e w9 ⟨rfl, hb9⟩; replace hacc := bthen' hacc hb9))
    go_ret
    exact ⟨rfl, hacc⟩
  have hm0 : y.length ≤ 100 := by omega
  have hm1 : ¬ (100 : Int) < (y.length : Int) := by omega
  clear hg1
  by_cases he : x.length = y.length
  · cases hall : cWay.all x y
    · have h1 := cAll_no _ _ x y w hv0 hv1 he hn0 hall
      clear he hall hv0 hv1
      generalize x.length = n at *
      generalize y.length = m at *
      go_enter Try.func7, Try.ntmps7
      go_wp2_with (first | (go_at_call 15; refine h1.mono ?_; rintro e W1 ⟨rfl, hb1⟩; replace hacc := bthen' hacc hb1) | (go_at_call 13; refine (knows_any _).mono ?_; rintro e w9 ⟨rfl, hb9⟩; replace hacc := bthen' hacc hb9))
      go_ret
      exact ⟨rfl, hacc⟩
    · have h1 := cAll_ok _ _ x y w hv0 hv1 hn0 hall
      obtain ⟨b1, b2, b3⟩ := lists_back hall
      have X1 : Hid ((cWay.xs x y).length = x.length) := tab_len _ _
      have X2 : Hid ((cWay.ys x y).length = x.length) := tab_len _ _
      have h2 := fun w v1 v2 h1 h2 => pAll_ok v1 v2 (cWay.xs x y) (cWay.ys x y) w h1 h2 (by rw [X1.out]; exact hn0) b1
      rw [b2, b3, X1.out] at h2
      have HS1 : Hid (∀ w v1 v2, Rw .i64 w v1 x → Rw .i64 w v2 x → Calls Try.prog 16 #[v1, v2] w fun e w' => e = .returned (.bool true) ∧ Below w.heap.size w w') := fun w v1 v2 h1 h2 => same64_yes v1 v2 x w h1 h2 hn0
      have HS2 : Hid (∀ w v1 v2, Rw .i64 w v1 y → Rw .i64 w v2 y → Calls Try.prog 16 #[v1, v2] w fun e w' => e = .returned (.bool true) ∧ Below w.heap.size w w') := fun w v1 v2 h1 h2 => same64_yes v1 v2 y w h1 h2 hm0
      have HX : Hid (∀ (w : World) (g : Nat), Blk .i64 2 w g x → Rw .i64 w (.slice (some ⟨g, 0, none⟩) x.length x.length) x) := fun w g h => h.rw rfl
      have HY : Hid (∀ (w : World) (g : Nat), Blk .i64 2 w g y → Rw .i64 w (.slice (some ⟨g, 0, none⟩) x.length x.length) y) := fun w g h => h.rw he.symm
      have HV0 := hid hv0
      have HV1 := hid hv1
      clear hv0 hv1 b1 b2 b3 hall he
      generalize cWay.xs x y = X at *
      generalize cWay.ys x y = Y at *
      generalize x.length = n at *
      generalize y.length = m at *
      go_enter Try.func7, Try.ntmps7
      go_wp2_with (first
        | (go_at_call 15; refine h1.mono ?_; rintro e W1 ⟨g1, g2, rfl, r1, r2, hb1⟩; replace hacc := bthen' hacc hb1; have V0 := hid (HV0.out.below hacc); have V1 := hid (HV1.out.below hacc))
        | (go_at_call 17; refine (h2 W1 _ _ (r1.rw X1.out) (r2.rw X2.out)).mono ?_; rintro e W2 ⟨g3, g4, rfl, r3, r4, hb2⟩; replace hacc := bthen' hacc hb2; have U0 := hid (HX.out _ _ r3); have U1 := hid (HY.out _ _ r4); have V2 := hid (V0.out.below hb2); have V3 := hid (V1.out.below hb2); clear r1 r2 r3 r4 V0 V1)
        | (go_at_call_of 16 (Value.slice (some ⟨g3, 0, none⟩) n n); refine (HS1.out _ _ _ U0.out V2.out).mono ?_; rintro e W3 ⟨rfl, hb3⟩; replace hacc := bthen' hacc hb3; have U2 := hid (U1.out.below hb3); have V4 := hid (V3.out.below hb3))
        | (go_at_call_of 16 (Value.slice (some ⟨g4, 0, none⟩) n n); refine (HS2.out _ _ _ U2.out V4.out).mono ?_; rintro e W4 ⟨rfl, hb4⟩; replace hacc := bthen' hacc hb4)
        | (go_at_call 13; refine (knows_any _).mono ?_; rintro e w9 ⟨rfl, hb9⟩; replace hacc := bthen' hacc hb9))
      go_ret
      exact ⟨rfl, hacc⟩
  · have h1 := cAll_len _ _ x y w hv0 hv1 he (by omega) (by omega)
    clear he hv0 hv1
    generalize x.length = n at *
    generalize y.length = m at *
    go_enter Try.func7, Try.ntmps7
    go_wp2_with (first | (go_at_call 15; refine h1.mono ?_; rintro e W1 ⟨rfl, hb1⟩; replace hacc := bthen' hacc hb1) | (go_at_call 13; refine (knows_any _).mono ?_; rintro e w9 ⟨rfl, hb9⟩; replace hacc := bthen' hacc hb9))
    go_ret
    exact ⟨rfl, hacc⟩


set_option maxRecDepth 100000 in
theorem lifted (os : Os) (started : os.Started) (H : Type) (enc : TypeId × Value → H) :
    ReturnsInHanded {} Try.checked os 7 .any (Rows.coupleListsBackSpec.pre6 enc Try.prog Try.f7 Rows.coupleListsBackRow.domain false) (Rows.coupleListsBackSpec.post enc Try.prog Try.f7 false true false false) := by
  refine returnsInHanded_of_change (C := Try.checked) own started (by kernel_rfl) Try.func7
    (ChangeSpec.witness6 (enc := enc) (C := Try.checked) false ⟨#[], #[.slice none 0 0, .slice none 0 0], []⟩ 8 (by kernel_rfl) (by kernel_rfl) (by kernel_rfl) (by kernel_rfl)) ?_
  intro W base args ds gs before hval0 hW hcnd _
  have hval : ∀ (j : Nat) t v, Try.f7.params[j]? = some t → args[j]? = some v → Value.okWide Try.prog W .any base t v := hval0
  have hW' := hW
  obtain ⟨p, q, hA0, hV, rfl, hfz, hnd⟩ := hW
  have hA : DataW.TrodAll enc Try.prog W 0 (fun _ => true) true Try.f7.params.toList args.toList ds p := hA0
  rw [Try.params7] at hA hval
  obtain ⟨v0, vs0, d0, ds0, p0, q0, hargs, rfl, rfl, h0, r0⟩ := trodAll_cons hA
  obtain ⟨v1, vs1, d1, ds1, p1, q1, rfl, rfl, rfl, h1, r1⟩ := trodAll_cons r0
  obtain ⟨rfl, rfl, rfl⟩ := trodAll_nil r1
  obtain rfl : args = #[v0, v1] := by cases args; simp_all
  obtain ⟨rfl, rfl⟩ := trodVars_none hV
  have k0 := h0
  have lt0 : ∀ x ∈ p0, x.block < W.heap.size := by obtain ⟨m, hm⟩ := k0; exact DataW.trod_lt m _ _ _ hm
  obtain ⟨a0, len0, cap0, rfl⟩ := okWide_slice Try.underlying30 (hval 0 30 v0 rfl rfl)
  obtain ⟨z0, w0⟩ : ∃ zs, IsRow .i64 W a0 len0 cap0 zs := by
    obtain ⟨fuel, hf⟩ := h0
    obtain ⟨a', l', c', zs, he, hr⟩ := ints_of_trod Try.underlying30 Try.underlying2 (by kernel_rfl) (show DataW.trod enc Try.prog W 0 (fun _ => true) true fuel 30 [.slice a0 len0 cap0] = _ from hf)
    simp only [Value.slice.injEq] at he
    obtain ⟨rfl, rfl, rfl⟩ := he
    exact ⟨zs, hr⟩
  have k1 := h1
  have lt1 : ∀ x ∈ p1, x.block < W.heap.size := by obtain ⟨m, hm⟩ := k1; exact DataW.trod_lt m _ _ _ hm
  obtain ⟨a1, len1, cap1, rfl⟩ := okWide_slice Try.underlying30 (hval 1 30 v1 rfl rfl)
  obtain ⟨z1, w1⟩ : ∃ zs, IsRow .i64 W a1 len1 cap1 zs := by
    obtain ⟨fuel, hf⟩ := h1
    obtain ⟨a', l', c', zs, he, hr⟩ := ints_of_trod Try.underlying30 Try.underlying2 (by kernel_rfl) (show DataW.trod enc Try.prog W 0 (fun _ => true) true fuel 30 [.slice a1 len1 cap1] = _ from hf)
    simp only [Value.slice.injEq] at he
    obtain ⟨rfl, rfl, rfl⟩ := he
    exact ⟨zs, hr⟩
  clear hA0 hval0
  refine (walk a0 len0 cap0 z0 a1 len1 cap1 z1 W w0 w1).mono fun e W' ⟨he, bel⟩ => ?_
  subst he
  exact ⟨_, rfl, _, _, _, [], _, [], hW', trodAll_mk1 (shut_bool Try.underlying4 _), (trodAll_cons_mk (Below.trod laidOut (by kernel_rfl) (of_decide_eq_true (by kernel_rfl)) k0 bel lt0) (trodAll_cons_mk (Below.trod laidOut (by kernel_rfl) (of_decide_eq_true (by kernel_rfl)) k1 bel lt1) trodAll_mk0)), rfl, bel.frame _, fun h => by cases h⟩

theorem over : Rows.coupleListsBackRow.holds Try.pinned (OpenSpec.ofChange Rows.coupleListsBackSpec) :=
  OpenClaim.holds_of_wide 7 Try.f7 rfl rfl rfl rfl rfl rfl rfl ⟨rfl, rfl, rfl, rfl, rfl⟩ rfl rfl rfl rfl rfl (by kernel_rfl) Try.func7 (by kernel_rfl)
    (of_decide_eq_true (by kernel_rfl)) (by unfold Func.isWrapper; first | (rw [if_pos (by decide +kernel)]; kernel_rfl) | (rw [if_neg (by decide +kernel)]; exact ⟨rfl, rfl⟩))
    (fun os started H enc _ => lifted os started H enc)

theorem proved : Rows.CoupleListsBackSaid := over
#print axioms proved
end Go.Proofs.Ytjehjpibgficcaa.coupleListsBack
