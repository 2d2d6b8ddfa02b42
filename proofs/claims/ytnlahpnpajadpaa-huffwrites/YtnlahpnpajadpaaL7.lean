/- The Go function of the statement HuffWrites returns true at every input, and leaves each argument as it read. No condition. -/
import Derived.Test.YtnlahpnpajadpaaXo
import Derived.Deep.RegionHeld3
import Derived.ProofKit
import Derived.OpenShut
import Derived.ShutString
import Derived.ChangeOld
import Derived.Lib.SmallJoins
namespace Go.Proofs.Ytnlahpnpajadpaa.huffWrites
open Go.ChangeShapes Go.WideShapes Go.ChangeAt Go.RowKit Go.Joins
set_option linter.unusedVariables false
set_option linter.unusedSimpArgs false

theorem own : ownKnob Try.prog.godebug = none := by kernel_rfl
theorem laidOut : laidOutB Try.prog = true := by kernel_rfl

set_option maxRecDepth 10000 in
set_option maxHeartbeats 4000000 in
theorem walk (a1 : Option Addr) (len1 cap1 : Nat) (z1 : List Int) (a2 : Int) (a3 : Option Addr) (len3 cap3 : Nat) (z3 : List Int) (a4 : Int) (w : World) (w1 : IsRow .u8 w a1 len1 cap1 z1) (w2 : (Lit.int .i64 a2).wf = true) (w3 : IsRow .i64 w a3 len3 cap3 z3) (w4 : (Lit.int .i64 a4).wf = true) :
    Calls Try.prog 5 #[.agg #[.slice a1 len1 cap1, .int .i64 a2], .slice a3 len3 cap3, .int .i64 a4] w fun e w' => e = .returned (.bool true) ∧ Below w.heap.size w w' := by
  obtain ⟨xs, rfl, hrw, hx⟩ := row_rw w1
  obtain ⟨l, rfl, hl, _⟩ := row_rw_any w3
  clear w1 w3
  have hW := below1 w (.cells #[.slice a1 xs.length cap1, .int .i64 a2] 34)
  by_cases hg : 4100 < xs.length ∨ 200 < l.length
  · have hd : decide (4100 < xs.length ∨ 200 < l.length) = true := decide_eq_true hg
    go_enter Try.func5, Try.ntmps5
    go_wp2_with (first | (go_at_call 16; refine (great_any _ _ _ _ _ _ _).mono ?_; rintro e w' ⟨rfl, rfl⟩; rw [hd]) | (go_at_call 10; refine (knows_any _).mono ?_; rintro e w9 ⟨rfl, hb9⟩))
    go_ret
    exact ⟨rfl, bthen hW hb9 hW.size⟩
  have hd : decide (4100 < xs.length ∨ 200 < l.length) = false := decide_eq_false hg
  obtain ⟨Y, G, E, hY, hA, hB⟩ := writes_alike xs l a2 a4 hx (by omega)
  clear hg
  go_enter Try.func5, Try.ntmps5
  go_wp2_with (first | (go_at_call 16; refine (great_any _ _ _ _ _ _ _).mono ?_; rintro e w' ⟨rfl, rfl⟩; rw [hd]) | (go_at_call 17; refine (hA _ _ _ _ (hrw.below hW) (hl.below hW)).mono ?_; rintro e w5 ⟨x5, c5, rfl, r5, b5⟩; obtain ⟨q0, q1, f0, f1, hz⟩ := one_box b5; have hW5 := bthen hW b5 hW.size; have hW6 := hW5.alloc hW5.size (.cells #[.slice x5 Y.length c5, .int .i64 G] 34); have r6 := r5.below (below1 w5 (.cells #[.slice x5 Y.length c5, .int .i64 G] 34))) | (go_at_call 19; refine (as_any _ _ _ _ _).mono ?_; rintro e w7 ⟨rfl, b7⟩; have hW7 := bthen hW6 b7 hW6.size; have r7 := r6.below b7; obtain ⟨p0, p1, g0, g1, hz7⟩ := one_box b7) | (go_at_call 18; refine (hB _ _ _ _ (hrw.below hW7) (hl.below hW7)).mono ?_; rintro e w8 ⟨x8, c8, rfl, r8, b8⟩; obtain ⟨p0, p1, g0, g1, hz8⟩ := box_below b8 hz7 p0 p1 g0 g1; have r8' := r7.below b8; have hW8 := bthen hW7 b8 hW7.size))
  have hW9 := hW8.alloc hW8.size (.cells #[.slice x8 Y.length c8, .int .i64 G] 38)
  have hB8 := below1 w8 (.cells #[.slice x8 Y.length c8, .int .i64 G] 38)
  have rx := r8'.below hB8
  have ry := r8.below hB8
  have hz9 : (w8.alloc (.cells #[.slice x8 Y.length c8, .int .i64 G] 38)).heap.size = w8.heap.size + 1 := by simp
  have S0 := four_new (x0 := .slice x8 Y.length c8) (x1 := .int .i64 G) (t := 38) hz8 p0 p1
  clear r8 r8' r7 r6 r5 b8 b7 b5 hW5 hW6 hW7 hB8 p0 p1 g0 g1 q0 q1 f0 f1 hA hB
  generalize w8.alloc (.cells #[.slice x8 Y.length c8, .int .i64 G] 38) = Wy at *
  have hz5 : w5.heap.size < Wy.heap.size := by omega
  have hz6 : w8.heap.size < Wy.heap.size := by omega
  go_region_held3 (fun w' => w'.cell? ⟨w5.heap.size, 0, none⟩ = some (.slice x5 Y.length c5) ∧ w'.cell? ⟨w5.heap.size, 1, none⟩ = some (.int .i64 G) ∧ w'.cell? ⟨w8.heap.size, 0, none⟩ = some (.slice x8 Y.length c8) ∧ w'.cell? ⟨w8.heap.size, 1, none⟩ = some (.int .i64 G)) (first | exact S0 | exact S1 | exact S2 | exact S3) (first | (go_at_call 19; refine (as_any _ _ _ _ _).mono ?_; rintro e y1 ⟨rfl, e1⟩; have S1 := S0.below (drew_below e1) hz5 hz6) | (go_at_call 20; (refine (same_self _ _ _ Y _ (rx.below (drew_below e1)) (ry.below (drew_below e1)) hY).mono ?_); rintro e y2 ⟨rfl, e2⟩; have S2 := S1.below e2 (Nat.lt_of_lt_of_le hz5 (drew_below e1).size) (Nat.lt_of_lt_of_le hz6 (drew_below e1).size)) | (go_at_call 10; refine (knows_any _).mono ?_; rintro e y3 ⟨rfl, e3⟩; have S3 := S2.below e3 (Nat.lt_of_lt_of_le (Nat.lt_of_lt_of_le hz5 (drew_below e1).size) e2.size) (Nat.lt_of_lt_of_le (Nat.lt_of_lt_of_le hz6 (drew_below e1).size) e2.size)))
  go_wp2
  go_ret
  have k1 := bthen hW9 (drew_below e1) hW9.size
  have k2 := bthen k1 e2 k1.size
  exact ⟨rfl, bthen k2 e3 k2.size⟩


set_option maxRecDepth 100000 in
theorem lifted (os : Os) (started : os.Started) (H : Type) (enc : TypeId × Value → H) :
    ReturnsInHanded {} Try.checked os 5 .any (Rows.huffWritesSpec.pre6 enc Try.prog Try.f5 Rows.huffWritesRow.domain false) (Rows.huffWritesSpec.post enc Try.prog Try.f5 false true false false) := by
  refine returnsInHanded_of_change (C := Try.checked) own started (by kernel_rfl) Try.func5
    (ChangeSpec.witness6 (enc := enc) (C := Try.checked) false ⟨#[], #[.agg #[.slice none 0 0, .int .i64 0], .slice none 0 0, .int .i64 0], []⟩ 8 (by kernel_rfl) (by kernel_rfl) (by kernel_rfl) (by kernel_rfl)) ?_
  intro W base args ds gs before hval0 hW hcnd _
  have hval : ∀ (j : Nat) t v, Try.f5.params[j]? = some t → args[j]? = some v → Value.okWide Try.prog W .any base t v := hval0
  have hW' := hW
  obtain ⟨p, q, hA0, hV, rfl, hfz, hnd⟩ := hW
  have hA : DataW.TrodAll enc Try.prog W 0 (fun _ => true) true Try.f5.params.toList args.toList ds p := hA0
  rw [Try.params5] at hA hval
  obtain ⟨v0, vs0, d0, ds0, p0, q0, hargs, rfl, rfl, h0, r0⟩ := trodAll_cons hA
  obtain ⟨v1, vs1, d1, ds1, p1, q1, rfl, rfl, rfl, h1, r1⟩ := trodAll_cons r0
  obtain ⟨v2, vs2, d2, ds2, p2, q2, rfl, rfl, rfl, h2, r2⟩ := trodAll_cons r1
  obtain ⟨rfl, rfl, rfl⟩ := trodAll_nil r2
  obtain rfl : args = #[v0, v1, v2] := by cases args; simp_all
  obtain ⟨rfl, rfl⟩ := trodVars_none hV
  have k0 := h0
  have lt0 : ∀ x ∈ p0, x.block < W.heap.size := by obtain ⟨m, hm⟩ := k0; exact DataW.trod_lt m _ _ _ hm
  obtain ⟨c00, c01, y00, y01, m0, rfl, hd0, hp0, hy00, hy01⟩ := open_agg2 Try.underlying34 (by kernel_rfl) (by kernel_rfl) (hval 0 34 v0 rfl rfl) h0
  clear hd0 hp0
  obtain ⟨a1, len1, cap1, z1, e1, w1⟩ := ints_of_trod Try.underlying32 Try.underlying5 (by kernel_rfl) hy00
  subst e1
  obtain ⟨a2, e2, _, w2⟩ := DataW.trod_int Try.underlying3 hy01
  simp only [List.cons.injEq, and_true] at e2
  subst e2
  have k1 := h1
  have lt1 : ∀ x ∈ p1, x.block < W.heap.size := by obtain ⟨m, hm⟩ := k1; exact DataW.trod_lt m _ _ _ hm
  obtain ⟨a3, len3, cap3, rfl⟩ := okWide_slice Try.underlying22 (hval 1 22 v1 rfl rfl)
  obtain ⟨z3, w3⟩ : ∃ zs, IsRow .i64 W a3 len3 cap3 zs := by
    obtain ⟨fuel, hf⟩ := h1
    obtain ⟨a', l', c', zs, he, hr⟩ := ints_of_trod Try.underlying22 Try.underlying3 (by kernel_rfl) (show DataW.trod enc Try.prog W 0 (fun _ => true) true fuel 22 [.slice a3 len3 cap3] = _ from hf)
    simp only [Value.slice.injEq] at he
    obtain ⟨rfl, rfl, rfl⟩ := he
    exact ⟨zs, hr⟩
  obtain ⟨a4, rfl, rfl, rfl, w4⟩ := open_int Try.underlying3 (hval 2 3 v2 rfl rfl) h2
  clear hA0 hval0
  refine (walk a1 len1 cap1 z1 a2 a3 len3 cap3 z3 a4 W w1 w2 w3 w4).mono fun e W' ⟨he, bel⟩ => ?_
  subst he
  exact ⟨_, rfl, _, _, _, [], _, [], hW', trodAll_mk1 (shut_bool Try.underlying4 _), (trodAll_cons_mk (Below.trod laidOut (by kernel_rfl) (of_decide_eq_true (by kernel_rfl)) k0 bel lt0) (trodAll_cons_mk (Below.trod laidOut (by kernel_rfl) (of_decide_eq_true (by kernel_rfl)) k1 bel lt1) (trodAll_cons_mk (shut_int Try.underlying3 w4) trodAll_mk0))), rfl, bel.frame _, fun h => by cases h⟩

theorem over : Rows.huffWritesRow.holds Try.pinned (OpenSpec.ofChange Rows.huffWritesSpec) :=
  OpenClaim.holds_of_wide 5 Try.f5 rfl rfl rfl rfl rfl rfl rfl ⟨rfl, rfl, rfl, rfl, rfl⟩ rfl rfl rfl rfl rfl (by kernel_rfl) Try.func5 (by kernel_rfl)
    (of_decide_eq_true (by kernel_rfl)) (by unfold Func.isWrapper; first | (rw [if_pos (by decide +kernel)]; kernel_rfl) | (rw [if_neg (by decide +kernel)]; exact ⟨rfl, rfl⟩))
    (fun os started H enc _ => lifted os started H enc)

theorem proved : Rows.HuffWritesSaid := over
#print axioms proved
end Go.Proofs.Ytnlahpnpajadpaa.huffWrites
