/- The Go function of the statement BandOwn returns true at every input, and leaves each argument as it read. No condition. -/
import Derived.Test.YtpmpdikabdaagaaIg
import Derived.ProofKit
import Derived.OpenShut
import Derived.ShutString
import Derived.ChangeOld
import Derived.Lib.SmallJoins
namespace Go.Proofs.Ytpmpdikabdaagaa.bandOwn
open Go.ChangeShapes Go.WideShapes Go.ChangeAt Go.RowKit Go.Joins
set_option linter.unusedVariables false
set_option linter.unusedSimpArgs false

theorem own : ownKnob Try.prog.godebug = none := by kernel_rfl
theorem laidOut : laidOutB Try.prog = true := by kernel_rfl

set_option maxRecDepth 10000 in
set_option maxHeartbeats 2000000 in
theorem walk (a0 : Int) (w : World) (w0 : (Lit.int .i64 a0).wf = true) :
    Calls Try.prog 8 #[.int .i64 a0] w fun e w' => e = .returned (.bool true) ∧ Below w.heap.size w w' := by
  by_cases hr : 1 ≤ a0 ∧ a0 ≤ 41
  · obtain ⟨G, rfl⟩ : ∃ G : Nat, a0 = G := ⟨a0.toNat, by omega⟩
    obtain ⟨h1, h2⟩ := hr
    have h1 : 1 ≤ G := by omega
    have h2 : G ≤ 41 := by omega
    obtain ⟨o1, o2⟩ := own_gain h1 h2
    have hv1 := fun w => value_any (G : Int) w
    rw [show vlI (G : Int) = ((vl G : Nat) : Int) by unfold vlI; simp] at hv1
    generalize vl G = V at *
    have hfx : fairX [(V : Int)] = true := fairX_true (by simp) (by simp) fun i hi => by
      have : i = 0 := by simpa using hi
      subst this
      simp; omega
    have hgn : gn [(V : Int)] = bitN (V * V) := by unfold gn; simp [sq]
    have hg1 : ∀ w, Calls Try.prog 17 #[.slice (some ⟨w.heap.size, 0, none⟩) 1 1] (w.alloc (.cells #[.int .i64 V] 2)) fun e w' => e = .returned (.tuple #[.int .i64 (bitN (V * V) : Nat), .int .i64 0]) ∧ Below w.heap.size w w' := fun w => by
      refine (gain_ok (some ⟨w.heap.size, 0, none⟩) 1 [(V : Int)] (w.alloc (.cells #[.int .i64 V] 2)) (Rw.of_row (e := 2) (cur := [(V : Int)]) (heap_alloc_last w _) rfl) (fits_fair hfx) hfx (by simp)).mono ?_
      rintro e w' ⟨rfl, rfl⟩
      exact ⟨by rw [hgn], below1 _ _⟩
    generalize bitN (V * V) = K at *
    clear hgn hfx w0
    rcases o2 with o3 | ⟨o3, o4⟩
    · subst o3
      go_enter Try.func8, Try.ntmps8
      go_wp2_with (first | (go_at_call 13; refine (hv1 _).mono ?_; rintro e w9 ⟨rfl, h9⟩; have h9 := h9.symm; subst h9) | (go_at_call 17; refine (hg1 _).mono ?_; rintro e w1 ⟨rfl, hb1⟩) | (go_at_call 15; refine (knows_any _).mono ?_; rintro e wk ⟨rfl, hbk⟩))
      go_ret
      exact ⟨rfl, bthen' hb1 hbk⟩
    · subst o4
      have e1 : ((K + 1 : Nat) : Int) = (K : Int) + 1 := by omega
      rw [e1] at hv1 ⊢
      have c1 : ((K : Int) == (K : Int) + 1) = false := by simp; omega
      have c2 : (((K : Int) + 1) % 2 == 0) = true := by simp; omega
      clear e1 o3
      go_enter Try.func8, Try.ntmps8
      go_wp2_with (first | (go_at_call 13; refine (hv1 _).mono ?_; rintro e w9 ⟨rfl, h9⟩; have h9 := h9.symm; subst h9) | (go_at_call 17; refine (hg1 _).mono ?_; rintro e w1 ⟨rfl, hb1⟩) | (go_at_call 15; refine (knows_any _).mono ?_; rintro e wk ⟨rfl, hbk⟩))
      go_ret
      exact ⟨rfl, bthen' hb1 hbk⟩
  · have hcase : a0 < 1 ∨ 41 < a0 := by omega
    rcases hcase with h1 | h1
    · go_enter Try.func8, Try.ntmps8
      go_wp2_with (go_at_call 15; refine (knows_any _).mono ?_; rintro e wk ⟨rfl, hbk⟩)
      go_ret
      exact ⟨rfl, hbk⟩
    · have h2 : 1 ≤ a0 := by omega
      go_enter Try.func8, Try.ntmps8
      go_wp2_with (go_at_call 15; refine (knows_any _).mono ?_; rintro e wk ⟨rfl, hbk⟩)
      go_ret
      exact ⟨rfl, hbk⟩


set_option maxRecDepth 100000 in
theorem lifted (os : Os) (started : os.Started) (H : Type) (enc : TypeId × Value → H) :
    ReturnsInHanded {} Try.checked os 8 .any (Rows.bandOwnSpec.pre6 enc Try.prog Try.f8 Rows.bandOwnRow.domain false) (Rows.bandOwnSpec.post enc Try.prog Try.f8 false true false false) := by
  refine returnsInHanded_of_change (C := Try.checked) own started (by kernel_rfl) Try.func8
    (ChangeSpec.witness6 (enc := enc) (C := Try.checked) false ⟨#[], #[.int .i64 0], []⟩ 8 (by kernel_rfl) (by kernel_rfl) (by kernel_rfl) (by kernel_rfl)) ?_
  intro W base args ds gs before hval0 hW hcnd _
  have hval : ∀ (j : Nat) t v, Try.f8.params[j]? = some t → args[j]? = some v → Value.okWide Try.prog W .any base t v := hval0
  have hW' := hW
  obtain ⟨p, q, hA0, hV, rfl, hfz, hnd⟩ := hW
  have hA : DataW.TrodAll enc Try.prog W 0 (fun _ => true) true Try.f8.params.toList args.toList ds p := hA0
  rw [Try.params8] at hA hval
  obtain ⟨v0, vs0, d0, ds0, p0, q0, hargs, rfl, rfl, h0, r0⟩ := trodAll_cons hA
  obtain ⟨rfl, rfl, rfl⟩ := trodAll_nil r0
  obtain rfl : args = #[v0] := by cases args; simp_all
  obtain ⟨rfl, rfl⟩ := trodVars_none hV
  obtain ⟨a0, rfl, rfl, rfl, w0⟩ := open_int Try.underlying3 (hval 0 3 v0 rfl rfl) h0
  clear hA0 hval0
  refine (walk a0 W w0).mono fun e W' ⟨he, bel⟩ => ?_
  subst he
  exact ⟨_, rfl, _, _, _, [], _, [], hW', trodAll_mk1 (shut_bool Try.underlying4 _), (trodAll_cons_mk (shut_int Try.underlying3 w0) trodAll_mk0), rfl, bel.frame _, fun h => by cases h⟩

theorem over : Rows.bandOwnRow.holds Try.pinned (OpenSpec.ofChange Rows.bandOwnSpec) :=
  OpenClaim.holds_of_wide 8 Try.f8 rfl rfl rfl rfl rfl rfl rfl ⟨rfl, rfl, rfl, rfl, rfl⟩ rfl rfl rfl rfl rfl (by kernel_rfl) Try.func8 (by kernel_rfl)
    (of_decide_eq_true (by kernel_rfl)) (by unfold Func.isWrapper; first | (rw [if_pos (by decide +kernel)]; kernel_rfl) | (rw [if_neg (by decide +kernel)]; exact ⟨rfl, rfl⟩))
    (fun os started H enc _ => lifted os started H enc)

theorem proved : Rows.BandOwnSaid := over
#print axioms proved
end Go.Proofs.Ytpmpdikabdaagaa.bandOwn
