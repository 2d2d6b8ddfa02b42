/- The Go function of the statement SumSums returns true at every input, and leaves each argument as it read. No condition. -/
import Derived.Test.YtdadkmklfphleaaWd
import Derived.Deep.RegionHeld3
import Derived.ProofKit
import Derived.OpenShut
import Derived.ShutString
import Derived.ChangeOld
import Derived.Lib.SmallJoins
namespace Go.Proofs.Ytdadkmklfphleaa.sumSums
open Go.ChangeShapes Go.WideShapes Go.ChangeAt Go.RowKit Go.Joins
set_option linter.unusedVariables false
set_option linter.unusedSimpArgs false

theorem own : ownKnob Try.prog.godebug = none := by kernel_rfl
theorem laidOut : laidOutB Try.prog = true := by kernel_rfl

theorem info5 : (Try.prog.info? 5).map (fun i => (i.zero, i.size, i.bytes)) = some (some (.int .u8 0), 1, 1) := by kernel_rfl
set_option maxRecDepth 10000 in
set_option maxHeartbeats 1000000 in
theorem walk (a0 : Option Addr) (len0 cap0 : Nat) (z0 : List Int) (w : World) (w0 : IsRow .u8 w a0 len0 cap0 z0) :
    Calls Try.prog 4 #[.slice a0 len0 cap0] w fun e w' => e = .returned (.bool true) ∧ Below w.heap.size w w' := by
  obtain ⟨xs, rfl, hrw, hx⟩ := row_rw w0
  have hcap : a0 = none → cap0 = 0 := row_cap w0
  obtain ⟨i0, hi, hz0, hz1, hz2⟩ := info_parts info5
  by_cases hg : 5000 < xs.length
  · have hd : decide (5000 < xs.length) = true := decide_eq_true hg
    go_enter Try.func4, Try.ntmps4
    go_wp2_with (first | (go_at_call 11; refine (great_any _ _ _ _).mono ?_; rintro e w' ⟨rfl, rfl⟩; rw [hd]) | (go_at_call 10; refine (knows_any _).mono ?_; rintro e w' ⟨rfl, hb⟩))
    go_ret
    exact ⟨rfl, hb⟩
  have hd : decide (5000 < xs.length) = false := decide_eq_false hg
  have hl : xs.length ≤ 5000 := by omega
  clear hg
  go_enter Try.func4, Try.ntmps4
  go_wp2_with (first | (go_at_call 11; refine (great_any _ _ _ _).mono ?_; rintro e w' ⟨rfl, rfl⟩; rw [hd]) | (go_at_call 8; refine (table_any _).mono ?_; rintro e w1 ⟨g, rfl, hg, hrow, hb1⟩) | (at_builtin; refine wpList_append_rw rfl _ _ 28 rfl w1.heap.size 5 i0 (.int .u8 0) 1 Try.underlying28 hi hz0 hz1 hz2 rfl .u8 _ 0 [] rfl (World.ownsRow_lit w1 #[] 0 (Nat.le_refl _) (by decide) rfl) a0 cap0 xs rfl ?c1 hcap ?c2 ?c3 ?c4 ?_))
  case c1 => exact (hrw.below hb1).below (below1 _ _)
  case c2 => unfold maxLen; omega
  case c3 => omega
  case c4 => simp
  intro v2 w2 hown hgrow
  have hA : Below w1.heap.size w1 w2 := (below1 w1 (.cells #[] 5)).grown hgrow (by simp) (fun k hk => by simp [Value.ownBlock] at hk; omega)
  have hB := bthen hb1 hA hb1.size
  have hcopy := Rw.of_owns hown
  have htab := tab_rw (c := 256) (row_below hrow hA)
  have hrw2 := hrw.below hB
  obtain ⟨a2, c2, rfl, _⟩ := id hcopy
  clear hown hgrow hA hrow hb1
  go_wp2_with (first | (go_at_call 12; refine (sum_tab _ _ xs _ htab hcopy hx hl).mono ?_; rintro e w3 ⟨rfl, hb3⟩) | (go_at_call 13; refine (sumR_any _ xs _ (hrw2.below hb3) hx hl).mono ?_; rintro e w' ⟨rfl, rfl⟩) | (go_at_call 10; refine (knows_any _).mono ?_; rintro e w4 ⟨rfl, hb4⟩))
  go_ret
  have hC := bthen hB hb3 hB.size
  exact ⟨rfl, bthen hC hb4 hC.size⟩


set_option maxRecDepth 100000 in
theorem lifted (os : Os) (started : os.Started) (H : Type) (enc : TypeId × Value → H) :
    ReturnsInHanded {} Try.checked os 4 .any (Rows.sumSumsSpec.pre6 enc Try.prog Try.f4 Rows.sumSumsRow.domain false) (Rows.sumSumsSpec.post enc Try.prog Try.f4 false true false false) := by
  refine returnsInHanded_of_change (C := Try.checked) own started (by kernel_rfl) Try.func4
    (ChangeSpec.witness6 (enc := enc) (C := Try.checked) false ⟨#[], #[.slice none 0 0], []⟩ 8 (by kernel_rfl) (by kernel_rfl) (by kernel_rfl) (by kernel_rfl)) ?_
  intro W base args ds gs before hval0 hW hcnd _
  have hval : ∀ (j : Nat) t v, Try.f4.params[j]? = some t → args[j]? = some v → Value.okWide Try.prog W .any base t v := hval0
  have hW' := hW
  obtain ⟨p, q, hA0, hV, rfl, hfz, hnd⟩ := hW
  have hA : DataW.TrodAll enc Try.prog W 0 (fun _ => true) true Try.f4.params.toList args.toList ds p := hA0
  rw [Try.params4] at hA hval
  obtain ⟨v0, vs0, d0, ds0, p0, q0, hargs, rfl, rfl, h0, r0⟩ := trodAll_cons hA
  obtain ⟨rfl, rfl, rfl⟩ := trodAll_nil r0
  obtain rfl : args = #[v0] := by cases args; simp_all
  obtain ⟨rfl, rfl⟩ := trodVars_none hV
  have k0 := h0
  have lt0 : ∀ x ∈ p0, x.block < W.heap.size := by obtain ⟨m, hm⟩ := k0; exact DataW.trod_lt m _ _ _ hm
  obtain ⟨a0, len0, cap0, rfl⟩ := okWide_slice Try.underlying28 (hval 0 28 v0 rfl rfl)
  obtain ⟨z0, w0⟩ : ∃ zs, IsRow .u8 W a0 len0 cap0 zs := by
    obtain ⟨fuel, hf⟩ := h0
    obtain ⟨a', l', c', zs, he, hr⟩ := ints_of_trod Try.underlying28 Try.underlying5 (by kernel_rfl) (show DataW.trod enc Try.prog W 0 (fun _ => true) true fuel 28 [.slice a0 len0 cap0] = _ from hf)
    simp only [Value.slice.injEq] at he
    obtain ⟨rfl, rfl, rfl⟩ := he
    exact ⟨zs, hr⟩
  clear hA0 hval0
  refine (walk a0 len0 cap0 z0 W w0).mono fun e W' ⟨he, bel⟩ => ?_
  subst he
  exact ⟨_, rfl, _, _, _, [], _, [], hW', trodAll_mk1 (shut_bool Try.underlying4 _), (trodAll_cons_mk (Below.trod laidOut (by kernel_rfl) (of_decide_eq_true (by kernel_rfl)) k0 bel lt0) trodAll_mk0), rfl, bel.frame _, fun h => by cases h⟩

theorem over : Rows.sumSumsRow.holds Try.pinned (OpenSpec.ofChange Rows.sumSumsSpec) :=
  OpenClaim.holds_of_wide 4 Try.f4 rfl rfl rfl rfl rfl rfl rfl ⟨rfl, rfl, rfl, rfl, rfl⟩ rfl rfl rfl rfl rfl (by kernel_rfl) Try.func4 (by kernel_rfl)
    (of_decide_eq_true (by kernel_rfl)) (by unfold Func.isWrapper; first | (rw [if_pos (by decide +kernel)]; kernel_rfl) | (rw [if_neg (by decide +kernel)]; exact ⟨rfl, rfl⟩))
    (fun os started H enc _ => lifted os started H enc)

theorem proved : Rows.SumSumsSaid := over
#print axioms proved
end Go.Proofs.Ytdadkmklfphleaa.sumSums
