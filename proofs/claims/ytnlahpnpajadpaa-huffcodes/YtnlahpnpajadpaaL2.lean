/- The Go function of the statement HuffCodes returns true at every input, and leaves each argument as it read. No condition. -/
import Derived.Test.YtnlahpnpajadpaaXk
import Derived.Deep.RegionWith
import Derived.Deep.CutRange
import Derived.Deep.DeepCutAuto
import Derived.BigQuiet
import Derived.ProofKit
import Derived.OpenShut
import Derived.ShutString
import Derived.ChangeOld
import Derived.Lib.SmallJoins
namespace Go.Proofs.Ytnlahpnpajadpaa.huffCodes
open Go.ChangeShapes Go.WideShapes Go.ChangeAt Go.RowKit Go.Joins
set_option linter.unusedVariables false
set_option linter.unusedSimpArgs false

theorem own : ownKnob Try.prog.godebug = none := by kernel_rfl
theorem laidOut : laidOutB Try.prog = true := by kernel_rfl

set_option maxRecDepth 10000 in
set_option maxHeartbeats 4000000 in
theorem walk (a0 : Option Addr) (len0 cap0 : Nat) (z0 : List Int) (w : World) (w0 : IsRow .i64 w a0 len0 cap0 z0) :
    Calls Try.prog 4 #[.slice a0 len0 cap0] w fun e w' => e = .returned (.bool true) ∧ Below w.heap.size w w' := by
  obtain ⟨l, rfl, hl, _⟩ := row_rw_any w0
  clear w0
  by_cases hg : 200 < l.length
  · have hg2 : (200 : Int) < l.length := by omega
    go_enter Try.func4, Try.ntmps4
    go_wp2_with (go_at_call 10; refine (knows_any _).mono ?_; rintro e w9 ⟨rfl, hb9⟩)
    go_ret
    exact ⟨rfl, hb9⟩
  have hg2 : (l.length : Int) ≤ 200 := by omega
  clear hg
  cases hr : rightL l
  · go_enter Try.func4, Try.ntmps4
    go_wp2_with (first | (go_at_call 13; refine (codes_no _ l _ hl hr).mono ?_; rintro e w' ⟨rfl, rfl⟩) | (go_at_call 12; refine (rright4_any _ l _ hl).mono ?_; rintro e w' ⟨rfl, rfl⟩; rw [hr]) | (go_at_call 10; refine (knows_any _).mono ?_; rintro e w9 ⟨rfl, hb9⟩))
    go_ret
    exact ⟨rfl, hb9⟩
  have hl0 := hl
  obtain ⟨a, c, he, hal⟩ := hl
  simp only [Value.slice.injEq, true_and] at he
  obtain ⟨rfl, rfl⟩ := he
  have hl1 := (right_parts hr).1
  have hl2 := (right_parts hr).2.1
  obtain ⟨b, off, rfl, hbl, hcl⟩ := hal.resolve_left (by intro h0; subst h0; simp at hl1)
  clear hal
  have HR : Hid _ := hr
  go_enter Try.func4, Try.ntmps4
  go_wp2_with (first | (go_at_call 13; refine (codes_ok _ l _ hl0 hr).mono ?_; rintro e w1 ⟨g, rfl, hrow, hb1⟩) | (go_at_call 12; refine (rright4_any _ l _ (hl0.below hb1)).mono ?_; rintro e w' ⟨rfl, rfl⟩; rw [hr]))
  obtain ⟨ga, gcap, gv, grow⟩ := hrow
  obtain ⟨gb, goff, ge, gB, gsz, gcell⟩ := grow.resolve_left (by intro h; have := codes_len l; rw [h] at this; simp at this; omega)
  simp only [Value.slice.injEq] at gv
  obtain ⟨rfl, ge1, ge2⟩ := gv
  clear ge1 ge2
  simp only [Option.some.injEq, Addr.mk.injEq] at ge
  obtain ⟨rfl, rfl, _⟩ := ge
  clear grow
  have hgc : Hid (∀ s, s < l.length → w'.cell? ⟨g, s, none⟩ = some (.int .u32 (codeAt l s))) := fun s hs => by
    have := gcell s (by rw [codes_len]; exact hs)
    rw [Nat.zero_add, codes_at l s hs] at this; exact this
  clear gcell hr
  go_loopw [5] (fun i wr => ∃ k : Nat, k ≤ l.length ∧ i = .int .i64 k ∧ Below w'.heap.size w' wr) (fun i _ => l.length - (intOf i).toNat)
  case atStart => exact ⟨0, by omega, rfl, Below.refl _ _⟩
  case round =>
    obtain ⟨k, hk, rfl, hnx⟩ := hrel
    have hBw := bthen hb1 hnx hb1.size
    by_cases hlt : k < l.length
    · have g1 := (hBw.cell (p := ⟨b, off + k, none⟩) hbl).trans (hcl k hlt)
      have g2 := (hnx.cell (p := ⟨g, k, none⟩) gsz).trans (hgc.out k hlt)
      unfold codeAt at g2
      have i1 : (0 : Int) ≤ (k : Int) := by omega
      have i2 : (k : Int) < (l.length : Int) := by omega
      have i3 : IntKind.i64.wrap (k : Int) = k := wraps_i64 _ (by omega) (by omega)
      have hbk := inB_at (right_parts HR.out).2.2.1 k
      by_cases h0 : 0 < l.getD k 0
      · rw [if_pos h0] at g2
        have hcd := code_any _ l k wr.drew ((hl0.below hBw).below (Below.refl _ _).drew) HR.out hlt h0
        have hpw := cd_pow_right HR.out k hlt h0
        generalize l.getD k 0 = x at g1 h0 hbk hcd hpw
        obtain ⟨n, rfl⟩ := Int.eq_ofNat_of_zero_le hbk.1
        rw [Int.toNat_natCast] at hcd hpw
        generalize cd l k = C at g2 hcd hpw
        have HP : Hid _ := hpw
        clear hpw
        have hn0 : (((n : Int)) == 0) = false := by simp; omega
        have hn1 : 0 < n := by omega
        have hn2 : n ≠ 0 := by omega
        have hn3 : ¬ ((n : Int) = 0) := by omega
        go_wp2
        go_cut [72] (fun ok wz => ok = .bool false ∧ Below wr.heap.size wr wz)
        case first =>
          first | (go_region_with (first | (go_at_call 15; refine hcd.mono ?_; rintro e y1 ⟨v1, rfl, hown1, hy1'⟩; have hy1 := drew_below hy1'; obtain ⟨a1, c1, rfl, _⟩ := owns_open hown1; have g3 := ((bcell hy1).1 _ _ (Nat.lt_of_lt_of_le gsz hnx.size)).trans g2; have hc9 := Rw.of_owns hown1; have hy2 := hy1) | (go_at_call 14; refine (number_any _ C n _ hc9 (by omega) HP.out).mono ?_; rintro e y2 ⟨rfl, rfl⟩))) | fail
          all_goals go_wp2
          all_goals go_meet
          all_goals exact ⟨rfl, hy2⟩
        case rest =>
          obtain ⟨rfl, hy⟩ := hcut
          go_wp2
          exact ⟨⟨k + 1, by omega, by go_num, bthen hnx hy hnx.size⟩, by simp [intOf]; omega⟩
      · rw [if_neg h0] at g2
        have hx0 : l.getD k 0 = 0 := by omega
        rw [hx0] at g1
        clear h0 hx0 hbk
        go_wp2
        go_quiet (fail)
        go_wp2
        exact ⟨⟨k + 1, by omega, by go_num, drewN_below _ hnx _⟩, by simp [intOf]; omega⟩
    · have hkl : k = l.length := by omega
      subst hkl
      clear hlt hcl hgc
      go_wp2_with (go_at_call 10; refine (knows_any _).mono ?_; rintro e w9 ⟨rfl, hb9⟩)
      go_ret
      exact ⟨rfl, bthen hBw hb9 hBw.size⟩


set_option maxRecDepth 100000 in
theorem lifted (os : Os) (started : os.Started) (H : Type) (enc : TypeId × Value → H) :
    ReturnsInHanded {} Try.checked os 4 .any (Rows.huffCodesSpec.pre6 enc Try.prog Try.f4 Rows.huffCodesRow.domain false) (Rows.huffCodesSpec.post enc Try.prog Try.f4 false true false false) := by
  refine returnsInHanded_of_change (C := Try.checked) own started (by kernel_rfl) Try.func4
    (ChangeSpec.witness6 (enc := enc) (C := Try.checked) false ⟨#[], #[.slice none 0 0], []⟩ 8 (by kernel_rfl) (by kernel_rfl) (by kernel_rfl) (by kernel_rfl)) ?_
  intro W base args ds gs before hval0 hW hcnd _
  have hval : ∀ (j : Nat) t v, Try.f4.params[j]? = some t → args[j]? = some v → Value.okWide Try.prog W .any base t v := hval0
  have hW' := hW
  obtain ⟨p, q, hA0, hV, rfl, hfz, hnd⟩ := hW
  have hA : DataW.TrodAll enc Try.prog W 0 (fun _ => true) true Try.f4.params.toList args.toList ds p := hA0
  rw [Try.params4] at hA hval
  obtain ⟨v0, vs0, d0, ds0, p0, q0, hargs, rfl, rfl, h0, r0⟩ := trodAll_cons hA
  obtain ⟨rfl, rfl, rfl⟩ := trodAll_nil r0
  obtain rfl : args = #[v0] := by cases args; simp_all
  obtain ⟨rfl, rfl⟩ := trodVars_none hV
  have k0 := h0
  have lt0 : ∀ x ∈ p0, x.block < W.heap.size := by obtain ⟨m, hm⟩ := k0; exact DataW.trod_lt m _ _ _ hm
  obtain ⟨a0, len0, cap0, rfl⟩ := okWide_slice Try.underlying22 (hval 0 22 v0 rfl rfl)
  obtain ⟨z0, w0⟩ : ∃ zs, IsRow .i64 W a0 len0 cap0 zs := by
    obtain ⟨fuel, hf⟩ := h0
    obtain ⟨a', l', c', zs, he, hr⟩ := ints_of_trod Try.underlying22 Try.underlying3 (by kernel_rfl) (show DataW.trod enc Try.prog W 0 (fun _ => true) true fuel 22 [.slice a0 len0 cap0] = _ from hf)
    simp only [Value.slice.injEq] at he
    obtain ⟨rfl, rfl, rfl⟩ := he
    exact ⟨zs, hr⟩
  clear hA0 hval0
  refine (walk a0 len0 cap0 z0 W w0).mono fun e W' ⟨he, bel⟩ => ?_
  subst he
  exact ⟨_, rfl, _, _, _, [], _, [], hW', trodAll_mk1 (shut_bool Try.underlying4 _), (trodAll_cons_mk (Below.trod laidOut (by kernel_rfl) (of_decide_eq_true (by kernel_rfl)) k0 bel lt0) trodAll_mk0), rfl, bel.frame _, fun h => by cases h⟩

theorem over : Rows.huffCodesRow.holds Try.pinned (OpenSpec.ofChange Rows.huffCodesSpec) :=
  OpenClaim.holds_of_wide 4 Try.f4 rfl rfl rfl rfl rfl rfl rfl ⟨rfl, rfl, rfl, rfl, rfl⟩ rfl rfl rfl rfl rfl (by kernel_rfl) Try.func4 (by kernel_rfl)
    (of_decide_eq_true (by kernel_rfl)) (by unfold Func.isWrapper; first | (rw [if_pos (by decide +kernel)]; kernel_rfl) | (rw [if_neg (by decide +kernel)]; exact ⟨rfl, rfl⟩))
    (fun os started H enc _ => lifted os started H enc)

theorem proved : Rows.HuffCodesSaid := over
#print axioms proved
end Go.Proofs.Ytnlahpnpajadpaa.huffCodes
