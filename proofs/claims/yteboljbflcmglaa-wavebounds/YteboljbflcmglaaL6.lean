/- The Go function of the statement WaveBounds returns true at every input, and leaves each argument as it read. No condition. -/
import Derived.Test.YteboljbflcmglaaGh
import Derived.ProofKit
import Derived.OpenShut
import Derived.ShutString
import Derived.ChangeOld
import Derived.Lib.SmallJoins
namespace Go.Proofs.Yteboljbflcmglaa.waveBounds
open Go.ChangeShapes Go.WideShapes Go.ChangeAt Go.RowKit Go.Joins
set_option linter.unusedVariables false
set_option linter.unusedSimpArgs false

theorem own : ownKnob Try.prog.godebug = none := by kernel_rfl
theorem laidOut : laidOutB Try.prog = true := by kernel_rfl

set_option maxRecDepth 10000 in
set_option maxHeartbeats 2000000 in
theorem walk (a0 : Option Addr) (len0 cap0 : Nat) (z0 : List Int) (w : World) (w0 : IsRow .i64 w a0 len0 cap0 z0) :
    Calls Try.prog 8 #[.slice a0 len0 cap0] w fun e w' => e = .returned (.bool true) ∧ Below w.heap.size w w' := by
  have hcap := row_le w0
  obtain ⟨x, rfl, hv, hwf⟩ := row_rw_any w0
  have hf := fits_of hwf
  clear hwf w0
  have hgr := fun w => great_any a0 x.length cap0 w
  by_cases hg : 200 < x.length
  · rw [decide_eq_true hg] at hgr
    go_enter Try.func8, Try.ntmps8
    go_wp2_with (first | (go_at_call 9; refine (hgr _).mono ?_; rintro e wg ⟨rfl, hwg⟩; have hwg := hwg.symm; subst hwg) | (go_at_call 10; refine (knows_any _).mono ?_; rintro e w9 ⟨rfl, hb9⟩))
    go_ret
    exact ⟨rfl, hb9⟩
  rw [decide_eq_false hg] at hgr
  have hg2 : x.length ≤ 200 := by omega
  cases hx : okS 16777216 x
  · have hno := fun w hv => forward_no (.slice a0 x.length cap0) x w hv hf hg2 hx
    clear hx
    go_enter Try.func8, Try.ntmps8
    go_wp2_with (first | (go_at_call 9; refine (hgr _).mono ?_; rintro e wg ⟨rfl, hwg⟩; have hwg := hwg.symm; subst hwg) | (go_at_call 11; refine (hno _ hv).mono ?_; rintro e w2 ⟨rfl, h2⟩; have h2 := h2.symm; subst h2) | (go_at_call 10; refine (knows_any _).mono ?_; rintro e w9 ⟨rfl, hb9⟩))
    go_ret
    exact ⟨rfl, hb9⟩
  obtain ⟨k, hk, hl, hb⟩ := okS_parts hx
  have hC1 := fun w hv => forward_ok (.slice a0 x.length cap0) x k w hv hk hl hb hf
  have HBN : Hid (∀ lo hi, Bd lo hi x → (lo ≤ (fw (k + 1) x).getD 0 0 ∧ (fw (k + 1) x).getD 0 0 ≤ hi) ∧ ∀ j, 1 ≤ j → j < x.length → lo - hi ≤ (fw (k + 1) x).getD j 0 ∧ (fw (k + 1) x).getD j 0 ≤ hi - lo) := fun lo hi h => by
    rw [hl]
    exact fw_bounds (k + 1) lo hi x hl h
  have hlen : (fw (k + 1) x).length = x.length := by rw [hl]; exact fw_len _ _ hl
  have hl2 : x.length ≤ 32 := by rw [hl]; exact Nat.pow_le_pow_right (n := 2) (j := 5) (by decide) hk
  have hl1 : 0 < x.length := by have : 0 < 2 ^ (k + 1) := Nat.pow_pos (by decide); omega
  generalize fw (k + 1) x = Y at *
  have HLEN := hid hlen
  have HBD := hid hb
  obtain ⟨a', cap', he, ha⟩ := id hv
  simp only [Value.slice.injEq] at he
  obtain ⟨rfl, _, rfl⟩ := he
  obtain ⟨b, off, rfl, hlt, hc⟩ := ha.resolve_left (by intro h; subst h; simp at hl1)
  clear ha hl hb hx hlen hk
  obtain ⟨n, hn⟩ : ∃ n, x.length = n := ⟨_, rfl⟩
  have HN := hid hn
  have HC : Hid (∀ i, i < n → w.cell? ⟨b, off + i, none⟩ = some (.int .i64 (x.getD i 0))) := by rw [← hn]; exact hc
  have HB2 : Hid (∀ i, i < n → -16777216 ≤ x.getD i 0 ∧ x.getD i 0 ≤ 16777216) := by rw [← hn]; exact HBD.out
  rw [hn] at hl1 hl2 hC1 hgr hv HBN HLEN ⊢
  clear hn hc HBD hg hg2 hcap hf
  have p0 : ((n : Int) == 0) = false := by simp; omega
  have p1 : (0 : Int) < (n : Int) := by omega
  go_enter Try.func8, Try.ntmps8
  go_wp2_with (first | (go_at_call 9; refine (hgr _).mono ?_; rintro e wg ⟨rfl, hwg⟩; have hwg := hwg.symm; subst hwg) | (go_at_call 11; refine (hC1 _ hv).mono ?_; rintro e w2 ⟨g2, rfl, _, hr2, hb2⟩; have HR2 := hid hr2; clear hr2; have g0 := (hb2.cell (p := ⟨b, off + 0, none⟩) hlt).trans (HC.out 0 hl1); rw [Nat.add_zero] at g0))
  have HB3 := hid hb2
  obtain ⟨u1, u2⟩ := HB2.out 0 hl1
  generalize hu0 : x.getD 0 0 = u0 at *
  clear hC1 hgr hv hu0 hb2
  go_quiet (fail)
  have HB4 : Hid (Below w.heap.size w (w2.drewN nq)) := drewN_below HB3.out nq
  have HR4 : Hid (Blk .i64 2 (w2.drewN nq) g2 Y) := HR2.out.below (drewN_below (Below.refl w2.heap.size w2) nq)
  generalize w2.drewN nq = w4 at *
  clear g0 HB3 HR2
  go_wp2
  go_loop [5, 6, 7] (fun l h i => ∃ (j : Nat) (lo hi : Int), j ≤ n ∧ i = .int .i64 j ∧ l = .int .i64 lo ∧ h = .int .i64 hi ∧ (-16777216 ≤ lo ∧ lo ≤ 16777216 ∧ -16777216 ≤ hi ∧ hi ≤ 16777216) ∧ ∀ i, i < j → lo ≤ x.getD i 0 ∧ x.getD i 0 ≤ hi) (fun _ _ i => n - (intOf i).toNat)
  case atStart => exact ⟨0, u0, u0, by omega, rfl, rfl, rfl, ⟨u1, u2, u1, u2⟩, fun i hi => by omega⟩
  case round =>
    obtain ⟨j, lo, hi, hj, rfl, rfl, rfl, hbb, hall⟩ := hrel
    have HA := hid hall
    obtain ⟨l1, l2, l3, l4⟩ := hbb
    clear hall
    by_cases hl : j < n
    · have g := (HB4.out.cell (p := ⟨b, off + j, none⟩) hlt).trans (HC.out j hl)
      obtain ⟨v1, v2⟩ := HB2.out j hl
      have HNX : Hid (∀ lo' hi', lo' ≤ lo → hi ≤ hi' → lo' ≤ x.getD j 0 → x.getD j 0 ≤ hi' → ∀ i, i < j + 1 → lo' ≤ x.getD i 0 ∧ x.getD i 0 ≤ hi') := fun lo' hi' e1 e2 e3 e4 i hi9 => by
        by_cases e : i = j
        · subst e; exact ⟨e3, e4⟩
        · have := HA.out i (by omega)
          omega
      generalize x.getD j 0 = u at *
      by_cases c1 : u < lo
      · by_cases c2 : hi < u
        · go_wp2
          exact ⟨⟨j + 1, u, u, by omega, by go_num, rfl, rfl, ⟨by omega, by omega, by omega, by omega⟩, HNX.out u u (by omega) (by omega) (by omega) (by omega)⟩, by simp [intOf]; omega⟩
        · go_wp2
          exact ⟨⟨j + 1, u, hi, by omega, by go_num, rfl, rfl, ⟨by omega, by omega, by omega, by omega⟩, HNX.out u hi (by omega) (by omega) (by omega) (by omega)⟩, by simp [intOf]; omega⟩
      · by_cases c2 : hi < u
        · go_wp2
          exact ⟨⟨j + 1, lo, u, by omega, by go_num, rfl, rfl, ⟨by omega, by omega, by omega, by omega⟩, HNX.out lo u (by omega) (by omega) (by omega) (by omega)⟩, by simp [intOf]; omega⟩
        · go_wp2
          exact ⟨⟨j + 1, lo, hi, by omega, by go_num, rfl, rfl, ⟨by omega, by omega, by omega, by omega⟩, HNX.out lo hi (by omega) (by omega) (by omega) (by omega)⟩, by simp [intOf]; omega⟩
    · obtain ⟨y1, y2⟩ := HBN.out lo hi (fun i hi9 => HA.out i (by rw [HN.out] at hi9; omega))
      have HY2 := hid y2
      obtain ⟨y3, y4⟩ := y1
      have g1 := HR4.out.cell 0 (by rw [HLEN.out]; exact hl1)
      generalize Y.getD 0 0 = y0 at *
      clear HBN HA y2
      go_wp2
      clear g1
      go_loop [8] (fun i => ∃ p : Nat, 1 ≤ p ∧ p ≤ n ∧ i = .int .i64 p) (fun i => n - (intOf i).toNat)
      case atStart => exact ⟨1, by omega, by omega, rfl⟩
      case round =>
        obtain ⟨p, hp1, hp2, rfl⟩ := hrel
        by_cases hl3 : p < n
        · have g1 := HR4.out.cell p (by rw [HLEN.out]; exact hl3)
          obtain ⟨z1, z2⟩ := HY2.out p hp1 hl3
          generalize Y.getD p 0 = z at *
          go_wp2
          exact ⟨⟨p + 1, by omega, by omega, by go_num⟩, by simp [intOf]; omega⟩
        · go_wp2_with (first | (go_at_call 10; refine (knows_any _).mono ?_; rintro e w9 ⟨rfl, hb9⟩))
          go_ret
          exact ⟨rfl, bthen' HB4.out hb9⟩


set_option maxRecDepth 100000 in
theorem lifted (os : Os) (started : os.Started) (H : Type) (enc : TypeId × Value → H) :
    ReturnsInHanded {} Try.checked os 8 .any (Rows.waveBoundsSpec.pre6 enc Try.prog Try.f8 Rows.waveBoundsRow.domain false) (Rows.waveBoundsSpec.post enc Try.prog Try.f8 false true false false) := by
  refine returnsInHanded_of_change (C := Try.checked) own started (by kernel_rfl) Try.func8
    (ChangeSpec.witness6 (enc := enc) (C := Try.checked) false ⟨#[], #[.slice none 0 0], []⟩ 8 (by kernel_rfl) (by kernel_rfl) (by kernel_rfl) (by kernel_rfl)) ?_
  intro W base args ds gs before hval0 hW hcnd _
  have hval : ∀ (j : Nat) t v, Try.f8.params[j]? = some t → args[j]? = some v → Value.okWide Try.prog W .any base t v := hval0
  have hW' := hW
  obtain ⟨p, q, hA0, hV, rfl, hfz, hnd⟩ := hW
  have hA : DataW.TrodAll enc Try.prog W 0 (fun _ => true) true Try.f8.params.toList args.toList ds p := hA0
  rw [Try.params8] at hA hval
  obtain ⟨v0, vs0, d0, ds0, p0, q0, hargs, rfl, rfl, h0, r0⟩ := trodAll_cons hA
  obtain ⟨rfl, rfl, rfl⟩ := trodAll_nil r0
  obtain rfl : args = #[v0] := by cases args; simp_all
  obtain ⟨rfl, rfl⟩ := trodVars_none hV
  have k0 := h0
  have lt0 : ∀ x ∈ p0, x.block < W.heap.size := by obtain ⟨m, hm⟩ := k0; exact DataW.trod_lt m _ _ _ hm
  obtain ⟨a0, len0, cap0, rfl⟩ := okWide_slice Try.underlying22 (hval 0 22 v0 rfl rfl)
  obtain ⟨z0, w0⟩ : ∃ zs, IsRow .i64 W a0 len0 cap0 zs := by
    obtain ⟨fuel, hf⟩ := h0
    obtain ⟨a', l', c', zs, he, hr⟩ := ints_of_trod Try.underlying22 Try.underlying2 (by kernel_rfl) (show DataW.trod enc Try.prog W 0 (fun _ => true) true fuel 22 [.slice a0 len0 cap0] = _ from hf)
    simp only [Value.slice.injEq] at he
    obtain ⟨rfl, rfl, rfl⟩ := he
    exact ⟨zs, hr⟩
  clear hA0 hval0
  refine (walk a0 len0 cap0 z0 W w0).mono fun e W' ⟨he, bel⟩ => ?_
  subst he
  exact ⟨_, rfl, _, _, _, [], _, [], hW', trodAll_mk1 (shut_bool Try.underlying4 _), (trodAll_cons_mk (Below.trod laidOut (by kernel_rfl) (of_decide_eq_true (by kernel_rfl)) k0 bel lt0) trodAll_mk0), rfl, bel.frame _, fun h => by cases h⟩

theorem over : Rows.waveBoundsRow.holds Try.pinned (OpenSpec.ofChange Rows.waveBoundsSpec) :=
  OpenClaim.holds_of_wide 8 Try.f8 rfl rfl rfl rfl rfl rfl rfl ⟨rfl, rfl, rfl, rfl, rfl⟩ rfl rfl rfl rfl rfl (by kernel_rfl) Try.func8 (by kernel_rfl)
    (of_decide_eq_true (by kernel_rfl)) (by unfold Func.isWrapper; first | (rw [if_pos (by decide +kernel)]; kernel_rfl) | (rw [if_neg (by decide +kernel)]; exact ⟨rfl, rfl⟩))
    (fun os started H enc _ => lifted os started H enc)

theorem proved : Rows.WaveBoundsSaid := over
#print axioms proved
end Go.Proofs.Yteboljbflcmglaa.waveBounds
