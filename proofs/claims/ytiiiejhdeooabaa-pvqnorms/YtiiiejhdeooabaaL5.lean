/- The Go function of the statement PvqNorms returns true at every input, and leaves each argument as it read. No condition. -/
import Derived.Test.YtiiiejhdeooabaaFl
import Derived.Test.YtiiiejhdeooabaaFm
import Derived.ProofKit
import Derived.OpenShut
import Derived.ShutString
import Derived.ChangeOld
import Derived.Lib.SmallJoins
namespace Go.Proofs.Ytiiiejhdeooabaa.pvqNorms
open Go.ChangeShapes Go.WideShapes Go.ChangeAt Go.RowKit Go.Joins
set_option linter.unusedVariables false
set_option linter.unusedSimpArgs false

theorem own : ownKnob Try.prog.godebug = none := by kernel_rfl
theorem laidOut : laidOutB Try.prog = true := by kernel_rfl

theorem ps_zero (y : List Int) (h : ∀ i, i < y.length → y.getD i 0 = 0) : ps y = 0 := by
  induction y with
  | nil => rfl
  | cons v t ih =>
    have h0 := h 0 (by simp)
    have h1 := ih fun i hi => by have := h (i + 1) (by simpa using hi); simpa using this
    simp only [ps]
    simp at h0
    rw [h0, h1]
    rfl
theorem sq_pos (y : List Int) (h : 1 ≤ ps y) : 1 ≤ sq y y.length := by
  by_cases c : sq y y.length = 0
  · have := ps_zero y fun i hi => sq_zero y y.length c i hi
    omega
  · omega
set_option maxRecDepth 10000 in
set_option maxHeartbeats 2000000 in
theorem walk (a0 : Option Addr) (len0 cap0 : Nat) (z0 : List Int) (a1 : Int) (w : World) (w0 : IsRow .i64 w a0 len0 cap0 z0) (w1 : (Lit.int .i64 a1).wf = true) :
    Calls Try.prog 7 #[.slice a0 len0 cap0, .int .i64 a1] w fun e w' => e = .returned (.bool true) ∧ Below w.heap.size w w' := by
  obtain ⟨y, rfl, hv, hwf⟩ := row_rw_any w0
  have hf := fits_of hwf
  clear hwf w0
  have hr64 := i64_of w1
  unfold I64 at hr64
  obtain ⟨hr1, hr2⟩ := hr64
  clear w1
  by_cases hg : 16 < y.length
  · have hg2 : (16 : Int) < y.length := by omega
    go_enter Try.func7, Try.ntmps7
    go_wp2_with (go_at_call 9; refine (knows_any _).mono ?_; rintro e w9 ⟨rfl, hb9⟩)
    go_ret
    exact ⟨rfl, hb9⟩
  have hg2 : ¬ ((16 : Int) < (y.length : Int)) := by omega
  have hpul := fun w hv => rpulses_any (.slice a0 y.length cap0) y w hv hf (by omega)
  by_cases hp0 : rps y = 0
  · rw [hp0] at hpul
    go_enter Try.func7, Try.ntmps7
    go_wp2_with (first | (go_at_call 17; refine (hpul _ hv).mono ?_; rintro e w3 ⟨rfl, h3⟩; have h3 := h3.symm; subst h3) | (go_at_call 9; refine (knows_any _).mono ?_; rintro e w9 ⟨rfl, hb9⟩))
    go_ret
    exact ⟨rfl, hb9⟩
  have hz0 : ((rps y : Int) == 0) = false := by simp; omega
  by_cases hbad : okB y = false ∨ a1 < 0 ∨ 4194304 < a1
  · have hno := fun w hv => shape_no (.slice a0 y.length cap0) y a1 w hv hf hbad
    generalize rps y = z at *
    clear hp0 hbad
    go_enter Try.func7, Try.ntmps7
    go_wp2_with (first | (go_at_call 17; refine (hpul _ hv).mono ?_; rintro e w3 ⟨rfl, h3⟩; have h3 := h3.symm; subst h3) | (go_at_call 16; refine (hno _ hv).mono ?_; rintro e w2 ⟨rfl, hb2⟩) | (go_at_call 9; refine (knows_any _).mono ?_; rintro e w9 ⟨rfl, hb9⟩))
    go_ret
    exact ⟨rfl, bthen' hb2 hb9⟩
  have hok : okB y = true := by
    cases h : okB y
    · exact absurd (.inl h) hbad
    · rfl
  have r1 : 0 ≤ a1 := by omega
  have r2 : a1 ≤ 4194304 := by omega
  obtain ⟨o1, o2, o3⟩ := okB_parts hok
  have hps : 1 ≤ ps y := by
    have := rps_ok y o3
    omega
  have hN := sq_pos y hps
  obtain ⟨s, hs⟩ := root_any (65536 * sq y y.length)
  have hC1 := fun w hv => shape_ok (.slice a0 y.length cap0) y a1 s w hv hf hok r1 r2 hs
  have hzle : ∀ i, -a1 ≤ (tab y.length (shf y a1 s)).getD i 0 ∧ (tab y.length (shf y a1 s)).getD i 0 ≤ a1 := fun i => by
    by_cases hi : i < y.length
    · rw [tab_at _ _ i hi]; exact shf_le y a1 s y.length i r1 hN hs hi
    · rw [tab_out _ _ i hi]; omega
  obtain ⟨t, ht⟩ := root_any (sq (tab y.length (shf y a1 s)) y.length)
  have hnorm := shape_norm y a1 s y.length t (by omega) r1 hN hs ht
  have hlen : Hid ((tab y.length (shf y a1 s)).length = y.length) := tab_len _ _
  generalize tab y.length (shf y a1 s) = Y at *
  have hfY : Fits Y := fun j => by have := hzle j; omega
  have hrz : ((rps y : Int) == 0) = false := hz0
  generalize rps y = z at *
  cases hx : fairX Y
  · have hbig : (1043576 : Int) < a1 := by
      by_cases c : (1043576 : Int) < a1
      · exact c
      · exfalso
        have : fairX Y = true := fairX_true (by rw [hlen.out]; omega) (by rw [hlen.out]; omega) fun i _ => by have := hzle i; omega
        rw [this] at hx
        cases hx
    clear hs ht hnorm hzle hp0 hbad
    go_enter Try.func7, Try.ntmps7
    go_wp2_with (first | (go_at_call 17; refine (hpul _ hv).mono ?_; rintro e w3 ⟨rfl, h3⟩; have h3 := h3.symm; subst h3) | (go_at_call 16; refine (hC1 _ hv).mono ?_; rintro e w2 ⟨g2, rfl, _, hr2, hb2⟩; have HR2 := hid hr2; clear hr2) | (go_at_call 10; refine (square_no _ Y _ (HR2.out.rw hlen.out) hfY hx).mono ?_; rintro e w4 ⟨rfl, h4⟩; have h4 := h4.symm; subst h4) | (go_at_call 9; refine (knows_any _).mono ?_; rintro e w9 ⟨rfl, hb9⟩))
    go_ret
    exact ⟨rfl, bthen' hb2 hb9⟩
  have hsq := sq_le Y 4194304 (fun j => by have := hzle j; omega) Y.length
  rw [hlen.out] at hsq
  have hsq2 : sq Y y.length ≤ 281474976710656 := by omega
  have hC2 := fun w g (hb : Blk .i64 2 w g Y) => square_ok (.slice (some ⟨g, 0, none⟩) y.length y.length) Y w (hb.rw hlen.out) hfY hx
  rw [hlen.out] at hC2
  have hrt := fun w => rootR (sq Y y.length) t (by omega) ht w
  have ht32 : t < 4294967296 := by
    by_cases c : t < 4294967296
    · exact c
    · have h1 : 4294967296 * 4294967296 ≤ t * t := Nat.mul_le_mul (by omega) (by omega)
      have := ht.1
      omega
  generalize sq Y y.length = M at *
  obtain ⟨q, hq⟩ : ∃ q, a1 / 255 = q := ⟨_, rfl⟩
  have hqt : a1.tdiv 255 = q := by rw [Int.tdiv_eq_ediv_of_nonneg r1]; exact hq
  rw [hq] at hnorm
  have q1 : 0 ≤ q := by omega
  have q2 : q ≤ 16449 := by omega
  obtain ⟨n1, n2⟩ := hnorm
  obtain ⟨T, hT⟩ : ∃ T : Int, (t : Int) = T := ⟨_, rfl⟩
  rw [hT] at n1 n2
  simp only [hT] at hrt
  have T1 : 0 ≤ T := by omega
  have T2 : T < 4294967296 := by omega
  clear hs ht hzle hp0 hbad hsq hsq2 hT hN hps ht32
  by_cases hneg : T - a1 < 0
  · go_enter Try.func7, Try.ntmps7
    go_wp2_with (first | (go_at_call 17; refine (hpul _ hv).mono ?_; rintro e w3 ⟨rfl, h3⟩; have h3 := h3.symm; subst h3) | (go_at_call 16; refine (hC1 _ hv).mono ?_; rintro e w2 ⟨g2, rfl, _, hr2, hb2⟩; have HR2 := hid hr2; clear hr2) | (go_at_call 10; refine (hC2 _ _ HR2.out).mono ?_; rintro e w4 ⟨rfl, h4⟩; have h4 := h4.symm; subst h4) | (go_at_call 20; refine (hrt _).mono ?_; rintro e w5 ⟨rfl, h5⟩; have h5 := h5.symm; subst h5) | (go_at_call 9; refine (knows_any _).mono ?_; rintro e w9 ⟨rfl, hb9⟩))
    go_ret
    exact ⟨rfl, bthen' hb2 hb9⟩
  · go_enter Try.func7, Try.ntmps7
    go_wp2_with (first | (go_at_call 17; refine (hpul _ hv).mono ?_; rintro e w3 ⟨rfl, h3⟩; have h3 := h3.symm; subst h3) | (go_at_call 16; refine (hC1 _ hv).mono ?_; rintro e w2 ⟨g2, rfl, _, hr2, hb2⟩; have HR2 := hid hr2; clear hr2) | (go_at_call 10; refine (hC2 _ _ HR2.out).mono ?_; rintro e w4 ⟨rfl, h4⟩; have h4 := h4.symm; subst h4) | (go_at_call 20; refine (hrt _).mono ?_; rintro e w5 ⟨rfl, h5⟩; have h5 := h5.symm; subst h5) | (go_at_call 9; refine (knows_any _).mono ?_; rintro e w9 ⟨rfl, hb9⟩))
    go_ret
    exact ⟨rfl, bthen' hb2 hb9⟩


set_option maxRecDepth 100000 in
theorem lifted (os : Os) (started : os.Started) (H : Type) (enc : TypeId × Value → H) :
    ReturnsInHanded {} Try.checked os 7 .any (Rows.pvqNormsSpec.pre6 enc Try.prog Try.f7 Rows.pvqNormsRow.domain false) (Rows.pvqNormsSpec.post enc Try.prog Try.f7 false true false false) := by
  refine returnsInHanded_of_change (C := Try.checked) own started (by kernel_rfl) Try.func7
    (ChangeSpec.witness6 (enc := enc) (C := Try.checked) false ⟨#[], #[.slice none 0 0, .int .i64 0], []⟩ 8 (by kernel_rfl) (by kernel_rfl) (by kernel_rfl) (by kernel_rfl)) ?_
  intro W base args ds gs before hval0 hW hcnd _
  have hval : ∀ (j : Nat) t v, Try.f7.params[j]? = some t → args[j]? = some v → Value.okWide Try.prog W .any base t v := hval0
  have hW' := hW
  obtain ⟨p, q, hA0, hV, rfl, hfz, hnd⟩ := hW
  have hA : DataW.TrodAll enc Try.prog W 0 (fun _ => true) true Try.f7.params.toList args.toList ds p := hA0
  rw [Try.params7] at hA hval
  obtain ⟨v0, vs0, d0, ds0, p0, q0, hargs, rfl, rfl, h0, r0⟩ := trodAll_cons hA
  obtain ⟨v1, vs1, d1, ds1, p1, q1, rfl, rfl, rfl, h1, r1⟩ := trodAll_cons r0
  obtain ⟨rfl, rfl, rfl⟩ := trodAll_nil r1
  obtain rfl : args = #[v0, v1] := by cases args; simp_all
  obtain ⟨rfl, rfl⟩ := trodVars_none hV
  have k0 := h0
  have lt0 : ∀ x ∈ p0, x.block < W.heap.size := by obtain ⟨m, hm⟩ := k0; exact DataW.trod_lt m _ _ _ hm
  obtain ⟨a0, len0, cap0, rfl⟩ := okWide_slice Try.underlying30 (hval 0 30 v0 rfl rfl)
  obtain ⟨z0, w0⟩ : ∃ zs, IsRow .i64 W a0 len0 cap0 zs := by
    obtain ⟨fuel, hf⟩ := h0
    obtain ⟨a', l', c', zs, he, hr⟩ := ints_of_trod Try.underlying30 Try.underlying3 (by kernel_rfl) (show DataW.trod enc Try.prog W 0 (fun _ => true) true fuel 30 [.slice a0 len0 cap0] = _ from hf)
    simp only [Value.slice.injEq] at he
    obtain ⟨rfl, rfl, rfl⟩ := he
    exact ⟨zs, hr⟩
  obtain ⟨a1, rfl, rfl, rfl, w1⟩ := open_int Try.underlying2 (hval 1 2 v1 rfl rfl) h1
  clear hA0 hval0
  refine (walk a0 len0 cap0 z0 a1 W w0 w1).mono fun e W' ⟨he, bel⟩ => ?_
  subst he
  exact ⟨_, rfl, _, _, _, [], _, [], hW', trodAll_mk1 (shut_bool Try.underlying4 _), (trodAll_cons_mk (Below.trod laidOut (by kernel_rfl) (of_decide_eq_true (by kernel_rfl)) k0 bel lt0) (trodAll_cons_mk (shut_int Try.underlying2 w1) trodAll_mk0)), rfl, bel.frame _, fun h => by cases h⟩

theorem over : Rows.pvqNormsRow.holds Try.pinned (OpenSpec.ofChange Rows.pvqNormsSpec) :=
  OpenClaim.holds_of_wide 7 Try.f7 rfl rfl rfl rfl rfl rfl rfl ⟨rfl, rfl, rfl, rfl, rfl⟩ rfl rfl rfl rfl rfl (by kernel_rfl) Try.func7 (by kernel_rfl)
    (of_decide_eq_true (by kernel_rfl)) (by unfold Func.isWrapper; first | (rw [if_pos (by decide +kernel)]; kernel_rfl) | (rw [if_neg (by decide +kernel)]; exact ⟨rfl, rfl⟩))
    (fun os started H enc _ => lifted os started H enc)

theorem proved : Rows.PvqNormsSaid := over
#print axioms proved
end Go.Proofs.Ytiiiejhdeooabaa.pvqNorms
