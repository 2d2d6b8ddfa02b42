/- The Go function of the statement CoderShort returns true at every input, and leaves each argument as it read. No condition. -/
import Derived.Test.YtocccimlojeaeaaCx
import Derived.Deep.RegionHeld3
import Derived.Deep.CutRange
import Derived.Deep.DeepCutAuto
import Derived.ProofKit
import Derived.OpenShut
import Derived.ShutString
import Derived.ChangeOld
import Derived.Lib.SmallJoins
namespace Go.Proofs.Ytocccimlojeaeaa.coderShort
open Go.ChangeShapes Go.WideShapes Go.ChangeAt Go.RowKit Go.Joins
set_option linter.unusedVariables false
set_option linter.unusedSimpArgs false

theorem own : ownKnob Try.prog.godebug = none := by kernel_rfl
theorem laidOut : laidOutB Try.prog = true := by kernel_rfl

set_option maxRecDepth 100000 in
set_option maxHeartbeats 4000000 in
theorem walk (a0 : Option Addr) (len0 cap0 : Nat) (z0 y0 x0 : Nat → Int) (w : World) (w0 : IsTriples .i64 .i64 .i64 w a0 len0 z0 y0 x0) :
    Calls Try.prog 9 #[.slice a0 len0 cap0] w fun e w' => e = .returned (.bool true) ∧ Below w.heap.size w w' := by
  obtain ⟨hlen, hP⟩ := w0
  unfold maxLen at hlen
  go_enter Try.func9, Try.ntmps9
  go_wp2_with (go_at_call 33; refine (new_any _).mono ?_; rintro e w1 ⟨rfl, hb1⟩)
  have hwz := hb1.size
  go_loopw [4, 5, 6] (fun nv rv i wr => ∃ (j n S : Nat) (K : List (Nat × Nat × Nat)) (E : En) (a : Option Addr) (c : Nat), j ≤ 300 ∧ j ≤ len0 ∧ nv = .int .i64 n ∧ rv = .int .i64 (1 + (S : Int)) ∧ i = .int .i64 j ∧ n ≤ j ∧ S ≤ 16 * n ∧ Hid (K.length = n) ∧ Hid (sumB K = S) ∧ Hid (E = puts En.new K) ∧ Hid (Fairs K) ∧ E.Ok ∧ B3 wr w1.heap.size (.int .u64 E.low) (.int .u32 E.R) (.slice a E.m c) ∧ RwF (w1.heap.size + 1) .u8 wr (.slice a E.m c) E.out ∧ Below w.heap.size w wr) (fun _ _ i _ => 300 - (intOf i).toNat)
  case atStart => exact ⟨0, 0, 0, [], En.new, none, 0, by omega, by omega, rfl, rfl, rfl, by omega, by omega, rfl, rfl, rfl, (fun _ h => by cases h), En.new_ok, B3.new _ _ _ _ _, ⟨none, 0, rfl, .inl rfl⟩, hb1.alloc hb1.size _⟩
  case round =>
    obtain ⟨j, n, S, K, E, a, c, hj, hjl, rfl, rfl, rfl, hnj, hSn, HKl, HS, HE, HK, hok, hbox, hrow, hbel⟩ := hrel
    have hbz := hbox.z
    by_cases hlt : j < len0 ∧ j < 300
    · obtain ⟨hl1, hl2⟩ := hlt
      obtain ⟨b, off, rfl, hb, hc⟩ := hP.resolve_left (by omega)
      obtain ⟨c0, c1, c2, v0, v1, v2⟩ := hc j hl1
      have hbr : b < wr.heap.size := Nat.lt_of_lt_of_le hb hbel.size
      have d0 := (hbel.cell (p := ⟨b, off + j * 3, none⟩) hb).trans c0
      have d1 := (hbel.cell (p := ⟨b, off + j * 3 + 1, none⟩) hb).trans c1
      have d2 := (hbel.cell (p := ⟨b, off + j * 3 + 2, none⟩) hb).trans c2
      generalize z0 j = p0 at d0
      generalize y0 j = p1 at d1
      generalize x0 j = p2 at d2
      clear c0 c1 c2 v0 v1 v2 hc hP
      have hput := fun W h => put_all E.low E.R a E.m c E p0 p1 p2 W h
      have HPC : Hid _ := put_cases E p0 p1 p2
      have hFok := putE_ok hok p0 p1 p2
      have hev := hok.ev hrow.rw
      generalize putE E p0 p1 p2 = F at hput HPC hFok
      generalize putF E p0 p1 p2 = er at hput HPC
      go_wp2
      go_cut [7, 8] (fun p6 p7 wz => ∃ x9 c9, p7 = .int .i64 er ∧ RwF wr.heap.size .u8 wz (.slice x9 F.m c9) F.out ∧ Made3 wr wz p6 (.int .u64 F.low) (.int .u32 F.R) (.slice x9 F.m c9))
      case first =>
        go_region_held3 (fun w' => w'.cell? ⟨w1.heap.size, 0, none⟩ = some (.int .u64 E.low) ∧ w'.cell? ⟨w1.heap.size, 1, none⟩ = some (.int .u32 E.R) ∧ w'.cell? ⟨w1.heap.size, 2, none⟩ = some (.slice a E.m c) ∧ w'.cell? ⟨b, off + j * 3, none⟩ = some (.int .i64 p0) ∧ w'.cell? ⟨b, off + j * 3 + 1, none⟩ = some (.int .i64 p1) ∧ w'.cell? ⟨b, off + j * 3 + 2, none⟩ = some (.int .i64 p2)) (exact held6 (by first | exact (Below.refl _ _).drew | exact ((Below.refl _ _).alloc (Nat.le_refl _) _).drew | exact hy1 | exact hy1.alloc hy1.size _ | exact bset3 hy1 _ _ _ _ (Nat.le_refl _)) hbox hbr d0 d1 d2) (first | (go_at_call 12; refine (hput _ (hev.below (by first | exact (Below.refl _ _).drew | exact ((Below.refl _ _).alloc (Nat.le_refl _) _).drew | exact hy1 | exact hy1.alloc hy1.size _ | exact bset3 hy1 _ _ _ _ (Nat.le_refl _)))).mono ?_; rintro e y1 ⟨x9, c9, rfl, r9, e1⟩; have q9 := RwF.of_owns r9; have hy1 : Below wr.heap.size wr y1 := bthen' (by first | exact (Below.refl _ _).drew | exact ((Below.refl _ _).alloc (Nat.le_refl _) _).drew | exact hy1 | exact hy1.alloc hy1.size _ | exact bset3 hy1 _ _ _ _ (Nat.le_refl _)) e1; obtain ⟨hcA, hfA⟩ := bcell e1))
        all_goals go_wp2
        all_goals go_meet
        all_goals first | exact ⟨x9, c9, rfl, row_after q9 _, made3_after hy1⟩ | exact ⟨x9, c9, rfl, row_before3 q9 _ _ _, made3_before e1⟩
      case rest =>
        obtain ⟨x9, c9, rfl, r9, bx, rfl, hbx, mlo, mbel⟩ := hcut
        have hbw : Below w.heap.size w wc := bthen hbel mbel hbel.size
        have hbox2 := hbox.below mbel
        have f0 := ((bcell mbel).1 b (off + j * 3) hbr).trans d0
        have f1 := ((bcell mbel).1 b (off + j * 3 + 1) hbr).trans d1
        have f2 := ((bcell mbel).1 b (off + j * 3 + 2) hbr).trans d2
        have hmz := mbel.size
        clear hbox hrow d0 d1 d2 hput hev hbel mbel
        obtain ⟨bz, b0, b1, b2, g0, g1, g2⟩ := id hbx
        obtain ⟨ez, e0, e1, e2, eg0, eg1, eg2⟩ := id hbox2
        rcases HPC.out with ⟨l, h, t, rfl, rfl, rfl, hfair, hF, her⟩ | ⟨hF, her⟩
        · subst her
          have HF : Hid (F = E.put l h t) := hF
          clear hF HPC
          have ht1 : 1 ≤ t := by have := hfair.lt; have := hfair.le; omega
          have ht2 := hfair.top
          obtain ⟨x, rfl⟩ : ∃ x, t = x + 1 := ⟨t - 1, by omega⟩
          have hlog := fun W => rlog_any 16 (by decide) x W (show x < 65536 by omega)
          have hwb : wb (x + 1) = nb 16 x := rfl
          have hnb := nb_le 16 x
          have HS2 : Hid (sumB (K ++ [(l, h, x + 1)]) = S + nb 16 x) := by unfold Hid; rw [sumB_snoc, HS.out, hwb]
          have HK3 : Hid ((K ++ [(l, h, x + 1)]).length = n + 1) := by unfold Hid; rw [List.length_append, List.length_singleton, HKl.out]
          have HE2 : Hid (F = puts En.new (K ++ [(l, h, x + 1)])) := by unfold Hid; rw [puts_snoc, ← HE.out]; exact HF.out
          have HK2 : Hid (Fairs (K ++ [(l, h, x + 1)])) := HK.out.snoc hfair
          clear hwb
          generalize nb 16 x = L at *
          rw [show ((x + 1 : Nat) : Int) = (x : Int) + 1 by omega] at f2
          have hx : (x : Int) < 65536 := by omega
          clear ht1 ht2
          go_wp2_with (go_at_call 34; refine (hlog _).mono ?_; rintro e w2 ⟨rfl, rfl⟩)
          refine ⟨⟨j + 1, n + 1, S + L, K ++ [(l, h, x + 1)], F, x9, c9, by omega, by omega, by go_num, ?_, by go_num, by omega, by omega, HK3, HS2, HE2, HK2, hFok, hbox2.set _ _ _, (((r9.mono (show w1.heap.size + 1 ≤ wr.heap.size by omega)).set _ _ _ (by omega)).set _ _ _ (by omega)).set _ _ _ (by omega), bset3 hbw _ _ _ _ hwz⟩, by simp [intOf]; omega⟩
          congr 1
          omega
        · have HF : Hid (F = E) := hF
          clear hF HPC
          go_wp2
          go_roundw
          case rel => exact ⟨j + 1, n, S, K, F, x9, c9, by omega, by omega, by go_num, by go_num, by go_num, by omega, by omega, HKl, HS, by unfold Hid; rw [HF.out]; exact HE.out, HK, hFok, hbox2.set _ _ _, (((r9.mono (show w1.heap.size + 1 ≤ wr.heap.size by omega)).set _ _ _ (by omega)).set _ _ _ (by omega)).set _ _ _ (by omega), bset3 hbw _ _ _ _ hwz⟩
          case measure => simp [intOf]; omega
    · obtain ⟨ez, e0, e1, e2, eg0, eg1, eg2⟩ := id hbox
      have hshort := short_enough HK.out
      rw [← HE.out, HS.out, HKl.out] at hshort
      have hm := hok.le
      obtain ⟨A, hA⟩ : ∃ A : Nat, n / 100 = A := ⟨_, rfl⟩
      have hdiv : ((n : Int).tdiv 100) = (A : Int) := by rw [← hA]; rfl
      rw [hA] at hshort
      have hA2 : A ≤ 3 := by omega
      clear hA
      generalize E.m = M at *
      have hle : 8 * (M : Int) ≤ 1 + (S : Int) + (A : Int) := by omega
      have hends : (j < len0 ∧ 300 ≤ j) ∨ len0 ≤ j := by omega
      clear hrow hP hok hlt hshort
      rcases hends with ⟨hl, hl2⟩ | hl
      all_goals
        go_wp2_with (go_at_call 11; refine (knows_any _).mono ?_; rintro e w9 ⟨rfl, hb9⟩)
        go_ret
        exact ⟨rfl, bthen hbel hb9 hbel.size⟩


set_option maxRecDepth 100000 in
theorem lifted (os : Os) (started : os.Started) (H : Type) (enc : TypeId × Value → H) :
    ReturnsInHanded {} Try.checked os 9 .any (Rows.coderShortSpec.pre6 enc Try.prog Try.f9 Rows.coderShortRow.domain false) (Rows.coderShortSpec.post enc Try.prog Try.f9 false true false false) := by
  refine returnsInHanded_of_change (C := Try.checked) own started (by kernel_rfl) Try.func9
    (ChangeSpec.witness6 (enc := enc) (C := Try.checked) false ⟨#[], #[.slice none 0 0], []⟩ 8 (by kernel_rfl) (by kernel_rfl) (by kernel_rfl) (by kernel_rfl)) ?_
  intro W base args ds gs before hval0 hW hcnd _
  have hval : ∀ (j : Nat) t v, Try.f9.params[j]? = some t → args[j]? = some v → Value.okWide Try.prog W .any base t v := hval0
  have hW' := hW
  obtain ⟨p, q, hA0, hV, rfl, hfz, hnd⟩ := hW
  have hA : DataW.TrodAll enc Try.prog W 0 (fun _ => true) true Try.f9.params.toList args.toList ds p := hA0
  rw [Try.params9] at hA hval
  obtain ⟨v0, vs0, d0, ds0, p0, q0, hargs, rfl, rfl, h0, r0⟩ := trodAll_cons hA
  obtain ⟨rfl, rfl, rfl⟩ := trodAll_nil r0
  obtain rfl : args = #[v0] := by cases args; simp_all
  obtain ⟨rfl, rfl⟩ := trodVars_none hV
  have k0 := h0
  have lt0 : ∀ x ∈ p0, x.block < W.heap.size := by obtain ⟨m, hm⟩ := k0; exact DataW.trod_lt m _ _ _ hm
  obtain ⟨a0, len0, cap0, rfl⟩ := okWide_slice Try.underlying66 (hval 0 66 v0 rfl rfl)
  obtain ⟨z0, y0, x0, w0⟩ : ∃ z0 z1 z2, IsTriples .i64 .i64 .i64 W a0 len0 z0 z1 z2 := by
    obtain ⟨fuel, hf⟩ := h0
    exact triples_of_trod Try.underlying66 Try.underlying69 (by kernel_rfl) rfl rfl rfl (by kernel_rfl) (by kernel_rfl) (by kernel_rfl) (by exact Try.underlying3) (by exact Try.underlying3) (by exact Try.underlying3) (show DataW.trod enc Try.prog W 0 (fun _ => true) true fuel 66 [.slice a0 len0 cap0] = _ from hf)
  clear hA0 hval0
  refine (walk a0 len0 cap0 z0 y0 x0 W w0).mono fun e W' ⟨he, bel⟩ => ?_
  subst he
  exact ⟨_, rfl, _, _, _, [], _, [], hW', trodAll_mk1 (shut_bool Try.underlying4 _), (trodAll_cons_mk (Below.trod laidOut (by kernel_rfl) (of_decide_eq_true (by kernel_rfl)) k0 bel lt0) trodAll_mk0), rfl, bel.frame _, fun h => by cases h⟩

theorem over : Rows.coderShortRow.holds Try.pinned (OpenSpec.ofChange Rows.coderShortSpec) :=
  OpenClaim.holds_of_wide 9 Try.f9 rfl rfl rfl rfl rfl rfl rfl ⟨rfl, rfl, rfl, rfl, rfl⟩ rfl rfl rfl rfl rfl (by kernel_rfl) Try.func9 (by kernel_rfl)
    (of_decide_eq_true (by kernel_rfl)) (by unfold Func.isWrapper; first | (rw [if_pos (by decide +kernel)]; kernel_rfl) | (rw [if_neg (by decide +kernel)]; exact ⟨rfl, rfl⟩))
    (fun os started H enc _ => lifted os started H enc)

theorem proved : Rows.CoderShortSaid := over
#print axioms proved
end Go.Proofs.Ytocccimlojeaeaa.coderShort
