/- The Go function of the statement GainShort returns true at every input, and leaves each argument as it read. No condition. -/
import Derived.Test.YtkfpphccpkfenaaJj
import Derived.Deep.RegionHeld3
import Derived.Deep.CutRange
import Derived.Deep.DeepCutAuto
import Derived.ProofKit
import Derived.OpenShut
import Derived.ShutString
import Derived.ChangeOld
import Derived.Lib.SmallJoins
namespace Go.Proofs.Ytkfpphccpkfenaa.gainShort
open Go.ChangeShapes Go.WideShapes Go.ChangeAt Go.RowKit Go.Joins
set_option linter.unusedVariables false
set_option linter.unusedSimpArgs false

theorem own : ownKnob Try.prog.godebug = none := by kernel_rfl
theorem laidOut : laidOutB Try.prog = true := by kernel_rfl

set_option maxRecDepth 100000 in
set_option maxHeartbeats 4000000 in
theorem walk (a0 : Option Addr) (len0 cap0 : Nat) (z0 : Nat → List Int) (y0 : Nat → Bool) (w : World) (w0 : IsFms w a0 len0 z0 y0) :
    Calls Try.prog 8 #[.slice a0 len0 cap0] w fun e w' => e = .returned (.bool true) ∧ Below w.heap.size w w' := by
  obtain ⟨hlen, hP⟩ := w0
  unfold maxLen at hlen
  go_enter Try.func8, Try.ntmps8
  go_wp2_with (go_at_call 22; refine (new_any _).mono ?_; rintro e w1 ⟨rfl, hb1⟩)
  have hwz := hb1.size
  have hs1 := B3.new w1 (.int .u64 0) (.int .u32 4294967295) (.slice none 0 0) 26
  have hs2 := hs1.below (below1 _ (.cells #[.int .i64 0, .int .i64 0, .int .i64 0, .int .i64 0, .int .i64 0] 3))
  have hs3 := (hb1.alloc hb1.size (.cells #[.int .u64 0, .int .u32 4294967295, .slice none 0 0] 26))
  have hs4 := hs3.alloc hs3.size (.cells #[.int .i64 0, .int .i64 0, .int .i64 0, .int .i64 0, .int .i64 0] 3)
  have hs5 : Rw .i64 ((w1.alloc (.cells #[.int .u64 0, .int .u32 4294967295, .slice none 0 0] 26)).alloc (.cells #[.int .i64 0, .int .i64 0, .int .i64 0, .int .i64 0, .int .i64 0] 3)) (.slice (some ⟨w1.heap.size + 1, 0, none⟩) 5 5) kZ := by
    have := lit5 (w1.alloc (.cells #[.int .u64 0, .int .u32 4294967295, .slice none 0 0] 26)) 0 0 0 0 0 3
    rw [World.size_alloc] at this
    exact this
  clear hs1 hs3
  go_loopw [4, 5, 6] (fun av rv i wr => ∃ (j : Nat) (K : List (List Int × Bool)) (E : En) (a : Option Addr) (c : Nat) (ag : Option Addr) (cg : Nat) (Y : List Int) (M : Nat), j ≤ 20 ∧ j ≤ len0 ∧ K.length ≤ j ∧ i = .int .i64 j ∧ rv = .int .i64 (M : Nat) ∧ av = .slice ag Y.length cg ∧ Hid (M = mostL K) ∧ M ≤ 45 * j ∧ Hid (Y = lastG kZ K) ∧ Hid (E = puts En.new (frC kZ K)) ∧ Hid (FmsOk K) ∧ E.Ok ∧ B3 wr w1.heap.size (.int .u64 E.low) (.int .u32 E.R) (.slice a E.m c) ∧ Hid (Rw .u8 wr (.slice a E.m c) E.out) ∧ Hid (Rw .i64 wr (.slice ag Y.length cg) Y) ∧ Below w.heap.size w wr) (fun _ _ i _ => 20 - (intOf i).toNat)
  case atStart => exact ⟨0, [], En.new, none, 0, _, 5, kZ, 0, by omega, by omega, by simp, rfl, rfl, rfl, rfl, by omega, rfl, rfl, (fun _ h => by cases h), En.new_ok, hs2, ⟨none, 0, rfl, .inl rfl⟩, hs5, hs4⟩
  case round =>
    clear hs2 hs4 hs5
    obtain ⟨j, K, E, a, c, ag, cg, Y, M, hj, hjl, hKj, rfl, rfl, rfl, HM, hM, HY, HE, HK, hok, hbox, HR, HA, hbel⟩ := hrel
    have hbz := hbox.z
    by_cases hlt : j < len0 ∧ j < 20
    · obtain ⟨hl1, hl2⟩ := hlt
      obtain ⟨b, off, rfl, hb, hc⟩ := hP.resolve_left (by omega)
      obtain ⟨gx, cx, c0, c1, hxr⟩ := hc j hl1
      have hbr : b < wr.heap.size := Nat.lt_of_lt_of_le hb hbel.size
      have d0 := (hbel.cell (p := ⟨b, off + j * 2, none⟩) hb).trans c0
      have d1 := (hbel.cell (p := ⟨b, off + j * 2 + 1, none⟩) hb).trans c1
      have HX := hid (hxr.below hbel)
      have hput := fun W h h1 h2 => gput_any E.low E.R a E.m c E gx (z0 j).length cx (z0 j) ag Y.length cg Y (y0 j) rfl rfl W h h1 h2
      have HPC := hid (frame_cases HK.out HE.out (z0 j) (y0 j))
      rw [← HY.out] at HPC
      have hFok := gpE_ok hok (z0 j) Y (y0 j)
      have hev := hok.ev HR.out
      generalize gpE E (z0 j) Y (y0 j) = F at hput HPC hFok
      generalize gpF E (z0 j) Y (y0 j) = er at hput HPC
      generalize z0 j = xj at *
      generalize y0 j = bj at *
      obtain ⟨nx, hnx⟩ : ∃ n, xj.length = n := ⟨_, rfl⟩
      have HNX := hid hnx
      rw [hnx] at d0 HX hput hxr
      unfold PutP at hput
      clear c0 c1 hc hP hnx hxr
      go_wp2
      go_cut [7, 8] (fun p6 p7 wz => ∃ x9 c9, p7 = .int .i64 er ∧ Rw .u8 wz (.slice x9 F.m c9) F.out ∧ Made3 wr wz p6 (.int .u64 F.low) (.int .u32 F.R) (.slice x9 F.m c9))
      case first =>
        go_region_held3 (fun w' => w'.cell? ⟨w1.heap.size, 0, none⟩ = some (.int .u64 E.low) ∧ w'.cell? ⟨w1.heap.size, 1, none⟩ = some (.int .u32 E.R) ∧ w'.cell? ⟨w1.heap.size, 2, none⟩ = some (.slice a E.m c) ∧ w'.cell? ⟨b, off + j * 2, none⟩ = some (.slice gx nx cx) ∧ w'.cell? ⟨b, off + j * 2 + 1, none⟩ = some (.bool bj)) (exact held5 (by first | exact (Below.refl _ _).drew | exact ((Below.refl _ _).alloc (Nat.le_refl _) _).drew | exact hy1 | exact hy1.alloc hy1.size _ | exact bset3 hy1 _ _ _ _ (Nat.le_refl _)) hbox hbr d0 d1) (first | (go_at_call 11; refine (hput _ (hev.below (by first | exact (Below.refl _ _).drew | exact ((Below.refl _ _).alloc (Nat.le_refl _) _).drew | exact hy1 | exact hy1.alloc hy1.size _ | exact bset3 hy1 _ _ _ _ (Nat.le_refl _))) (HX.out.below (by first | exact (Below.refl _ _).drew | exact ((Below.refl _ _).alloc (Nat.le_refl _) _).drew | exact hy1 | exact hy1.alloc hy1.size _ | exact bset3 hy1 _ _ _ _ (Nat.le_refl _))) (HA.out.below (by first | exact (Below.refl _ _).drew | exact ((Below.refl _ _).alloc (Nat.le_refl _) _).drew | exact hy1 | exact hy1.alloc hy1.size _ | exact bset3 hy1 _ _ _ _ (Nat.le_refl _)))).mono ?_; rintro e y1 ⟨x9, c9, rfl, q9, e1⟩; have hy1 : Below wr.heap.size wr y1 := bthen' (by first | exact (Below.refl _ _).drew | exact ((Below.refl _ _).alloc (Nat.le_refl _) _).drew | exact hy1 | exact hy1.alloc hy1.size _ | exact bset3 hy1 _ _ _ _ (Nat.le_refl _)) e1; obtain ⟨hcA, hfA⟩ := bcell e1))
        all_goals go_wp2
        all_goals go_meet
        all_goals first | exact ⟨x9, c9, rfl, q9.below (below1 _ _), made3_after hy1⟩ | exact ⟨x9, c9, rfl, rw_before3 e1 q9 (fun z => by simp) _ _ _, made3_before e1⟩
      case rest =>
        obtain ⟨x9, c9, rfl, r9, bx, rfl, hbx, mlo, mbel⟩ := hcut
        have hbw : Below w.heap.size w wc := bthen hbel mbel hbel.size
        have hbox2 := hbox.below mbel
        have f0 := ((bcell mbel).1 b (off + j * 2) hbr).trans d0
        have f1 := ((bcell mbel).1 b (off + j * 2 + 1) hbr).trans d1
        have hmz := mbel.size
        have HX2 := hid (HX.out.below mbel)
        have HA2 := hid (HA.out.below mbel)
        have HR2 := hid (HR.out.below mbel)
        clear hbox d0 d1 hput hev hbel mbel HX HA HR
        obtain ⟨bz, b0, b1, b2, g0, g1, g2⟩ := id hbx
        obtain ⟨ez, e0, e1, e2, eg0, eg1, eg2⟩ := id hbox2
        rcases HPC.out with ⟨hgx, her, hF, hK2⟩ | ⟨hF, her⟩
        · subst her
          have HF := hid hF
          have HK2 := hid hK2
          have HM2 : Hid (M + mostB bj = mostL (K ++ [(xj, bj)])) := by unfold Hid; rw [mostL_snoc, ← HM.out]
          have HY2 : Hid (xj = lastG kZ (K ++ [(xj, bj)])) := (lastG_snoc kZ K (xj, bj)).symm
          have hmo := fun W => most_any bj W
          have hm45 : mostB bj ≤ 45 := by unfold mostB; split <;> omega
          generalize mostB bj = mb at *
          clear hF HPC hK2 hgx
          go_wp2_with (go_at_call 26; refine (hmo _).mono ?_; rintro e w9 ⟨rfl, h9⟩; have h9 := h9.symm; subst h9)
          refine ⟨⟨j + 1, K ++ [(xj, bj)], F, x9, c9, gx, cx, xj, M + mb, by omega, by omega, by simp; omega, by go_num, by go_num, by rw [HNX.out], HM2, by omega, HY2, HF, HK2, hFok, hbox2.set _ _ _, hid (hbox2.apart r9 (fun z => by simp) (fun z => by simp) (fun z => by simp) _ _ _), hid (hbox2.apart (by rw [HNX.out]; exact HX2.out) (fun z => by simp) (fun z => by simp) (fun z => by simp) _ _ _), bset3 hbw _ _ _ _ hwz⟩, by simp [intOf]; omega⟩
        · clear hF HPC
          go_wp2
          exact ⟨⟨j + 1, K, E, a, c, ag, cg, Y, M, by omega, by omega, by omega, by go_num, rfl, rfl, HM, by omega, HY, HE, HK, hok, hbox2, HR2, HA2, hbw⟩, by simp [intOf]; omega⟩
    · have hsh := short_frames kZ HK.out (by omega)
      rw [← HE.out, ← HM.out] at hsh
      have hm4 := hok.le
      obtain ⟨ez, e0, e1, e2, eg0, eg1, eg2⟩ := id hbox
      have hends : (j < len0 ∧ 20 ≤ j) ∨ len0 ≤ j := by omega
      clear hbox HR HA HY HE HK HM hP hok hlt hKj
      generalize E.m = mm at *
      have k1 : (8 : Int) * (mm : Int) ≤ (M : Int) + 3 := by omega
      rcases hends with ⟨hl, hl2⟩ | hl
      all_goals
        go_wp2_with (go_at_call 10; refine (knows_any _).mono ?_; rintro e w9 ⟨rfl, hb9⟩)
        go_ret
        exact ⟨rfl, bthen hbel hb9 hbel.size⟩


set_option maxRecDepth 100000 in
theorem lifted (os : Os) (started : os.Started) (H : Type) (enc : TypeId × Value → H) :
    ReturnsInHanded {} Try.checked os 8 .any (Rows.gainShortSpec.pre6 enc Try.prog Try.f8 Rows.gainShortRow.domain false) (Rows.gainShortSpec.post enc Try.prog Try.f8 false true false false) := by
  refine returnsInHanded_of_change (C := Try.checked) own started (by kernel_rfl) Try.func8
    (ChangeSpec.witness6 (enc := enc) (C := Try.checked) false ⟨#[], #[.slice none 0 0], []⟩ 8 (by kernel_rfl) (by kernel_rfl) (by kernel_rfl) (by kernel_rfl)) ?_
  intro W base args ds gs before hval0 hW hcnd _
  have hval : ∀ (j : Nat) t v, Try.f8.params[j]? = some t → args[j]? = some v → Value.okWide Try.prog W .any base t v := hval0
  have hW' := hW
  obtain ⟨p, q, hA0, hV, rfl, hfz, hnd⟩ := hW
  have hA : DataW.TrodAll enc Try.prog W 0 (fun _ => true) true Try.f8.params.toList args.toList ds p := hA0
  rw [Try.params8] at hA hval
  obtain ⟨v0, vs0, d0, ds0, p0, q0, hargs, rfl, rfl, h0, r0⟩ := trodAll_cons hA
  obtain ⟨rfl, rfl, rfl⟩ := trodAll_nil r0
  obtain rfl : args = #[v0] := by cases args; simp_all
  obtain ⟨rfl, rfl⟩ := trodVars_none hV
  have k0 := h0
  have lt0 : ∀ x ∈ p0, x.block < W.heap.size := by obtain ⟨m, hm⟩ := k0; exact DataW.trod_lt m _ _ _ hm
  obtain ⟨a0, len0, cap0, rfl⟩ := okWide_slice Try.underlying53 (hval 0 53 v0 rfl rfl)
  obtain ⟨z0, y0, w0⟩ : ∃ z0 z1, IsFms W a0 len0 z0 z1 := by
    obtain ⟨fuel, hf⟩ := h0
    exact fms_of_trod Try.underlying53 Try.underlying56 (by kernel_rfl) rfl rfl (by kernel_rfl) (by kernel_rfl) (by exact Try.underlying27) (by exact Try.underlying3) (by exact Try.underlying4) (by kernel_rfl) (show DataW.trod enc Try.prog W 0 (fun _ => true) true fuel 53 [.slice a0 len0 cap0] = _ from hf)
  clear hA0 hval0
  refine (walk a0 len0 cap0 z0 y0 W w0).mono fun e W' ⟨he, bel⟩ => ?_
  subst he
  exact ⟨_, rfl, _, _, _, [], _, [], hW', trodAll_mk1 (shut_bool Try.underlying4 _), (trodAll_cons_mk (Below.trod laidOut (by kernel_rfl) (of_decide_eq_true (by kernel_rfl)) k0 bel lt0) trodAll_mk0), rfl, bel.frame _, fun h => by cases h⟩

theorem over : Rows.gainShortRow.holds Try.pinned (OpenSpec.ofChange Rows.gainShortSpec) :=
  OpenClaim.holds_of_wide 8 Try.f8 rfl rfl rfl rfl rfl rfl rfl ⟨rfl, rfl, rfl, rfl, rfl⟩ rfl rfl rfl rfl rfl (by kernel_rfl) Try.func8 (by kernel_rfl)
    (of_decide_eq_true (by kernel_rfl)) (by unfold Func.isWrapper; first | (rw [if_pos (by decide +kernel)]; kernel_rfl) | (rw [if_neg (by decide +kernel)]; exact ⟨rfl, rfl⟩))
    (fun os started H enc _ => lifted os started H enc)

theorem proved : Rows.GainShortSaid := over
#print axioms proved
end Go.Proofs.Ytkfpphccpkfenaa.gainShort
