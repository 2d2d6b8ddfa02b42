/- The Go function of the statement CoderNumsBack returns true at every input, and leaves each argument as it read. No condition. -/
import Derived.Test.YtocccimlojeaeaaDe
import Derived.Deep.RegionHeld3
import Derived.Deep.CutRange
import Derived.Deep.DeepCutAuto
import Derived.ProofKit
import Derived.OpenShut
import Derived.ShutString
import Derived.ChangeOld
import Derived.Lib.SmallJoins
namespace Go.Proofs.Ytocccimlojeaeaa.coderNumsBack
open Go.ChangeShapes Go.WideShapes Go.ChangeAt Go.RowKit Go.Joins
set_option linter.unusedVariables false
set_option linter.unusedSimpArgs false

theorem own : ownKnob Try.prog.godebug = none := by kernel_rfl
theorem laidOut : laidOutB Try.prog = true := by kernel_rfl

theorem infoN : (Try.prog.info? 73).map (fun i => (i.zero, i.size, i.bytes)) = some (some (.agg #[.int .u64 0, .int .u64 0]), 2, 16) := by kernel_rfl
set_option maxRecDepth 100000 in
set_option maxHeartbeats 4000000 in
theorem walk (a0 : Option Addr) (len0 cap0 : Nat) (z0 y0 : Nat → Int) (w : World) (w0 : IsPairs .u64 .u64 w a0 len0 z0 y0) :
    Calls Try.prog 8 #[.slice a0 len0 cap0] w fun e w' => e = .returned (.bool true) ∧ Below w.heap.size w w' := by
  obtain ⟨hlen, hP⟩ := w0
  unfold maxLen at hlen
  obtain ⟨i0, hi, hz0, hz1, hz2⟩ := info_parts infoN
  go_enter Try.func8, Try.ntmps8
  go_wp2_with (go_at_call 33; refine (new_any _).mono ?_; rintro e w1 ⟨rfl, hb1⟩)
  have hwz := hb1.size
  go_loopw [4, 5] (fun kv i wr => ∃ (j : Nat) (K : List (Nat × Nat)) (E : En) (a : Option Addr) (c : Nat), j ≤ 60 ∧ j ≤ len0 ∧ i = .int .i64 j ∧ K.length ≤ j ∧ Hid (E = puts En.new (flatC K)) ∧ Hid (NumsOk K) ∧ E.Ok ∧ B3 wr w1.heap.size (.int .u64 E.low) (.int .u32 E.R) (.slice a E.m c) ∧ RwF (w1.heap.size + 1) .u8 wr (.slice a E.m c) E.out ∧ wr.ownsRow (w1.heap.size + 1) 73 2 kv K.length (cells2 K) ∧ Below w.heap.size w wr) (fun _ i _ => 60 - (intOf i).toNat)
  case atStart => exact ⟨0, [], En.new, none, 0, by omega, by omega, rfl, by simp, rfl, (fun _ h => by cases h), En.new_ok, B3.new _ _ _ _ _, ⟨none, 0, rfl, .inl rfl⟩, World.ownsRow_nil _ _ _ _, hb1.alloc hb1.size _⟩
  case round =>
    obtain ⟨j, K, E, a, c, hj, hjl, rfl, hKj, HE, HK, hok, hbox, hrow, hown, hbel⟩ := hrel
    have hbz := hbox.z
    by_cases hlt : j < len0 ∧ j < 60
    · obtain ⟨hl1, hl2⟩ := hlt
      obtain ⟨b, off, rfl, hb, hc⟩ := hP.resolve_left (by omega)
      obtain ⟨c0, c1, v0, v1⟩ := hc j hl1
      have hbr : b < wr.heap.size := Nat.lt_of_lt_of_le hb hbel.size
      have d0 := (hbel.cell (p := ⟨b, off + j * 2, none⟩) hb).trans c0
      have d1 := (hbel.cell (p := ⟨b, off + j * 2 + 1, none⟩) hb).trans c1
      obtain ⟨p0, hp0, _⟩ := u64_nat v0
      obtain ⟨p1, hp1, _⟩ := u64_nat v1
      rw [hp0] at d0
      rw [hp1] at d1
      clear c0 c1 v0 v1 hc hP hp0 hp1
      have hput := fun W h => putNum_any E.low E.R a E.m c E p0 p1 W h
      have HPC : Hid _ := putN_cases E p0 p1
      have hFok := putNE_ok hok p0 p1
      have hev := hok.ev hrow.rw
      generalize putNE E p0 p1 = F at hput HPC hFok
      generalize putNF E p0 p1 = er at hput HPC
      go_wp2
      go_cut [6, 7] (fun p6 p7 wz => ∃ x9 c9, p7 = .int .i64 er ∧ RwF wr.heap.size .u8 wz (.slice x9 F.m c9) F.out ∧ Made3 wr wz p6 (.int .u64 F.low) (.int .u32 F.R) (.slice x9 F.m c9))
      case first =>
        go_region_held3 (fun w' => w'.cell? ⟨w1.heap.size, 0, none⟩ = some (.int .u64 E.low) ∧ w'.cell? ⟨w1.heap.size, 1, none⟩ = some (.int .u32 E.R) ∧ w'.cell? ⟨w1.heap.size, 2, none⟩ = some (.slice a E.m c) ∧ w'.cell? ⟨b, off + j * 2, none⟩ = some (.int .u64 p0) ∧ w'.cell? ⟨b, off + j * 2 + 1, none⟩ = some (.int .u64 p1)) (exact held5 (by first | exact (Below.refl _ _).drew | exact ((Below.refl _ _).alloc (Nat.le_refl _) _).drew | exact hy1 | exact hy1.alloc hy1.size _ | exact bset3 hy1 _ _ _ _ (Nat.le_refl _)) hbox hbr d0 d1) (first | (go_at_call 29; refine (hput _ (hev.below (by first | exact (Below.refl _ _).drew | exact ((Below.refl _ _).alloc (Nat.le_refl _) _).drew | exact hy1 | exact hy1.alloc hy1.size _ | exact bset3 hy1 _ _ _ _ (Nat.le_refl _)))).mono ?_; rintro e y1 ⟨x9, c9, rfl, q9, e1⟩; have hy1 : Below wr.heap.size wr y1 := bthen' (by first | exact (Below.refl _ _).drew | exact ((Below.refl _ _).alloc (Nat.le_refl _) _).drew | exact hy1 | exact hy1.alloc hy1.size _ | exact bset3 hy1 _ _ _ _ (Nat.le_refl _)) e1; obtain ⟨hcA, hfA⟩ := bcell e1))
        all_goals go_wp2
        all_goals go_meet
        all_goals first | exact ⟨x9, c9, rfl, row_after q9 _, made3_after hy1⟩ | exact ⟨x9, c9, rfl, row_before3 q9 _ _ _, made3_before e1⟩
      case rest =>
        obtain ⟨x9, c9, rfl, r9, bx, rfl, hbx, mlo, mbel⟩ := hcut
        have hbw : Below w.heap.size w wc := bthen hbel mbel hbel.size
        have hbox2 := hbox.below mbel
        have hown2 := owns_below hown mbel
        have f0 := ((bcell mbel).1 b (off + j * 2) hbr).trans d0
        have f1 := ((bcell mbel).1 b (off + j * 2 + 1) hbr).trans d1
        have hmz := mbel.size
        have hlt3 := hown.lt
        clear hbox hrow hown d0 d1 hput hev hbel mbel
        rcases HPC.out with ⟨hnum, hF, her⟩ | ⟨hF, her⟩
        · subst her
          have HF : Hid (F = puts E (chs p0 p1)) := hF
          have HNO : Hid (NumOk p0 p1) := hnum
          clear hF HPC hnum
          have n0 : u4.ownBlock ≠ some w1.heap.size := fun hh => by have := (hlt3 _ hh).1; omega
          have n1 : u4.ownBlock ≠ some bx := fun hh => by have := (hlt3 _ hh).2; omega
          obtain ⟨bz, b0, b1, b2, g0, g1, g2⟩ := id hbx
          obtain ⟨ez, e0, e1, e2, eg0, eg1, eg2⟩ := id hbox2
          go_wp2_with (at_builtin; refine wpList_append_own _ rfl _ _ 71 rfl (w1.heap.size + 1) 73 i0 (.agg #[.int .u64 0, .int .u64 0]) 2 16 Try.underlying71 hi hz0 hz1 hz2 rfl (by decide) _ _ _ rfl (hown2.alloc _) ⟨_, 0, none⟩ 1 1 [.int .u64 p0, .int .u64 p1] rfl rfl (cell_pair_new _ _ _ _) ?c2 ?c3 ?c4 ?c5 ?_)
          case c2 => intro u hu; simp at hu; rcases hu with rfl | rfl <;> rfl
          case c3 => unfold maxLen; omega
          case c4 => omega
          case c5 => simp; omega
          intro v' w2 hown3 hgrow _
          have hbx3 := (hbx.below (below1 _ (.cells #[.int .u64 p0, .int .u64 p1] 73))).grown hgrow n1
          have hbox3 := (hbox2.below (below1 _ (.cells #[.int .u64 p0, .int .u64 p1] 73))).grown hgrow n0
          have r93 := (r9.below (below1 _ (.cells #[.int .u64 p0, .int .u64 p1] 73))).grown hgrow (fun i e => (hlt3 i e).2)
          have hbw3 := (hbw.alloc hbw.size (.cells #[.int .u64 p0, .int .u64 p1] 73)).grown hgrow (by simp; omega) (fun k e => by have := (hlt3 k e).1; omega)
          have hown4 : w2.ownsRow (w1.heap.size + 1) 73 2 v' (K ++ [(p0, p1)]).length (cells2 (K ++ [(p0, p1)])) := by
            rw [cells2_snoc, List.length_append, List.length_singleton]; exact hown3
          have HE2 : Hid (F = puts En.new (flatC (K ++ [(p0, p1)]))) := by unfold Hid; rw [flat_snoc, puts_append, ← HE.out]; exact HF.out
          have HK2 : Hid (NumsOk (K ++ [(p0, p1)])) := HK.out.snoc HNO.out
          clear hown3 hgrow hown2 hbx hbox2 r9 hbw hlt3 n0 n1 bz b0 b1 b2 g0 g1 g2 ez e0 e1 e2 eg0 eg1 eg2 f0 f1
          obtain ⟨bz, b0, b1, b2, g0, g1, g2⟩ := id hbx3
          obtain ⟨ez, e0, e1, e2, eg0, eg1, eg2⟩ := id hbox3
          go_wp2
          go_roundw
          case rel => exact ⟨j + 1, K ++ [(p0, p1)], F, x9, c9, by omega, by omega, by go_num, by simp; omega, HE2, HK2, hFok, hbox3.set _ _ _, (((r93.mono (show w1.heap.size + 1 ≤ wr.heap.size by omega)).set _ _ _ (by omega)).set _ _ _ (by omega)).set _ _ _ (by omega), owns_other (owns_other (owns_other hown4 _ _ _ (by omega)) _ _ _ (by omega)) _ _ _ (by omega), bset3 hbw3 _ _ _ _ hwz⟩
          case measure => simp [intOf]; omega
        · have HF : Hid (F = E) := hF
          clear hF HPC
          obtain ⟨bz, b0, b1, b2, g0, g1, g2⟩ := id hbx
          obtain ⟨ez, e0, e1, e2, eg0, eg1, eg2⟩ := id hbox2
          go_wp2
          go_roundw
          case rel => exact ⟨j + 1, K, F, x9, c9, by omega, by omega, by go_num, by omega, by unfold Hid; rw [HF.out]; exact HE.out, HK, hFok, hbox2.set _ _ _, (((r9.mono (show w1.heap.size + 1 ≤ wr.heap.size by omega)).set _ _ _ (by omega)).set _ _ _ (by omega)).set _ _ _ (by omega), owns_other (owns_other (owns_other hown2 _ _ _ (by omega)) _ _ _ (by omega)) _ _ _ (by omega), bset3 hbw _ _ _ _ hwz⟩
          case measure => simp [intOf]; omega
    · obtain ⟨W1, rfl⟩ : ∃ x, x = wr := ⟨wr, rfl⟩
      obtain ⟨ka, kc, rfl, hkp⟩ := own_pairs hown
      have hKl : K.length ≤ 60 := by omega
      have hev := hok.ev hrow.rw
      have hfin := fun W h => finish_ev E.low E.R a E.m c E E.all.length (En.all_length E).symm W h
      have hall5 : E.all.length ≤ 5000 := by rw [En.all_length]; have := hok.le; omega
      have hopen := fun a c W h => open_dec E.all_byts hall5 a c W h
      have hrw0 : ∀ (W : World) (a : Option Addr) (c : Nat), Rw .u8 W (.slice a E.all.length c) E.all → Rw .u8 W (.slice a (De.open E.all).B.length c) (De.open E.all).B := fun _ _ _ h => h
      have hok0 := De.open_ok E.all_byts hall5
      have HT0 : Hid (Track (puts En.new (flatC K)).N (puts En.new (flatC K)).m (puts En.new (flatC (K.take 0))) (De.open E.all)) := by unfold Hid; rw [HE.out]; exact num_new HK.out
      generalize De.open E.all = D0 at hopen hrw0 hok0 HT0
      generalize E.all = B0 at hfin hopen hrw0
      obtain ⟨ez, e0, e1, e2, eg0, eg1, eg2⟩ := id hbox
      clear hrow hown hP hall5 hok
      have hends : (j < len0 ∧ 60 ≤ j) ∨ len0 ≤ j := by omega
      rcases hends with ⟨hl, hl2⟩ | hl
      all_goals
        clear hlt
        go_wp2_with (first | (go_at_call 18; refine (hfin _ hev).mono ?_; rintro e w2 ⟨ab, cb, rfl, hrb, hb2⟩) | (go_at_call 27; refine (hopen _ _ _ hrb).mono ?_; rintro e w3 ⟨rfl, hb3⟩))
        have hbw3 : Below W1.heap.size W1 w3 := bthen' hb2 hb3
        have hbel3 : Below w.heap.size w w3 := bthen hbel hbw3 hbel.size
        have hr3 := hrw0 _ _ _ (hrb.below hb3)
        clear hfin hopen hrw0 hrb hb2 hb3 ez e0 e1 e2 eg0 eg1 eg2 hbox hev
        go_loopw [9] (fun i wr => ∃ (q : Nat) (d : De) (ad : Option Addr) (cd : Nat), q ≤ K.length ∧ i = .int .i64 q ∧ Hid (Track (puts En.new (flatC K)).N (puts En.new (flatC K)).m (puts En.new (flatC (K.take q))) d) ∧ d.Ok ∧ Rw .u8 w3 (.slice ad d.B.length cd) d.B ∧ B4 wr w3.heap.size (.int .u64 d.C) (.int .u32 d.R) (.slice ad d.B.length cd) (.int .i64 d.A) ∧ Below w3.heap.size w3 wr) (fun i _ => K.length - (intOf i).toNat)
        case atStart => exact ⟨0, D0, ab, cb, by omega, rfl, HT0, hok0, hr3, B4.new _ _ _ _ _ _, below1 _ _⟩
        case round =>
          clear hr3 hok0 HT0
          obtain ⟨q, d, ad, cd, hq, rfl, HT, hdok, hrd, hB4, hbr⟩ := hrel
          have hbd := hB4.z
          by_cases hqk : q < K.length
          · obtain ⟨b, off, rfl, hb, hc⟩ := hkp.resolve_left (by omega)
            obtain ⟨c0, c1⟩ := hc q hqk
            have hb1r : Below W1.heap.size W1 wr := bthen' hbw3 hbr
            have hbr2 : b < wr.heap.size := Nat.lt_of_lt_of_le hb hb1r.size
            have d0 := ((bcell hb1r).1 b (off + q * 2) hb).trans c0
            have d1 := ((bcell hb1r).1 b (off + q * 2 + 1) hb).trans c1
            obtain ⟨t1, hnum, ht⟩ := HT.out.numAt HK.out hqk
            clear hkp hc c0 c1 HT hb1r
            generalize (K.getD q (0, 0)).1 = Vq at *
            generalize (K.getD q (0, 0)).2 = Nq at *
            have htake := takeNum_dec hdok hnum.one hnum.top ad cd
            have hDok := hdok.numD hnum.one hnum.top
            have HT2 : Hid _ := ht
            rw [t1] at htake
            clear ht t1 hnum
            generalize d.numD Nq = D at HT2 htake hDok
            have iq1 : (0 : Int) ≤ (q : Int) := by omega
            have iq2 : (q : Int) < (K.length : Int) := by omega
            have iq3 : IntKind.i64.wrap (q : Int) = q := wraps_i64 _ (by omega) (by omega)
            go_wp2
            go_cut [10, 11, 12] (fun p10 p11 p12 wz => ∃ x9 c9, p11 = .int .u64 Vq ∧ p12 = .int .i64 0 ∧ (∀ w1, Rw .u8 w1 (.slice ad d.B.length cd) d.B → Rw .u8 w1 (.slice x9 D.B.length c9) D.B) ∧ Made4 wr wz p10 (.int .u64 D.C) (.int .u32 D.R) (.slice x9 D.B.length c9) (.int .i64 D.A))
            case first =>
              go_region_held3 (fun w' => w'.cell? ⟨w3.heap.size, 0, none⟩ = some (.int .u64 d.C) ∧ w'.cell? ⟨w3.heap.size, 1, none⟩ = some (.int .u32 d.R) ∧ w'.cell? ⟨w3.heap.size, 2, none⟩ = some (.slice ad d.B.length cd) ∧ w'.cell? ⟨w3.heap.size, 3, none⟩ = some (.int .i64 d.A) ∧ w'.cell? ⟨b, off + q * 2, none⟩ = some (.int .u64 Vq) ∧ w'.cell? ⟨b, off + q * 2 + 1, none⟩ = some (.int .u64 Nq)) (exact held42 (by first | exact (Below.refl _ _).drew | exact ((Below.refl _ _).alloc (Nat.le_refl _) _).drew | exact hy1 | exact hy1.alloc hy1.size _ | exact bset4 hy1 _ _ _ _ _ (Nat.le_refl _)) hB4 hbr2 d0 d1) (first | (go_at_call 31; refine (htake _ (hrd.below (bthen' hbr (by first | exact (Below.refl _ _).drew | exact ((Below.refl _ _).alloc (Nat.le_refl _) _).drew | exact hy1 | exact hy1.alloc hy1.size _ | exact bset4 hy1 _ _ _ _ _ (Nat.le_refl _))))).mono ?_; rintro e y1 ⟨x9, c9, rfl, q9, e1⟩; have hy1 : Below wr.heap.size wr y1 := bthen' (by first | exact (Below.refl _ _).drew | exact ((Below.refl _ _).alloc (Nat.le_refl _) _).drew | exact hy1 | exact hy1.alloc hy1.size _ | exact bset4 hy1 _ _ _ _ _ (Nat.le_refl _)) e1; obtain ⟨hcA, hfA⟩ := bcell e1))
              all_goals go_wp2
              all_goals go_meet
              all_goals first | exact ⟨x9, c9, rfl, rfl, q9, made4_after hy1⟩ | exact ⟨x9, c9, rfl, rfl, q9, made4_before e1⟩
            case rest =>
              obtain ⟨x9, c9, rfl, rfl, q9, bx, rfl, hbx, mlo, mbel⟩ := hcut
              have hB6 := hB4.below mbel
              have k0 := ((bcell mbel).1 b (off + q * 2) hbr2).trans d0
              have k1 := ((bcell mbel).1 b (off + q * 2 + 1) hbr2).trans d1
              have hbr6 : Below w3.heap.size w3 wc := bthen' hbr mbel
              have hrd2 := q9 _ hrd
              clear d0 d1 hB4 htake mbel q9 hbr
              obtain ⟨bz, b0, b1, b2, b3, s0, s1, s2, s3⟩ := id hbx
              obtain ⟨ez, e0, e1, e2, e3, eg0, eg1, eg2, eg3⟩ := id hB6
              go_wp2
              go_roundw
              case rel => exact ⟨q + 1, D, x9, c9, by omega, by go_num, HT2, hDok, hrd2, hB6.set _ _ _ _, bset4 hbr6 _ _ _ _ _ (Nat.le_refl _)⟩
              case measure => simp [intOf]; omega
          · have hfinal := bthen hbel3 hbr hbel3.size
            go_wp2_with (go_at_call 11; refine (knows_any _).mono ?_; rintro e w9 ⟨rfl, hb9⟩)
            go_ret
            exact ⟨rfl, bthen hfinal hb9 hfinal.size⟩


set_option maxRecDepth 100000 in
theorem lifted (os : Os) (started : os.Started) (H : Type) (enc : TypeId × Value → H) :
    ReturnsInHanded {} Try.checked os 8 .any (Rows.coderNumsBackSpec.pre6 enc Try.prog Try.f8 Rows.coderNumsBackRow.domain false) (Rows.coderNumsBackSpec.post enc Try.prog Try.f8 false true false false) := by
  refine returnsInHanded_of_change (C := Try.checked) own started (by kernel_rfl) Try.func8
    (ChangeSpec.witness6 (enc := enc) (C := Try.checked) false ⟨#[], #[.slice none 0 0], []⟩ 8 (by kernel_rfl) (by kernel_rfl) (by kernel_rfl) (by kernel_rfl)) ?_
  intro W base args ds gs before hval0 hW hcnd _
  have hval : ∀ (j : Nat) t v, Try.f8.params[j]? = some t → args[j]? = some v → Value.okWide Try.prog W .any base t v := hval0
  have hW' := hW
  obtain ⟨p, q, hA0, hV, rfl, hfz, hnd⟩ := hW
  have hA : DataW.TrodAll enc Try.prog W 0 (fun _ => true) true Try.f8.params.toList args.toList ds p := hA0
  rw [Try.params8] at hA hval
  obtain ⟨v0, vs0, d0, ds0, p0, q0, hargs, rfl, rfl, h0, r0⟩ := trodAll_cons hA
  obtain ⟨rfl, rfl, rfl⟩ := trodAll_nil r0
  obtain rfl : args = #[v0] := by cases args; simp_all
  obtain ⟨rfl, rfl⟩ := trodVars_none hV
  have k0 := h0
  have lt0 : ∀ x ∈ p0, x.block < W.heap.size := by obtain ⟨m, hm⟩ := k0; exact DataW.trod_lt m _ _ _ hm
  obtain ⟨a0, len0, cap0, rfl⟩ := okWide_slice Try.underlying71 (hval 0 71 v0 rfl rfl)
  obtain ⟨z0, y0, w0⟩ : ∃ z0 z1, IsPairs .u64 .u64 W a0 len0 z0 z1 := by
    obtain ⟨fuel, hf⟩ := h0
    exact pairs_of_trod Try.underlying71 Try.underlying73 (by kernel_rfl) rfl rfl (by kernel_rfl) (by kernel_rfl) (by exact Try.underlying22) (by exact Try.underlying22) (show DataW.trod enc Try.prog W 0 (fun _ => true) true fuel 71 [.slice a0 len0 cap0] = _ from hf)
  clear hA0 hval0
  refine (walk a0 len0 cap0 z0 y0 W w0).mono fun e W' ⟨he, bel⟩ => ?_
  subst he
  exact ⟨_, rfl, _, _, _, [], _, [], hW', trodAll_mk1 (shut_bool Try.underlying4 _), (trodAll_cons_mk (Below.trod laidOut (by kernel_rfl) (of_decide_eq_true (by kernel_rfl)) k0 bel lt0) trodAll_mk0), rfl, bel.frame _, fun h => by cases h⟩

theorem over : Rows.coderNumsBackRow.holds Try.pinned (OpenSpec.ofChange Rows.coderNumsBackSpec) :=
  OpenClaim.holds_of_wide 8 Try.f8 rfl rfl rfl rfl rfl rfl rfl ⟨rfl, rfl, rfl, rfl, rfl⟩ rfl rfl rfl rfl rfl (by kernel_rfl) Try.func8 (by kernel_rfl)
    (of_decide_eq_true (by kernel_rfl)) (by unfold Func.isWrapper; first | (rw [if_pos (by decide +kernel)]; kernel_rfl) | (rw [if_neg (by decide +kernel)]; exact ⟨rfl, rfl⟩))
    (fun os started H enc _ => lifted os started H enc)

theorem proved : Rows.CoderNumsBackSaid := over
#print axioms proved
end Go.Proofs.Ytocccimlojeaeaa.coderNumsBack
