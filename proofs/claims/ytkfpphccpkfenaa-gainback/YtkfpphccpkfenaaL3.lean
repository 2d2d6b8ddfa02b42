/- The Go function of the statement GainBack returns true at every input, and leaves each argument as it read. No condition. -/
import Derived.Test.YtkfpphccpkfenaaJj
import Derived.Deep.RegionHeld3
import Derived.Deep.CutRange
import Derived.Deep.DeepCutAuto
import Derived.ProofKit
import Derived.OpenShut
import Derived.ShutString
import Derived.ChangeOld
import Derived.Lib.SmallJoins
namespace Go.Proofs.Ytkfpphccpkfenaa.gainBack
open Go.ChangeShapes Go.WideShapes Go.ChangeAt Go.RowKit Go.Joins
set_option linter.unusedVariables false
set_option linter.unusedSimpArgs false

theorem own : ownKnob Try.prog.godebug = none := by kernel_rfl
theorem laidOut : laidOutB Try.prog = true := by kernel_rfl

theorem row_before4 {y wr : World} {k : IntKind} {v : Value} {xs : List Int} {z0 z1 z2 z3 : Value} {t : TypeId} (r : RwF (wr.alloc (.cells #[z0, z1, z2, z3] t)).drew.heap.size k y v xs) (x0 x1 x2 x3 : Value) : RwF wr.heap.size k ((((y.setCell ⟨wr.heap.size, 0, none⟩ x0).setCell ⟨wr.heap.size, 1, none⟩ x1).setCell ⟨wr.heap.size, 2, none⟩ x2).setCell ⟨wr.heap.size, 3, none⟩ x3) v xs := by
  have hlt : wr.heap.size < (wr.alloc (.cells #[z0, z1, z2, z3] t)).drew.heap.size := by show wr.heap.size < (wr.alloc (.cells #[z0, z1, z2, z3] t)).heap.size; simp
  exact ((((r.set wr.heap.size 0 x0 hlt).set wr.heap.size 1 x1 hlt).set wr.heap.size 2 x2 hlt).set wr.heap.size 3 x3 hlt).mono (Nat.le_of_lt hlt)
theorem Blk.grown {k : IntKind} {t : TypeId} {w w' : World} {g : Nat} {xs : List Int} {o : Option Nat} (h : Blk k t w g xs) (hg : w.grownBy w' o) (hne : o ≠ some g) : Blk k t w' g xs := (hg.block g h.lt (fun hh => hne hh.symm)).trans h
theorem infoR : (Try.prog.info? 56).map (fun i => (i.zero, i.size, i.bytes)) = some (some (.agg #[.slice none 0 0, .bool false]), 2, 32) := by kernel_rfl
set_option maxRecDepth 100000 in
set_option maxHeartbeats 4000000 in
theorem walk (a0 : Option Addr) (len0 cap0 : Nat) (z0 : Nat → List Int) (y0 : Nat → Bool) (w : World) (w0 : IsFms w a0 len0 z0 y0) :
    Calls Try.prog 5 #[.slice a0 len0 cap0] w fun e w' => e = .returned (.bool true) ∧ Below w.heap.size w w' := by
  obtain ⟨i0, hi, hz0, hz1, hz2⟩ := info_parts infoR
  obtain ⟨hlen, hP⟩ := w0
  unfold maxLen at hlen
  go_enter Try.func5, Try.ntmps5
  go_wp2_with (go_at_call 22; refine (new_any _).mono ?_; rintro e w1 ⟨rfl, hb1⟩)
  have hwz := hb1.size
  have hs1 := B3.new w1 (.int .u64 0) (.int .u32 4294967295) (.slice none 0 0) 26
  have hs2 := hs1.below (below1 _ (.cells #[.int .i64 0, .int .i64 0, .int .i64 0, .int .i64 0, .int .i64 0] 3))
  have hs3 := (hb1.alloc hb1.size (.cells #[.int .u64 0, .int .u32 4294967295, .slice none 0 0] 26))
  have hs4 := hs3.alloc hs3.size (.cells #[.int .i64 0, .int .i64 0, .int .i64 0, .int .i64 0, .int .i64 0] 3)
  have hs5 : Rw .i64 ((w1.alloc (.cells #[.int .u64 0, .int .u32 4294967295, .slice none 0 0] 26)).alloc (.cells #[.int .i64 0, .int .i64 0, .int .i64 0, .int .i64 0, .int .i64 0] 3)) (.slice (some ⟨w1.heap.size + 1, 0, none⟩) 5 5) kZ := by
    have := lit5 (w1.alloc (.cells #[.int .u64 0, .int .u32 4294967295, .slice none 0 0] 26)) 0 0 0 0 0 3
    rw [World.size_alloc] at this
    exact this
  have hs6 : Blk .i64 3 ((w1.alloc (.cells #[.int .u64 0, .int .u32 4294967295, .slice none 0 0] 26)).alloc (.cells #[.int .i64 0, .int .i64 0, .int .i64 0, .int .i64 0, .int .i64 0] 3)) (w1.heap.size + 1) kZ := by
    have := heap_alloc_last (w1.alloc (.cells #[.int .u64 0, .int .u32 4294967295, .slice none 0 0] 26)) (.cells #[.int .i64 0, .int .i64 0, .int .i64 0, .int .i64 0, .int .i64 0] 3)
    rw [World.size_alloc] at this
    exact this
  clear hs1 hs3
  go_loopw [5, 6, 7] (fun av kv i wr => ∃ (j : Nat) (K : List ((Option Addr × Nat) × (List Int × Bool))) (E : En) (a : Option Addr) (c : Nat) (ag : Option Addr) (cg : Nat) (Y : List Int), j ≤ 20 ∧ j ≤ len0 ∧ K.length ≤ j ∧ i = .int .i64 j ∧ av = .slice ag Y.length cg ∧ Hid (Y = lastG kZ (fmsOf K)) ∧ Hid (E = puts En.new (frC kZ (fmsOf K))) ∧ Hid (FmsOk (fmsOf K)) ∧ Hid (KRows w K) ∧ E.Ok ∧ B3 wr w1.heap.size (.int .u64 E.low) (.int .u32 E.R) (.slice a E.m c) ∧ Hid (Rw .u8 wr (.slice a E.m c) E.out) ∧ Hid (Rw .i64 wr (.slice ag Y.length cg) Y) ∧ Hid (Blk .i64 3 wr (w1.heap.size + 1) kZ) ∧ wr.ownsRow (w1.heap.size + 2) 56 2 kv K.length (cellsF K) ∧ Below w.heap.size w wr) (fun _ _ i _ => 20 - (intOf i).toNat)
  case atStart => exact ⟨0, [], En.new, none, 0, _, 5, kZ, by omega, by omega, by simp, rfl, rfl, rfl, rfl, (fun _ h => by cases h), (fun _ h => by cases h), En.new_ok, hs2, ⟨none, 0, rfl, .inl rfl⟩, hs5, hs6, World.ownsRow_nil _ _ _ _, hs4⟩
  case round =>
    clear hs2 hs4 hs5 hs6
    obtain ⟨j, K, E, a, c, ag, cg, Y, hj, hjl, hKj, rfl, rfl, HY, HE, HK, HKR, hok, hbox, HR, HA, HZ, hown, hbel⟩ := hrel
    have hbz := hbox.z
    by_cases hlt : j < len0 ∧ j < 20
    · obtain ⟨hl1, hl2⟩ := hlt
      obtain ⟨b, off, rfl, hb, hc⟩ := hP.resolve_left (by omega)
      obtain ⟨gx, cx, c0, c1, hxr⟩ := hc j hl1
      have hbr : b < wr.heap.size := Nat.lt_of_lt_of_le hb hbel.size
      have d0 := (hbel.cell (p := ⟨b, off + j * 2, none⟩) hb).trans c0
      have d1 := (hbel.cell (p := ⟨b, off + j * 2 + 1, none⟩) hb).trans c1
      have HX := hid (hxr.below hbel)
      have hput := fun W h h1 h2 => gputF_any E.low E.R a E.m c E gx (z0 j).length cx (z0 j) ag Y.length cg Y (y0 j) rfl rfl W h h1 h2
      have HPC := hid (frame_cases HK.out HE.out (z0 j) (y0 j))
      rw [← HY.out] at HPC
      have hFok := gpE_ok hok (z0 j) Y (y0 j)
      have hev := hok.ev HR.out
      generalize gpE E (z0 j) Y (y0 j) = F at hput HPC hFok
      generalize gpF E (z0 j) Y (y0 j) = er at hput HPC
      generalize z0 j = xj at *
      generalize y0 j = bj at *
      obtain ⟨nx, hnx⟩ : ∃ n, xj.length = n := ⟨_, rfl⟩
      have HNX := hid hnx
      rw [hnx] at d0 HX hput hxr
      unfold PutQ at hput
      have HXW := hid hxr
      clear c0 c1 hc hP hnx hxr
      go_wp2
      go_cut [8, 9] (fun p6 p7 wz => ∃ x9 c9, p7 = .int .i64 er ∧ RwF wr.heap.size .u8 wz (.slice x9 F.m c9) F.out ∧ Made3 wr wz p6 (.int .u64 F.low) (.int .u32 F.R) (.slice x9 F.m c9))
      case first =>
        go_region_held3 (fun w' => w'.cell? ⟨w1.heap.size, 0, none⟩ = some (.int .u64 E.low) ∧ w'.cell? ⟨w1.heap.size, 1, none⟩ = some (.int .u32 E.R) ∧ w'.cell? ⟨w1.heap.size, 2, none⟩ = some (.slice a E.m c) ∧ w'.cell? ⟨b, off + j * 2, none⟩ = some (.slice gx nx cx) ∧ w'.cell? ⟨b, off + j * 2 + 1, none⟩ = some (.bool bj)) (exact held5 (by first | exact (Below.refl _ _).drew | exact ((Below.refl _ _).alloc (Nat.le_refl _) _).drew | exact hy1 | exact hy1.alloc hy1.size _ | exact bset3 hy1 _ _ _ _ (Nat.le_refl _)) hbox hbr d0 d1) (first | (go_at_call 11; refine (hput _ (hev.below (by first | exact (Below.refl _ _).drew | exact ((Below.refl _ _).alloc (Nat.le_refl _) _).drew | exact hy1 | exact hy1.alloc hy1.size _ | exact bset3 hy1 _ _ _ _ (Nat.le_refl _))) (HX.out.below (by first | exact (Below.refl _ _).drew | exact ((Below.refl _ _).alloc (Nat.le_refl _) _).drew | exact hy1 | exact hy1.alloc hy1.size _ | exact bset3 hy1 _ _ _ _ (Nat.le_refl _))) (HA.out.below (by first | exact (Below.refl _ _).drew | exact ((Below.refl _ _).alloc (Nat.le_refl _) _).drew | exact hy1 | exact hy1.alloc hy1.size _ | exact bset3 hy1 _ _ _ _ (Nat.le_refl _)))).mono ?_; rintro e y1 ⟨x9, c9, rfl, q9, e1⟩; have hy1 : Below wr.heap.size wr y1 := bthen' (by first | exact (Below.refl _ _).drew | exact ((Below.refl _ _).alloc (Nat.le_refl _) _).drew | exact hy1 | exact hy1.alloc hy1.size _ | exact bset3 hy1 _ _ _ _ (Nat.le_refl _)) e1; obtain ⟨hcA, hfA⟩ := bcell e1))
        all_goals go_wp2
        all_goals go_meet
        all_goals first | exact ⟨x9, c9, rfl, row_after q9 _, made3_after hy1⟩ | exact ⟨x9, c9, rfl, row_before3 q9 _ _ _, made3_before e1⟩
      case rest =>
        obtain ⟨x9, c9, rfl, r9, bx, rfl, hbx, mlo, mbel⟩ := hcut
        have hbw : Below w.heap.size w wc := bthen hbel mbel hbel.size
        have hbox2 := hbox.below mbel
        have f0 := ((bcell mbel).1 b (off + j * 2) hbr).trans d0
        have f1 := ((bcell mbel).1 b (off + j * 2 + 1) hbr).trans d1
        have hmz := mbel.size
        have hlt3 := hown.lt
        have hown2 := owns_below hown mbel
        have HA2 := hid (HA.out.below mbel)
        have HR2 := hid (HR.out.below mbel)
        have HZ2 := hid (HZ.out.below mbel)
        clear hbox d0 d1 hput hev hbel mbel HX HA HR HZ hown
        obtain ⟨bz, b0, b1, b2, g0, g1, g2⟩ := id hbx
        obtain ⟨ez, e0, e1, e2, eg0, eg1, eg2⟩ := id hbox2
        rcases HPC.out with ⟨hgx, her, hF, hK2⟩ | ⟨hF, her⟩
        · subst her
          have HF := hid hF
          have HK2 := hid hK2
          have HY2 : Hid (xj = lastG kZ (fmsOf K ++ [(xj, bj)])) := (lastG_snoc kZ (fmsOf K) (xj, bj)).symm
          clear hF HPC hK2 hgx
          have n0 : u6.ownBlock ≠ some w1.heap.size := fun hh => by have := (hlt3 _ hh).1; omega
          have n2 : u6.ownBlock ≠ some (w1.heap.size + 1) := fun hh => by have := (hlt3 _ hh).1; omega
          have n1 : u6.ownBlock ≠ some bx := fun hh => by have := (hlt3 _ hh).2; omega
          go_wp2_with (at_builtin; refine wpList_append_own _ rfl _ _ 53 rfl (w1.heap.size + 2) 56 i0 (.agg #[.slice none 0 0, .bool false]) 2 32 Try.underlying53 hi hz0 hz1 hz2 rfl (by decide) _ _ _ rfl (hown2.alloc _) ⟨_, 0, none⟩ 1 1 [.slice gx nx cx, .bool bj] rfl rfl (cell_pair_new _ _ _ _) ?c2 ?c3 ?c4 ?c5 ?_)
          case c2 => intro u hu; simp at hu; rcases hu with rfl | rfl <;> rfl
          case c3 => unfold maxLen; omega
          case c4 => omega
          case c5 => simp; omega
          intro v' w2 hown3 hgrow _
          have hbx3 := (hbx.below (below1 _ (.cells #[.slice gx nx cx, .bool bj] 56))).grown hgrow n1
          have hbox3 := (hbox2.below (below1 _ (.cells #[.slice gx nx cx, .bool bj] 56))).grown hgrow n0
          have r93 := (r9.below (below1 _ (.cells #[.slice gx nx cx, .bool bj] 56))).grown hgrow (fun i e => (hlt3 i e).2)
          have HZ3 := hid (Blk.grown (HZ2.out.below (below1 _ (.cells #[.slice gx nx cx, .bool bj] 56))) hgrow n2)
          have hbw3 := (hbw.alloc hbw.size (.cells #[.slice gx nx cx, .bool bj] 56)).grown hgrow (by simp; omega) (fun k e => by have := (hlt3 k e).1; omega)
          have hown4 : w2.ownsRow (w1.heap.size + 2) 56 2 v' (K ++ [((gx, cx), (xj, bj))]).length (cellsF (K ++ [((gx, cx), (xj, bj))])) := by
            rw [cellsF_snoc, List.length_append, List.length_singleton]
            show w2.ownsRow (w1.heap.size + 2) 56 2 v' (K.length + 1) (cellsF K ++ [.slice gx xj.length cx, .bool bj])
            rw [HNX.out]; exact hown3
          have HKR2 : Hid (KRows w (K ++ [((gx, cx), (xj, bj))])) := HKR.out.snoc (by show Rw .i64 w (.slice gx xj.length cx) xj; rw [HNX.out]; exact HXW.out)
          have f03 := (hbw3.cell (p := ⟨b, off + j * 2, none⟩) hb).trans ((hbw.cell (p := ⟨b, off + j * 2, none⟩) hb).symm.trans f0)
          clear hown3 hgrow hown2 hbx hbox2 r9 hbw hlt3 n0 n1 n2 bz b0 b1 b2 g0 g1 g2 ez e0 e1 e2 eg0 eg1 eg2 f0 f1 HZ2 HA2 HR2
          obtain ⟨bz, b0, b1, b2, g0, g1, g2⟩ := id hbx3
          obtain ⟨ez, e0, e1, e2, eg0, eg1, eg2⟩ := id hbox3
          go_wp2
          have hbwf := bset3 hbw3 w1.heap.size (.int .u64 F.low) (.int .u32 F.R) (.slice x9 F.m c9) hwz
          go_roundw
          case rel => exact ⟨j + 1, K ++ [((gx, cx), (xj, bj))], F, x9, c9, gx, cx, xj, by omega, by omega, by simp; omega, by go_num, by rw [HNX.out], by rw [fmsOf_snoc]; exact HY2, by rw [fmsOf_snoc]; exact HF, by rw [fmsOf_snoc]; exact HK2, HKR2, hFok, hbox3.set _ _ _, hid (hbox3.apart r93.rw (fun z => by simp) (fun z => by simp) (fun z => by simp) _ _ _), hid (by rw [HNX.out]; exact HXW.out.below hbwf), hid (((HZ3.out.other _ _ _ (by omega)).other _ _ _ (by omega)).other _ _ _ (by omega)), owns_other (owns_other (owns_other hown4 _ _ _ (by omega)) _ _ _ (by omega)) _ _ _ (by omega), hbwf⟩
          case measure => simp [intOf]; omega
        · clear hF HPC
          go_wp2
          go_roundw
          case rel => exact ⟨j + 1, K, E, a, c, ag, cg, Y, by omega, by omega, by omega, by go_num, rfl, HY, HE, HK, HKR, hok, hbox2, HR2, HA2, HZ2, hown2, hbw⟩
          case measure => simp [intOf]; omega
    · obtain ⟨W1, rfl⟩ : ∃ x, x = wr := ⟨wr, rfl⟩
      obtain ⟨ka, kc, rfl, hkp⟩ := own_fms hown
      have hKl : K.length ≤ 20 := by omega
      have hev := hok.ev HR.out
      have hfin := fun W h => finish_ev E.low E.R a E.m c E E.all.length (En.all_length E).symm W h
      have hall5 : E.all.length ≤ 5000 := by rw [En.all_length]; have := hok.le; omega
      have hopen := fun a c W h => open_dec E.all_byts hall5 a c W h
      have hrw0 : ∀ (W : World) (a : Option Addr) (c : Nat), Rw .u8 W (.slice a E.all.length c) E.all → Rw .u8 W (.slice a (De.open E.all).B.length c) (De.open E.all).B := fun _ _ _ h => h
      have hok0 := De.open_ok E.all_byts hall5
      have HT0 : Hid (Track (puts En.new (frC kZ (fmsOf K))).N (puts En.new (frC kZ (fmsOf K))).m (puts En.new (frC kZ ((fmsOf K).take 0))) (De.open E.all)) := by unfold Hid; rw [HE.out]; exact Track.init (En.new_good.puts (frC_fair kZ HK.out)).lt
      generalize De.open E.all = D0 at hopen hrw0 hok0 HT0
      generalize E.all = B0 at hfin hopen hrw0
      obtain ⟨ez, e0, e1, e2, eg0, eg1, eg2⟩ := id hbox
      have HZR : Hid (Rw .i64 W1 (.slice (some ⟨w1.heap.size + 1, 0, none⟩) 5 5) kZ) := HZ.out.rw rfl
      have hends : (j < len0 ∧ 20 ≤ j) ∨ len0 ≤ j := by omega
      clear HR hown hP hall5 hok HA HY HZ
      rcases hends with ⟨hl, hl2⟩ | hl
      all_goals
        clear hlt
        go_wp2_with (first | (go_at_call 24; refine (hfin _ hev).mono ?_; rintro e w2 ⟨ab, cb, rfl, hrb, hb2⟩) | (go_at_call 23; refine (hopen _ _ _ hrb).mono ?_; rintro e w3 ⟨rfl, hb3⟩))
        have hbw3 : Below W1.heap.size W1 w3 := bthen' hb2 hb3
        have hbel3 : Below w.heap.size w w3 := bthen hbel hbw3 hbel.size
        have hr3 := hrw0 _ _ _ (hrb.below hb3)
        have HA0 := hid ((HZR.out.below hbw3).below (below1 w3 (.cells #[.int .u64 D0.C, .int .u32 D0.R, .slice ab D0.B.length cb, .int .i64 D0.A] 30)))
        clear hfin hopen hrw0 hrb hb2 hb3 ez e0 e1 e2 eg0 eg1 eg2 hbox hev HZR
        go_loopw [4, 11] (fun av i wr => ∃ (q : Nat) (d : De) (ad : Option Addr) (cd : Nat) (aa : Option Addr) (ca : Nat) (Y : List Int), q ≤ K.length ∧ i = .int .i64 q ∧ av = .slice aa 5 ca ∧ Hid (Y = lastG kZ ((fmsOf K).take q)) ∧ Hid (Track (puts En.new (frC kZ (fmsOf K))).N (puts En.new (frC kZ (fmsOf K))).m (puts En.new (frC kZ ((fmsOf K).take q))) d) ∧ d.Ok ∧ Rw .u8 w3 (.slice ad d.B.length cd) d.B ∧ B4 wr w3.heap.size (.int .u64 d.C) (.int .u32 d.R) (.slice ad d.B.length cd) (.int .i64 d.A) ∧ Hid (Rw .i64 wr (.slice aa 5 ca) Y) ∧ Below w3.heap.size w3 wr) (fun _ i _ => K.length - (intOf i).toNat)
        case atStart => exact ⟨0, D0, ab, cb, _, 5, kZ, by omega, rfl, rfl, rfl, HT0, hok0, hr3, B4.new _ _ _ _ _ _, HA0, below1 _ _⟩
        case round =>
          clear hr3 hok0 HT0 HA0
          obtain ⟨q, d, ad, cd, aa, ca, Y, hq, rfl, rfl, HY, HT, hdok, hrd, hB4, HA, hbr⟩ := hrel
          have hbd := hB4.z
          by_cases hqk : q < K.length
          · obtain ⟨b, off, rfl, hb, hc⟩ := hkp.resolve_left (by omega)
            obtain ⟨c0, c1⟩ := hc q hqk
            have hkr := HKR.out.at q hqk
            have hb1r : Below W1.heap.size W1 wr := bthen' hbw3 hbr
            have hbr2 : b < wr.heap.size := Nat.lt_of_lt_of_le hb hb1r.size
            have d0 := ((bcell hb1r).1 b (off + q * 2) hb).trans c0
            have d1 := ((bcell hb1r).1 b (off + q * 2 + 1) hb).trans c1
            have hqf : q < (fmsOf K).length := by rw [fmsOf_len]; exact hqk
            obtain ⟨t1, ht⟩ := Track.frame kZ_ok HK.out hqf HT.out
            have hxg : gokB ((fmsOf K).getD q Fm0).1 = true := HK.out _ (by simp [List.getD, hqf])
            have hlast : lastG kZ ((fmsOf K).take (q + 1)) = ((fmsOf K).getD q Fm0).1 := by rw [fm_take hqf Fm0, lastG_snoc]
            have hyg : gokB (lastG kZ ((fmsOf K).take q)) = true := lastG_ok kZ_ok (fun f hf => HK.out f (List.mem_of_mem_take hf))
            rw [fmsOf_at K q hqk] at t1 ht hxg hlast
            rw [← HY.out] at t1 hyg
            clear hkp hc c0 c1 HT hb1r
            generalize K.getD q Kp0 = P at *
            obtain ⟨⟨pg, pc⟩, px, pb⟩ := P
            simp only at t1 ht hxg hlast d0 d1 hkr
            have hx5 := gok_len hxg
            rw [hx5] at d0 hkr
            have htake := fun W hr h2 => gtake_any d.C d.R ad d.B.length cd d.A d aa 5 ca Y pb (gok_len hyg).symm W (hdok.dv hr) h2 (by rw [hyg]; simp)
            have hdvw := fun (w1 : World) (hr : Rw .u8 w1 (.slice ad d.B.length cd) d.B) => hdok.dv hr
            rw [t1] at htake
            have hDok := dK_ok hdok pb 5
            have HT2 := hid ht
            have HY2 := hid hlast.symm
            have hsm := fun v1 v2 W h1 h2 => same_yes v1 v2 px W h1 h2 (by rw [hx5]; decide)
            clear ht hlast t1 hxg hyg hx5 hqf
            generalize dK pb d 5 = D at HT2 htake hDok
            unfold TakeP OutD at htake
            have iq1 : (0 : Int) ≤ (q : Int) := by omega
            have iq2 : (q : Int) < (K.length : Int) := by omega
            have iq3 : IntKind.i64.wrap (q : Int) = q := wraps_i64 _ (by omega) (by omega)
            go_wp2
            go_cut [12, 13, 14] (fun p12 p13 p14 wz => ∃ x9 c9 g9, p13 = .slice (some ⟨g9, 0, none⟩) 5 5 ∧ p14 = .int .i64 0 ∧ Hid (∀ w1, Rw .u8 w1 (.slice ad d.B.length cd) d.B → Rw .u8 w1 (.slice x9 D.B.length c9) D.B) ∧ RwF wr.heap.size .i64 wz (.slice (some ⟨g9, 0, none⟩) 5 5) px ∧ Made4 wr wz p12 (.int .u64 D.C) (.int .u32 D.R) (.slice x9 D.B.length c9) (.int .i64 D.A))
            case first =>
              go_region_held3 (fun w' => w'.cell? ⟨w3.heap.size, 0, none⟩ = some (.int .u64 d.C) ∧ w'.cell? ⟨w3.heap.size, 1, none⟩ = some (.int .u32 d.R) ∧ w'.cell? ⟨w3.heap.size, 2, none⟩ = some (.slice ad d.B.length cd) ∧ w'.cell? ⟨w3.heap.size, 3, none⟩ = some (.int .i64 d.A) ∧ w'.cell? ⟨b, off + q * 2, none⟩ = some (.slice pg 5 pc) ∧ w'.cell? ⟨b, off + q * 2 + 1, none⟩ = some (.bool pb)) (exact held42 (by first | exact (Below.refl _ _).drew | exact ((Below.refl _ _).alloc (Nat.le_refl _) _).drew | exact hy1 | exact hy1.alloc hy1.size _ | exact bset4 hy1 _ _ _ _ _ (Nat.le_refl _)) hB4 hbr2 d0 d1) (first | (go_at_call 17; refine (htake _ (hrd.below (bthen' hbr (by first | exact (Below.refl _ _).drew | exact ((Below.refl _ _).alloc (Nat.le_refl _) _).drew | exact hy1 | exact hy1.alloc hy1.size _ | exact bset4 hy1 _ _ _ _ _ (Nat.le_refl _)))) (HA.out.below (by first | exact (Below.refl _ _).drew | exact ((Below.refl _ _).alloc (Nat.le_refl _) _).drew | exact hy1 | exact hy1.alloc hy1.size _ | exact bset4 hy1 _ _ _ _ _ (Nat.le_refl _)))).mono ?_; rintro e y1 ⟨x9, c9, g9, rfl, hg9, q9, e1⟩; have hy1 : Below wr.heap.size wr y1 := bthen' (by first | exact (Below.refl _ _).drew | exact ((Below.refl _ _).alloc (Nat.le_refl _) _).drew | exact hy1 | exact hy1.alloc hy1.size _ | exact bset4 hy1 _ _ _ _ _ (Nat.le_refl _)) e1; obtain ⟨hcA, hfA⟩ := bcell e1))
              all_goals go_wp2
              all_goals go_meet
              all_goals first | exact ⟨x9, c9, g9, rfl, rfl, (fun w1 hr => q9 w1 (hdvw w1 hr)), row_after (hg9.mono (by first | exact Nat.le_refl _ | exact hy1.size | simp)) _, made4_after hy1⟩ | exact ⟨x9, c9, g9, rfl, rfl, (fun w1 hr => q9 w1 (hdvw w1 hr)), row_before4 hg9 _ _ _ _, made4_before e1⟩
            case rest =>
              obtain ⟨x9, c9, g9, rfl, rfl, HQ9, hg9, bx, rfl, hbx, mlo, mbel⟩ := hcut
              have hB6 := hB4.below mbel
              have k0 := ((bcell mbel).1 b (off + q * 2) hbr2).trans d0
              have k1 := ((bcell mbel).1 b (off + q * 2 + 1) hbr2).trans d1
              have hbr6 : Below w3.heap.size w3 wc := bthen' hbr mbel
              have hrd2 := HQ9.out _ hrd
              have hkr2 := hkr.below (bthen hbel3 hbr6 hbel3.size)
              clear d0 d1 hB4 htake mbel HQ9 hbr
              obtain ⟨bz, b0, b1, b2, b3, s0, s1, s2, s3⟩ := id hbx
              obtain ⟨ez, e0, e1, e2, e3, eg0, eg1, eg2, eg3⟩ := id hB6
              go_wp2_with (go_at_call 21; refine (hsm _ _ _ hg9.rw hkr2).mono ?_; rintro e w7 ⟨rfl, hb7⟩; have hbx7 := hbx.below hb7; have hB7 := hB6.below hb7; have hg7 := hg9.below hb7; have hbr7 := bthen' hbr6 hb7; obtain ⟨bz', b0', b1', b2', b3', s0', s1', s2', s3'⟩ := id hbx7; obtain ⟨ez', e0', e1', e2', e3', eg0', eg1', eg2', eg3'⟩ := id hB7)
              go_roundw
              case rel => exact ⟨q + 1, D, x9, c9, _, 5, px, by omega, by go_num, rfl, HY2, HT2, hDok, hrd2, hB7.set _ _ _ _, hid ((((hg7.set _ _ _ hbd).set _ _ _ hbd).set _ _ _ hbd).set _ _ _ hbd).rw, bset4 hbr7 _ _ _ _ _ (Nat.le_refl _)⟩
              case measure => simp [intOf]; omega
          · have hfinal := bthen hbel3 hbr hbel3.size
            go_wp2_with (go_at_call 10; refine (knows_any _).mono ?_; rintro e w9 ⟨rfl, hb9⟩)
            go_ret
            exact ⟨rfl, bthen hfinal hb9 hfinal.size⟩



set_option maxRecDepth 100000 in
theorem lifted (os : Os) (started : os.Started) (H : Type) (enc : TypeId × Value → H) :
    ReturnsInHanded {} Try.checked os 5 .any (Rows.gainBackSpec.pre6 enc Try.prog Try.f5 Rows.gainBackRow.domain false) (Rows.gainBackSpec.post enc Try.prog Try.f5 false true false false) := by
  refine returnsInHanded_of_change (C := Try.checked) own started (by kernel_rfl) Try.func5
    (ChangeSpec.witness6 (enc := enc) (C := Try.checked) false ⟨#[], #[.slice none 0 0], []⟩ 8 (by kernel_rfl) (by kernel_rfl) (by kernel_rfl) (by kernel_rfl)) ?_
  intro W base args ds gs before hval0 hW hcnd _
  have hval : ∀ (j : Nat) t v, Try.f5.params[j]? = some t → args[j]? = some v → Value.okWide Try.prog W .any base t v := hval0
  have hW' := hW
  obtain ⟨p, q, hA0, hV, rfl, hfz, hnd⟩ := hW
  have hA : DataW.TrodAll enc Try.prog W 0 (fun _ => true) true Try.f5.params.toList args.toList ds p := hA0
  rw [Try.params5] at hA hval
  obtain ⟨v0, vs0, d0, ds0, p0, q0, hargs, rfl, rfl, h0, r0⟩ := trodAll_cons hA
  obtain ⟨rfl, rfl, rfl⟩ := trodAll_nil r0
  obtain rfl : args = #[v0] := by cases args; simp_all
  obtain ⟨rfl, rfl⟩ := trodVars_none hV
  have k0 := h0
  have lt0 : ∀ x ∈ p0, x.block < W.heap.size := by obtain ⟨m, hm⟩ := k0; exact DataW.trod_lt m _ _ _ hm
  obtain ⟨a0, len0, cap0, rfl⟩ := okWide_slice Try.underlying53 (hval 0 53 v0 rfl rfl)
  obtain ⟨z0, y0, w0⟩ : ∃ z0 z1, IsFms W a0 len0 z0 z1 := by
    obtain ⟨fuel, hf⟩ := h0
    exact fms_of_trod Try.underlying53 Try.underlying56 (by kernel_rfl) rfl rfl (by kernel_rfl) (by kernel_rfl) (by exact Try.underlying27) (by exact Try.underlying3) (by exact Try.underlying4) (by kernel_rfl) (show DataW.trod enc Try.prog W 0 (fun _ => true) true fuel 53 [.slice a0 len0 cap0] = _ from hf)
  clear hA0 hval0
  refine (walk a0 len0 cap0 z0 y0 W w0).mono fun e W' ⟨he, bel⟩ => ?_
  subst he
  exact ⟨_, rfl, _, _, _, [], _, [], hW', trodAll_mk1 (shut_bool Try.underlying4 _), (trodAll_cons_mk (Below.trod laidOut (by kernel_rfl) (of_decide_eq_true (by kernel_rfl)) k0 bel lt0) trodAll_mk0), rfl, bel.frame _, fun h => by cases h⟩

theorem over : Rows.gainBackRow.holds Try.pinned (OpenSpec.ofChange Rows.gainBackSpec) :=
  OpenClaim.holds_of_wide 5 Try.f5 rfl rfl rfl rfl rfl rfl rfl ⟨rfl, rfl, rfl, rfl, rfl⟩ rfl rfl rfl rfl rfl (by kernel_rfl) Try.func5 (by kernel_rfl)
    (of_decide_eq_true (by kernel_rfl)) (by unfold Func.isWrapper; first | (rw [if_pos (by decide +kernel)]; kernel_rfl) | (rw [if_neg (by decide +kernel)]; exact ⟨rfl, rfl⟩))
    (fun os started H enc _ => lifted os started H enc)

theorem proved : Rows.GainBackSaid := over
#print axioms proved
end Go.Proofs.Ytkfpphccpkfenaa.gainBack
