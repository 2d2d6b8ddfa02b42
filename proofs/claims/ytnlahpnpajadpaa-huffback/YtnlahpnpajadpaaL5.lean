/- The Go function of the statement HuffBack returns true at every input, and leaves each argument as it read. No condition. -/
import Derived.Test.YtnlahpnpajadpaaXl
import Derived.Deep.RegionHeld3
import Derived.Deep.CutRange
import Derived.Deep.DeepCutAuto
import Derived.ProofKit
import Derived.OpenShut
import Derived.ShutString
import Derived.ChangeOld
import Derived.Lib.SmallJoins
namespace Go.Proofs.Ytnlahpnpajadpaa.huffBack
open Go.ChangeShapes Go.WideShapes Go.ChangeAt Go.RowKit Go.Joins
set_option linter.unusedVariables false
set_option linter.unusedSimpArgs false

theorem own : ownKnob Try.prog.godebug = none := by kernel_rfl
theorem laidOut : laidOutB Try.prog = true := by kernel_rfl

set_option maxRecDepth 10000 in
set_option maxHeartbeats 4000000 in
theorem walk (a0 : Option Addr) (len0 cap0 : Nat) (z0 : List Int) (a1 : Option Addr) (len1 cap1 : Nat) (z1 : List Int) (w : World) (w0 : IsRow .i64 w a0 len0 cap0 z0) (w1 : IsRow .i64 w a1 len1 cap1 z1) :
    Calls Try.prog 7 #[.slice a0 len0 cap0, .slice a1 len1 cap1] w fun e w' => e = .returned (.bool true) ∧ Below w.heap.size w w' := by
  obtain ⟨l, rfl, hl, _⟩ := row_rw_any w0
  obtain ⟨ss, rfl, hss, _⟩ := row_rw_any w1
  clear w0 w1
  by_cases hg : 200 < l.length
  · have hg2 : (200 : Int) < l.length := by omega
    go_enter Try.func7, Try.ntmps7
    go_wp2_with (go_at_call 10; refine (knows_any _).mono ?_; rintro e w9 ⟨rfl, hb9⟩)
    go_ret
    exact ⟨rfl, hb9⟩
  have hg2 : (l.length : Int) ≤ 200 := by omega
  clear hg
  obtain ⟨i0, hi, hz0, hz1, hz2⟩ := info_parts info3
  have hss0 := hss
  obtain ⟨a, c, he, hal⟩ := hss
  simp only [Value.slice.injEq, true_and] at he
  obtain ⟨rfl, rfl⟩ := he
  go_enter Try.func7, Try.ntmps7
  go_wp2
  go_loopw [6, 7] (fun kv i wr => ∃ (j : Nat) (K : List Int) (X M : Nat) (a : Option Addr) (c : Nat), j ≤ 100 ∧ j ≤ ss.length ∧ i = .int .i64 j ∧ K.length ≤ j ∧ Kept l w wr kv K X M a c) (fun _ i _ => 100 - (intOf i).toNat)
  case atStart => exact ⟨0, [], 0, 0, none, 0, by omega, by omega, rfl, by simp, ⟨EncH.nil l, by simp [go_sem], by simp [go_sem], by simp [go_sem], by simp [go_sem], ⟨none, 0, rfl, .inl rfl⟩, World.ownsRow_nil _ _ _ _, below1 _ _, by simp⟩⟩
  case round =>
    obtain ⟨j, K, X, M, a, c, hj, hjl, rfl, hK, hk⟩ := hrel
    have hM : M ≤ 1600 := by have := hk.enc.le; omega
    by_cases hlt : j < ss.length ∧ j < 100
    · obtain ⟨hl1, hl2⟩ := hlt
      have hl1' : (j : Int) < (ss.length : Int) := by omega
      have hl2' : (j : Int) < 100 := by omega
      obtain ⟨b, off, rfl, hb, hc⟩ := hal.resolve_left (by intro h; subst h; simp at hl1)
      have c0 := hc j hl1
      have hbr : b < wr.heap.size := Nat.lt_of_lt_of_le hb hk.bel.size
      have d0 := (hk.bel.cell (p := ⟨b, off + j, none⟩) hb).trans c0
      generalize ss.getD j 0 = z at d0
      have s0 := hk.cell0
      have s1 := hk.cell1
      have i1 : (0 : Int) ≤ (j : Int) := by omega
      have i3 : IntKind.i64.wrap (j : Int) = j := wraps_i64 _ (by omega) (by omega)
      clear c0 hc hal
      have hrow := hk.row
      have hlo := hk.lt
      have hvl := hl.below hk.bel
      by_cases hok : rightL l = true ∧ usedS l z = true
      · have HK : Hid _ := hok
        have hwr := fun W h1 h2 => back_ok hk.enc hM z hok.1 hok.2 a c (.slice a0 l.length cap0) W h1 h2
        have henc : Hid _ := hk.enc.snoc hok.1 hok.2
        have hn16 : ln l z ≤ 16 := by
          have := inB_at (right_parts hok.1).2.2.1 z.toNat
          unfold ln; omega
        generalize X + rvb (cd l z.toNat) (ln l z) (ln l z) * 2 ^ M = X' at hwr henc
        generalize ln l z = n at hwr henc hn16
        clear hok
        go_wp2
        go_cut [8, 9] (fun p6 p7 wz => ∃ x9 c9, p7 = .int .i64 0 ∧ RwF wr.heap.size .u8 wz (.slice x9 ((M + n + 7) / 8) c9) (byL X' ((M + n + 7) / 8)) ∧ Made wr wz p6 (.slice x9 ((M + n + 7) / 8) c9) (.int .i64 ((M : Int) + (n : Int))))
        case first =>
          go_region_held3 (fun w' => w'.cell? ⟨w.heap.size, 0, none⟩ = some (.slice a ((M + 7) / 8) c) ∧ w'.cell? ⟨w.heap.size, 1, none⟩ = some (.int .i64 (M : Int)) ∧ w'.cell? ⟨b, off + j, none⟩ = some (.int .i64 z)) (exact held3' (by first | exact (Below.refl _ _).drew | exact ((Below.refl _ _).alloc (Nat.le_refl _) _).drew | exact hy1 | exact hy1.alloc hy1.size _ | exact bset2 hy1 _ _ _ _ _ _ (Nat.le_refl _) (Nat.le_refl _)) hlo hbr s0 s1 d0) (first | (go_at_call 17; refine (hwr _ (hrow.rw.below (by first | exact (Below.refl _ _).drew | exact ((Below.refl _ _).alloc (Nat.le_refl _) _).drew | exact hy1 | exact hy1.alloc hy1.size _ | exact bset2 hy1 _ _ _ _ _ _ (Nat.le_refl _) (Nat.le_refl _))) (hvl.below (by first | exact (Below.refl _ _).drew | exact ((Below.refl _ _).alloc (Nat.le_refl _) _).drew | exact hy1 | exact hy1.alloc hy1.size _ | exact bset2 hy1 _ _ _ _ _ _ (Nat.le_refl _) (Nat.le_refl _)))).mono ?_; rintro e y1 ⟨x9, c9, rfl, r9, e1⟩; have hy1 : Below wr.heap.size wr y1 := bthen' (by first | exact (Below.refl _ _).drew | exact ((Below.refl _ _).alloc (Nat.le_refl _) _).drew | exact hy1 | exact hy1.alloc hy1.size _ | exact bset2 hy1 _ _ _ _ _ _ (Nat.le_refl _) (Nat.le_refl _)) e1; obtain ⟨hcA, hfA⟩ := bcell e1))
          all_goals go_wp2
          all_goals go_meet
          all_goals first | exact ⟨x9, c9, rfl, row_after r9 _ _ (Nat.le_refl _), made_after hy1⟩ | exact ⟨x9, c9, rfl, row_before r9 _ _, made_before e1⟩
        case rest =>
          obtain ⟨x9, c9, rfl, r9, bx, rfl, m0, m1, mz, mlo, mbel⟩ := hcut
          have hbw : Below w.heap.size w wc := bthen hk.bel mbel hk.bel.size
          have u0 := ((bcell mbel).1 w.heap.size 0 hlo).trans s0
          have u1 := ((bcell mbel).1 w.heap.size 1 hlo).trans s1
          have g0 := ((bcell mbel).2 w.heap.size 0 hlo).trans hk.fr0
          have g1 := ((bcell mbel).2 w.heap.size 1 hlo).trans hk.fr1
          have e0 := ((bcell mbel).1 b (off + j) hbr).trans d0
          have hown := owns_below hk.own mbel
          have hzc : w.heap.size < wc.heap.size := by omega
          have hbc : b < wc.heap.size := by have := mbel.size; omega
          clear s0 s1 d0 hrow hwr
          go_wp2_with (at_builtin; refine wpList_append_own _ rfl _ _ 22 rfl (w.heap.size + 1) 3 i0 (.int .i64 0) 1 8 Try.underlying22 hi hz0 hz1 hz2 rfl (by decide) _ _ _ rfl (hown.alloc _) ⟨_, 0, none⟩ 1 1 [_] rfl rfl (cell_one_new _ _ _) ?c2 ?c3 ?c4 ?c5 ?_)
          case c2 => intro u hu; simp at hu; subst hu; rfl
          case c3 => unfold maxLen; omega
          case c4 => omega
          case c5 => simp; omega
          intro v' w1 hown' hgrow _
          have hlt := hk.own.lt
          have n0 : ∀ k, u6.ownBlock = some k → k ≠ w.heap.size := fun k hk' => by have := hlt k hk'; omega
          have n1 : ∀ k, u6.ownBlock = some k → k ≠ bx := fun k hk' => by have := hlt k hk'; omega
          have u0' := (grown_cell hgrow w.heap.size 0 hzc n0).1.trans u0
          have u1' := (grown_cell hgrow w.heap.size 1 hzc n0).1.trans u1
          have g0' := (grown_cell hgrow w.heap.size 0 hzc n0).2.trans g0
          have g1' := (grown_cell hgrow w.heap.size 1 hzc n0).2.trans g1
          have m0' := (grown_cell hgrow bx 0 mz n1).1.trans m0
          have m1' := (grown_cell hgrow bx 1 mz n1).1.trans m1
          have r9' := (r9.below (below1 _ (.cells #[.int .i64 z] 3))).grown hgrow (fun i e => (hlt i e).2)
          have hbw' := (hbw.alloc hbw.size (.cells #[.int .i64 z] 3)).grown hgrow (by simp; omega) (fun k e => by have := hlt k e; omega)
          have hz1' : w.heap.size < w1.heap.size := by have := hgrow.size; simp at this; omega
          have hown2 : w1.ownsRow (w.heap.size + 1) 3 1 v' (K ++ [z]).length ((K ++ [z]).map (Value.int .i64)) := by
            rw [List.map_append, List.length_append, List.length_singleton]; exact hown'
          clear hown' hgrow hown u0 u1 g0 g1 m0 m1 r9 hbw hlt n0 n1 e0
          have hback := hk.back henc.out hbw' ⟨_, u0'⟩ ⟨_, u1'⟩ g0' g1' hz1' r9' hown2
          rw [show ((M + n : Nat) : Int) = (M : Int) + (n : Int) by omega] at hback
          have HB : Hid _ := hback
          clear hback
          go_wp2
          exact ⟨⟨j + 1, K ++ [z], X', M + n, x9, c9, by omega, by omega, by go_num, by simp; omega, HB.out⟩, by simp [intOf]; omega⟩
      · have hno : rightL l = false ∨ usedS l z = false := by
          cases h1 : rightL l
          · exact .inl rfl
          · cases h2 : usedS l z
            · exact .inr rfl
            · exact absurd ⟨h1, h2⟩ hok
        have hwr := fun W h1 h2 => back_no (X := X) hM z hno a c (.slice a0 l.length cap0) W h1 h2
        clear hok
        have HNO : Hid _ := hno
        clear hno
        go_wp2
        go_cut [8, 9] (fun p6 p7 wz => ∃ x9 n9 c9 M9, p7 = .int .i64 1 ∧ Made wr wz p6 (.slice x9 n9 c9) (.int .i64 M9))
        case first =>
          go_region_held3 (fun w' => w'.cell? ⟨w.heap.size, 0, none⟩ = some (.slice a ((M + 7) / 8) c) ∧ w'.cell? ⟨w.heap.size, 1, none⟩ = some (.int .i64 (M : Int)) ∧ w'.cell? ⟨b, off + j, none⟩ = some (.int .i64 z)) (exact held3' (by first | exact (Below.refl _ _).drew | exact ((Below.refl _ _).alloc (Nat.le_refl _) _).drew | exact hy1 | exact hy1.alloc hy1.size _ | exact bset2 hy1 _ _ _ _ _ _ (Nat.le_refl _) (Nat.le_refl _)) hlo hbr s0 s1 d0) (first | (go_at_call 17; refine (hwr _ (hrow.rw.below (by first | exact (Below.refl _ _).drew | exact ((Below.refl _ _).alloc (Nat.le_refl _) _).drew | exact hy1 | exact hy1.alloc hy1.size _ | exact bset2 hy1 _ _ _ _ _ _ (Nat.le_refl _) (Nat.le_refl _))) (hvl.below (by first | exact (Below.refl _ _).drew | exact ((Below.refl _ _).alloc (Nat.le_refl _) _).drew | exact hy1 | exact hy1.alloc hy1.size _ | exact bset2 hy1 _ _ _ _ _ _ (Nat.le_refl _) (Nat.le_refl _)))).mono ?_; rintro e y1 ⟨x9, n9, c9, M9, rfl, e1⟩; have hy1 : Below wr.heap.size wr y1 := bthen' (by first | exact (Below.refl _ _).drew | exact ((Below.refl _ _).alloc (Nat.le_refl _) _).drew | exact hy1 | exact hy1.alloc hy1.size _ | exact bset2 hy1 _ _ _ _ _ _ (Nat.le_refl _) (Nat.le_refl _)) e1; obtain ⟨hcA, hfA⟩ := bcell e1))
          all_goals go_wp2
          all_goals go_meet
          all_goals first | exact ⟨x9, n9, c9, M9, rfl, made_after hy1⟩ | exact ⟨x9, n9, c9, M9, rfl, made_before e1⟩
        case rest =>
          obtain ⟨x9, n9, c9, M9, rfl, bx, rfl, m0, m1, mz, mlo, mbel⟩ := hcut
          have hback := hk.stay mbel
          clear s0 s1 d0 hrow hwr m0 m1
          go_wp2
          exact ⟨⟨j + 1, K, X, M, a, c, by omega, by omega, by go_num, by omega, hback⟩, by simp [intOf]; omega⟩
    · by_cases hl3 : j < ss.length
      · have hl2 : 100 ≤ j := by omega
        have hl3' : (j : Int) < (ss.length : Int) := by omega
        have hl2' : (100 : Int) ≤ (j : Int) := by omega
        clear hlt
        obtain ⟨W1, rfl⟩ : ∃ x, x = wr := ⟨wr, rfl⟩
        have hkrow := Rw.of_owns hk.own
        obtain ⟨ka, kc, rfl, hkp⟩ := hkrow
        have hKl : K.length ≤ 100 := by omega
        have s0 := hk.cell0
        have s1 := hk.cell1
        have hlo := hk.lt
        have hbelw := hk.bel
        have hrow := hk.row.rw
        have henc := hk.enc
        have hvl := hl.below hk.bel
        have HS : Hid (sumH l K K.length = M) := hk.enc.n.symm
        clear hal hk
        go_wp2
        go_loopw [11] (fun i wr => ∃ q : Nat, q ≤ K.length ∧ i = .int .i64 q ∧ Red l W1 wr K q a ((M + 7) / 8) c) (fun i _ => K.length - (intOf i).toNat)
        case atStart => exact ⟨0, by omega, rfl, ⟨by simp [go_sem], by simp [go_sem, sumH_zero], by simp [go_sem], by simp [go_sem], below1 _ _, by simp⟩⟩
        case round =>
          obtain ⟨q, hq, rfl, hr⟩ := hrel
          by_cases hqk : q < K.length
          · obtain ⟨b, off, rfl, hb, hc⟩ := hkp.resolve_left (by intro h; subst h; simp at hqk)
            have c0 := hc q hqk
            have hrd := read_kept henc hM q hqk a c _ wr (hrow.below hr.bel) (hvl.below hr.bel)
            have hz2' := hr.bel.size
            have hrl := hr.lt
            have hb2 : b < wr.heap.size := by omega
            have d0 := ((bcell hr.bel).1 b (off + q) hb).trans c0
            have t0 := hr.cell0
            have t1 := hr.cell1
            clear hkp hc c0
            generalize K.getD q 0 = y at d0 hrd
            go_wp2_with (go_at_call 21; refine hrd.mono ?_; rintro e w5 ⟨rfl, hb5⟩; clear t0 t1; have hb6 := hb5.alloc hb5.size (.cells #[.slice a ((M + 7) / 8) c, .int .i64 (sumH l K (q + 1) : Int)] 45); obtain ⟨t0, t1, t2, t3, t4⟩ := box_below hb6 hr.lt hr.cell0 hr.cell1 hr.fr0 hr.fr1; have d1 := ((bcell hb6).1 b (off + q) hb2).trans d0; have hback := hr.back hb6)
            exact ⟨⟨q + 1, by omega, by go_num, hback⟩, by simp [intOf]; omega⟩
          · have hqe : q = K.length := by omega
            subst hqe
            have t0 := hr.cell0
            have t1 := hr.cell1
            have hrl := hr.lt
            rw [HS.out] at t1
            have z0 := ((bcell hr.bel).1 w.heap.size 0 hlo).trans s0
            have z1 := ((bcell hr.bel).1 w.heap.size 1 hlo).trans s1
            have hb2 := bthen hbelw hr.bel hbelw.size
            clear hkp hrow henc hqk hr s0 s1
            go_wp2_with (go_at_call 10; refine (knows_any _).mono ?_; rintro e w9 ⟨rfl, hb9⟩)
            go_ret
            exact ⟨rfl, bthen hb2 hb9 hb2.size⟩
      · have hl2 : ss.length ≤ j := by omega
        have hl2' : (ss.length : Int) ≤ (j : Int) := by omega
        clear hlt hl3
        obtain ⟨W1, rfl⟩ : ∃ x, x = wr := ⟨wr, rfl⟩
        have hkrow := Rw.of_owns hk.own
        obtain ⟨ka, kc, rfl, hkp⟩ := hkrow
        have hKl : K.length ≤ 100 := by omega
        have s0 := hk.cell0
        have s1 := hk.cell1
        have hlo := hk.lt
        have hbelw := hk.bel
        have hrow := hk.row.rw
        have henc := hk.enc
        have hvl := hl.below hk.bel
        have HS : Hid (sumH l K K.length = M) := hk.enc.n.symm
        clear hal hk
        go_wp2
        go_loopw [11] (fun i wr => ∃ q : Nat, q ≤ K.length ∧ i = .int .i64 q ∧ Red l W1 wr K q a ((M + 7) / 8) c) (fun i _ => K.length - (intOf i).toNat)
        case atStart => exact ⟨0, by omega, rfl, ⟨by simp [go_sem], by simp [go_sem, sumH_zero], by simp [go_sem], by simp [go_sem], below1 _ _, by simp⟩⟩
        case round =>
          obtain ⟨q, hq, rfl, hr⟩ := hrel
          by_cases hqk : q < K.length
          · obtain ⟨b, off, rfl, hb, hc⟩ := hkp.resolve_left (by intro h; subst h; simp at hqk)
            have c0 := hc q hqk
            have hrd := read_kept henc hM q hqk a c _ wr (hrow.below hr.bel) (hvl.below hr.bel)
            have hz2' := hr.bel.size
            have hrl := hr.lt
            have hb2 : b < wr.heap.size := by omega
            have d0 := ((bcell hr.bel).1 b (off + q) hb).trans c0
            have t0 := hr.cell0
            have t1 := hr.cell1
            clear hkp hc c0
            generalize K.getD q 0 = y at d0 hrd
            go_wp2_with (go_at_call 21; refine hrd.mono ?_; rintro e w5 ⟨rfl, hb5⟩; clear t0 t1; have hb6 := hb5.alloc hb5.size (.cells #[.slice a ((M + 7) / 8) c, .int .i64 (sumH l K (q + 1) : Int)] 45); obtain ⟨t0, t1, t2, t3, t4⟩ := box_below hb6 hr.lt hr.cell0 hr.cell1 hr.fr0 hr.fr1; have d1 := ((bcell hb6).1 b (off + q) hb2).trans d0; have hback := hr.back hb6)
            exact ⟨⟨q + 1, by omega, by go_num, hback⟩, by simp [intOf]; omega⟩
          · have hqe : q = K.length := by omega
            subst hqe
            have t0 := hr.cell0
            have t1 := hr.cell1
            have hrl := hr.lt
            rw [HS.out] at t1
            have z0 := ((bcell hr.bel).1 w.heap.size 0 hlo).trans s0
            have z1 := ((bcell hr.bel).1 w.heap.size 1 hlo).trans s1
            have hb2 := bthen hbelw hr.bel hbelw.size
            clear hkp hrow henc hqk hr s0 s1
            go_wp2_with (go_at_call 10; refine (knows_any _).mono ?_; rintro e w9 ⟨rfl, hb9⟩)
            go_ret
            exact ⟨rfl, bthen hb2 hb9 hb2.size⟩


set_option maxRecDepth 100000 in
theorem lifted (os : Os) (started : os.Started) (H : Type) (enc : TypeId × Value → H) :
    ReturnsInHanded {} Try.checked os 7 .any (Rows.huffBackSpec.pre6 enc Try.prog Try.f7 Rows.huffBackRow.domain false) (Rows.huffBackSpec.post enc Try.prog Try.f7 false true false false) := by
  refine returnsInHanded_of_change (C := Try.checked) own started (by kernel_rfl) Try.func7
    (ChangeSpec.witness6 (enc := enc) (C := Try.checked) false ⟨#[], #[.slice none 0 0, .slice none 0 0], []⟩ 8 (by kernel_rfl) (by kernel_rfl) (by kernel_rfl) (by kernel_rfl)) ?_
  intro W base args ds gs before hval0 hW hcnd _
  have hval : ∀ (j : Nat) t v, Try.f7.params[j]? = some t → args[j]? = some v → Value.okWide Try.prog W .any base t v := hval0
  have hW' := hW
  obtain ⟨p, q, hA0, hV, rfl, hfz, hnd⟩ := hW
  have hA : DataW.TrodAll enc Try.prog W 0 (fun _ => true) true Try.f7.params.toList args.toList ds p := hA0
  rw [Try.params7] at hA hval
  obtain ⟨v0, vs0, d0, ds0, p0, q0, hargs, rfl, rfl, h0, r0⟩ := trodAll_cons hA
  obtain ⟨v1, vs1, d1, ds1, p1, q1, rfl, rfl, rfl, h1, r1⟩ := trodAll_cons r0
  obtain ⟨rfl, rfl, rfl⟩ := trodAll_nil r1
  obtain rfl : args = #[v0, v1] := by cases args; simp_all
  obtain ⟨rfl, rfl⟩ := trodVars_none hV
  have k0 := h0
  have lt0 : ∀ x ∈ p0, x.block < W.heap.size := by obtain ⟨m, hm⟩ := k0; exact DataW.trod_lt m _ _ _ hm
  obtain ⟨a0, len0, cap0, rfl⟩ := okWide_slice Try.underlying22 (hval 0 22 v0 rfl rfl)
  obtain ⟨z0, w0⟩ : ∃ zs, IsRow .i64 W a0 len0 cap0 zs := by
    obtain ⟨fuel, hf⟩ := h0
    obtain ⟨a', l', c', zs, he, hr⟩ := ints_of_trod Try.underlying22 Try.underlying3 (by kernel_rfl) (show DataW.trod enc Try.prog W 0 (fun _ => true) true fuel 22 [.slice a0 len0 cap0] = _ from hf)
    simp only [Value.slice.injEq] at he
    obtain ⟨rfl, rfl, rfl⟩ := he
    exact ⟨zs, hr⟩
  have k1 := h1
  have lt1 : ∀ x ∈ p1, x.block < W.heap.size := by obtain ⟨m, hm⟩ := k1; exact DataW.trod_lt m _ _ _ hm
  obtain ⟨a1, len1, cap1, rfl⟩ := okWide_slice Try.underlying22 (hval 1 22 v1 rfl rfl)
  obtain ⟨z1, w1⟩ : ∃ zs, IsRow .i64 W a1 len1 cap1 zs := by
    obtain ⟨fuel, hf⟩ := h1
    obtain ⟨a', l', c', zs, he, hr⟩ := ints_of_trod Try.underlying22 Try.underlying3 (by kernel_rfl) (show DataW.trod enc Try.prog W 0 (fun _ => true) true fuel 22 [.slice a1 len1 cap1] = _ from hf)
    simp only [Value.slice.injEq] at he
    obtain ⟨rfl, rfl, rfl⟩ := he
    exact ⟨zs, hr⟩
  clear hA0 hval0
  refine (walk a0 len0 cap0 z0 a1 len1 cap1 z1 W w0 w1).mono fun e W' ⟨he, bel⟩ => ?_
  subst he
  exact ⟨_, rfl, _, _, _, [], _, [], hW', trodAll_mk1 (shut_bool Try.underlying4 _), (trodAll_cons_mk (Below.trod laidOut (by kernel_rfl) (of_decide_eq_true (by kernel_rfl)) k0 bel lt0) (trodAll_cons_mk (Below.trod laidOut (by kernel_rfl) (of_decide_eq_true (by kernel_rfl)) k1 bel lt1) trodAll_mk0)), rfl, bel.frame _, fun h => by cases h⟩

theorem over : Rows.huffBackRow.holds Try.pinned (OpenSpec.ofChange Rows.huffBackSpec) :=
  OpenClaim.holds_of_wide 7 Try.f7 rfl rfl rfl rfl rfl rfl rfl ⟨rfl, rfl, rfl, rfl, rfl⟩ rfl rfl rfl rfl rfl (by kernel_rfl) Try.func7 (by kernel_rfl)
    (of_decide_eq_true (by kernel_rfl)) (by unfold Func.isWrapper; first | (rw [if_pos (by decide +kernel)]; kernel_rfl) | (rw [if_neg (by decide +kernel)]; exact ⟨rfl, rfl⟩))
    (fun os started H enc _ => lifted os started H enc)

theorem proved : Rows.HuffBackSaid := over
#print axioms proved
end Go.Proofs.Ytnlahpnpajadpaa.huffBack
