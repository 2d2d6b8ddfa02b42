/- Contract of the document's Write. -/
import Derived.Test.YtdgacbelpenmmaaVd
import Derived.Test.YtdgacbelpenmmaaVe
import Derived.Deep.DeepCutAuto
import Derived.Deep.CutRange
namespace Go.Proofs.Ytdgacbelpenmmaa
open Go.RowKit
set_option linter.unusedVariables false
set_option linter.unusedSimpArgs false

theorem bl_app (X V N n : Nat) (hX : X < 2 ^ N) : bl (X + V * 2 ^ N) (N + n) = bl X N ++ bl V n := by
  have h1 : bl (X + V * 2 ^ N) N = bl X N := bl_put X V N
  unfold bl at *
  rw [List.range_add, List.map_append, h1, List.map_map]
  congr 1
  apply List.map_congr_left
  intro k hk
  exact bl_put_new X V N k hX
theorem bl_app_map (X V N n : Nat) (hX : X < 2 ^ N) : (bl X N).map (Value.int .i64) ++ (bl V n).map (Value.int .i64) = (bl (X + V * 2 ^ N) (N + n)).map (Value.int .i64) := by
  rw [← List.map_append, bl_app X V N n hX]
theorem bk_zero (l : List Int) (X N : Nat) : X + vhBk l 0 * 2 ^ N = X := by
  show X + 0 * 2 ^ N = X
  rw [Nat.zero_mul, Nat.add_zero]
theorem book_map (l : List Int) (h : Five l) (X N k V : Nat) (hX : X < 2 ^ N) (hV : l.getD k 0 = V) : (bl (X + vhBk l k * 2 ^ N) (N + 5 * k)).map (Value.int .i64) ++ (bl V 5).map (Value.int .i64) = (bl (X + vhBk l (k + 1) * 2 ^ N) (N + 5 * (k + 1))).map (Value.int .i64) := by
  rw [bl_app_map _ _ _ _ (joined_lt X _ N (5 * k) hX (vhBk_lt h k)), ← book_step l X N k, hV, show N + 5 * k + 5 = N + 5 * (k + 1) by omega]
  rfl
set_option maxHeartbeats 4000000 in
theorem rvwrite_any (c q : Int) (af : Option Addr) (nf cf : Nat) (F : List Int) (ar : Option Addr) (nr cr : Nat) (R : List Int) (w : World) (h : Bks w af nf cf F ar nr cr R) (hR : vhRight c q F R = true) :
    Calls Try.prog 18 #[.agg #[.int .i64 c, .int .i64 q, .slice af nf cf, .slice ar nr cr]] w fun e w' => ∃ v, e = .returned v ∧ RwF w.heap.size .u8 w' v (byL (hV c q F R) 41) ∧ Below w.heap.size w w' := by
  have hbl1 := below1 w (.cells #[.int .i64 c, .int .i64 q, .slice af nf cf, .slice ar nr cr] 28)
  have hB0 := B4.new w (.int .i64 c) (.int .i64 q) (.slice af nf cf) (.slice ar nr cr) 28
  have hb := hvb hR
  obtain ⟨h1, h2, h3, h4, h5, h6, h7, h8, h9⟩ := vhRight_parts hR
  obtain rfl : 45 = nf := by rw [← h.lf, h5]
  obtain rfl : 16 = nr := by rw [← h.lr, h6]
  have HL4 := hid (hv_lt4 hb)
  have HL3 := hid (hv_lt3 hb)
  have HL2 := hid (hv_lt2 hb)
  have HL1 := hid (hv_lt1 hb)
  have HF := hid hb.f
  have HR5 := hid hb.r
  have hc0 := hb.c0
  have hq0 := hb.q0
  obtain ⟨VV, hVV⟩ : ∃ VV, hV c q F R = VV := ⟨_, rfl⟩
  rw [hVV]
  unfold hV at HL4 hVV
  obtain ⟨C, hC⟩ : ∃ C : Nat, c - 1 = C := ⟨(c - 1).toNat, by omega⟩
  obtain ⟨Q, hQ⟩ : ∃ Q : Nat, q = Q := ⟨q.toNat, by omega⟩
  rw [show (c - 1).toNat = C by omega] at *
  rw [show q.toNat = Q by omega] at *
  have hcw : IntKind.i64.wrap (c - 1) = (C : Int) := by rw [wraps_i64 _ (by omega) (by omega)]; exact hC
  subst hQ
  have hvf := h.vf.below hbl1
  have hvr := h.vr.below hbl1
  clear h hb hR h7 h8 h9
  have p1 := fun w' => bitsof_any 22099 16 (by decide) (by omega) w'
  have p2 := fun w' => bitsof_any C 1 (by omega) (by omega) w'
  have p3 := fun w' => bitsof_any Q 4 (by omega) (by omega) w'
  obtain ⟨i0, hi, hz0, hz1, hz2⟩ := info_parts info3
  obtain ⟨e9, e0, e1, e2, e3, f0, f1, f2, f3⟩ := id hB0
  go_enter Try.func18, Try.ntmps18
  go_upto_region 1 with fail
  generalize w.alloc (.cells #[.int .i64 c, .int .i64 (Q : Nat), .slice af 45 cf, .slice ar 16 cr] 28) = Wb at *
  go_wp2_with (first | (go_at_call_of 28 (Value.int .i64 16); refine (p1 _).mono ?_; rintro e y1 ⟨v1, rfl, hown1, hy1⟩; obtain ⟨a1, c1, rfl, hc1, hm1, h01⟩ := owns_open hown1; obtain ⟨m1z, m10, m11, m12, m13, o10, o11, o12, o13⟩ := id (hB0.below hy1)) | (go_at_call_of 28 (Value.int .i64 1); refine (p2 _).mono ?_; rintro e y2 ⟨v2, rfl, hown2, hy2⟩; obtain ⟨a2, c2, rfl, hc2, hm2, h02⟩ := owns_open hown2; have hk2 := bthen' hy1 hy2; have hown1' := owns_below hown1 hy2; have hrw2 := Rw.of_owns hown2; clear hown1 hown2; clear m10 m11 m12 m13 o10 o11 o12 o13) | (at_builtin; refine wpList_append_rw rfl _ _ _ rfl Wb.heap.size 3 i0 (.int .i64 0) 8 Try.underlying22 hi hz0 hz1 hz2 rfl .i64 _ 16 _ rfl hown1' a2 c2 (bl C 1) (by rw [bl_length]; rfl) (by rw [bl_length]; exact hrw2) h02 (by rw [bl_length]; unfold maxLen; omega) (by rw [bl_length]; omega) hk2.size ?_; intro v3 y3 hown3 hgrow3; have hk3 := hk2.grown hgrow3 hk2.size (fun k hk => (hown1'.lt k hk).1); rw [bl_length, bl_app_map 22099 C 16 1 (by decide)] at hown3; obtain ⟨a3, c3, rfl, hc3, hm3, h03⟩ := owns_open hown3; clear hown1' hgrow3 hrw2; obtain ⟨m3z, m30, m31, m32, m33, o30, o31, o32, o33⟩ := id (hB0.below hk3)) | (go_at_call_of 28 (Value.int .i64 4); refine (p3 _).mono ?_; rintro e y4 ⟨v4, rfl, hown4, hy4⟩; obtain ⟨a4, c4, rfl, hc4, hm4, h04⟩ := owns_open hown4; have hk4 := bthen hk3 hy4 hk3.size; have hown3' := owns_below hown3 hy4; have hrw4 := Rw.of_owns hown4; clear hown3 hown4; clear m30 m31 m32 m33 o30 o31 o32 o33) | (at_builtin; refine wpList_append_rw rfl _ _ _ rfl Wb.heap.size 3 i0 (.int .i64 0) 8 Try.underlying22 hi hz0 hz1 hz2 rfl .i64 _ 17 _ rfl hown3' a4 c4 (bl Q 4) (by rw [bl_length]; rfl) (by rw [bl_length]; exact hrw4) h04 (by rw [bl_length]; unfold maxLen; omega) (by rw [bl_length]; omega) hk4.size ?_; intro v5 y5 hown5 hgrow5; have hk5 := hk4.grown hgrow5 hk4.size (fun k hk => (hown3'.lt k hk).1); rw [bl_length, bl_app_map _ Q 17 4 HL1.out] at hown5; obtain ⟨a5, c5, rfl, hc5, hm5, h05⟩ := owns_open hown5; clear hown3' hgrow5 hrw4; obtain ⟨m5z, m50, m51, m52, m53, o50, o51, o52, o53⟩ := id (hB0.below hk5)))
  rw [show 17 + 4 = 21 from rfl] at hown5
  have HX3 := hid HL2.out
  have HVV := hid hVV
  clear hVV
  generalize hX3 : 22099 + C * 2 ^ 16 + Q * 2 ^ 17 = X3 at HL4 HL3 HX3 hown5 HVV
  have HO5 := hid hown5
  have HK5 := hid hk5
  clear hown5 hk5 m50 m51 m52 m53 o50 o51 o52 o53 hk2 hy1 hk3 hk4 hy2 hy4 hc5 hm5 h05 hc1 hm1 h01 hc2 hm2 h02 hc3 hm3 h03 hc4 hm4 h04 HL1 hX3 HL2
  go_loopw [3, 4] (fun v p wr => ∃ k : Nat, k ≤ 45 ∧ p = .int .i64 k ∧ Hid (wr.ownsRow Wb.heap.size 3 1 v (21 + 5 * k) ((bl (X3 + vhBk F k * 2 ^ 21) (21 + 5 * k)).map (Value.int .i64))) ∧ Hid (Below Wb.heap.size Wb wr)) (fun _ p _ => 45 - (intOf p).toNat)
  case atStart => exact ⟨0, by omega, rfl, by unfold Hid; rw [bk_zero]; exact HO5.out, HK5⟩
  case round =>
    obtain ⟨k, hk, rfl, HO, HK⟩ := hrel
    obtain ⟨W1, rfl⟩ : ∃ x, x = wr := ⟨wr, rfl⟩
    obtain ⟨av, cv, rfl, hcv, hmv, h0v⟩ := owns_open HO.out
    obtain ⟨gz, g0, g1, g2, g3, j0, j1, j2, j3⟩ := id (hB0.below HK.out)
    by_cases hlt : k < 45
    · have hvk : Rw .i64 W1 (.slice af F.length cf) F := by rw [h5]; exact hvf.below HK.out
      obtain ⟨p0, o0, rfl, _, hc⟩ := hvk.at k (by omega)
      have h5k := HF.out k
      obtain ⟨V, hV⟩ : ∃ V : Nat, F.getD k 0 = V := ⟨(F.getD k 0).toNat, by omega⟩
      have HST := hid (book_map F HF.out X3 21 k V HX3.out hV)
      have hp := fun w' => bitsof_any V 5 (by omega) (by omega) w'
      rw [hV] at hc
      have i1 : (0 : Int) ≤ (k : Int) := by omega
      have i2 : (k : Int) < 45 := by omega
      have i3 : IntKind.i64.wrap (k : Int) = k := wraps_i64 _ (by omega) (by omega)
      clear hV h5k hvk
      go_wp2_with (first | (go_at_call 28; refine (hp _).mono ?_; rintro e y1 ⟨v1, rfl, hown1, hy1⟩; obtain ⟨a1, c1, rfl, hc1, hm1, h01⟩ := owns_open hown1; have hk1 := bthen HK.out hy1 HK.out.size; have hO1 := owns_below HO.out hy1; have hrw1 := Rw.of_owns hown1; clear hown1 g0 g1 g2 g3 j0 j1 j2 j3; obtain ⟨gy, g0, g1, g2, g3, j0, j1, j2, j3⟩ := id (hB0.below hk1)) | (at_builtin; refine wpList_append_rw rfl _ _ _ rfl Wb.heap.size 3 i0 (.int .i64 0) 8 Try.underlying22 hi hz0 hz1 hz2 rfl .i64 _ (21 + 5 * k) _ rfl hO1 a1 c1 (bl V 5) (by rw [bl_length]; rfl) (by rw [bl_length]; exact hrw1) h01 (by rw [bl_length]; unfold maxLen; omega) (by rw [bl_length]; omega) hk1.size ?_; intro v2 y2 hown2 hgrow2; have hk2 := hk1.grown hgrow2 hk1.size (fun k hk => (hO1.lt k hk).1); rw [bl_length, HST.out, show 21 + 5 * k + 5 = 21 + 5 * (k + 1) by omega] at hown2; clear hO1 hgrow2 hrw1))
      exact ⟨⟨k + 1, by omega, by go_num, hown2, hk2⟩, by simp [intOf]; omega⟩
    · have hk45 : k = 45 := by omega
      have HK6 := HK
      have hO := HO.out
      have hO2 : W1.ownsRow Wb.heap.size 3 1 (.slice av (21 + 5 * k) cv) 246 ((bl (X3 + vhBk F 45 * 2 ^ 21) 246).map (Value.int .i64)) := by
        subst hk45; exact hO
      clear hO
      generalize hV4 : X3 + vhBk F 45 * 2 ^ 21 = V4 at hO2 HL3 HL4 HVV
      have HO6 : Hid (W1.ownsRow Wb.heap.size 3 1 (.slice av (21 + 5 * k) cv) (246 + 5 * 0) ((bl (V4 + vhBk R 0 * 2 ^ 246) (246 + 5 * 0)).map (Value.int .i64))) := by unfold Hid; rw [bk_zero]; exact hO2
      clear hO2 HO HK hk45 hV4 hcv hmv h0v HO5 HK5 HX3
      go_wp2
      go_loopw [3, 5] (fun v p wr => ∃ k : Nat, k ≤ 16 ∧ p = .int .i64 k ∧ Hid (wr.ownsRow Wb.heap.size 3 1 v (246 + 5 * k) ((bl (V4 + vhBk R k * 2 ^ 246) (246 + 5 * k)).map (Value.int .i64))) ∧ Hid (Below Wb.heap.size Wb wr)) (fun _ p _ => 16 - (intOf p).toNat)
      case atStart => exact ⟨0, by omega, rfl, HO6, HK6⟩
      case round =>
        obtain ⟨k, hk, rfl, HO, HK⟩ := hrel
        obtain ⟨W1, rfl⟩ : ∃ x, x = wr := ⟨wr, rfl⟩
        obtain ⟨av, cv, rfl, hcv, hmv, h0v⟩ := owns_open HO.out
        obtain ⟨gz, g0, g1, g2, g3, j0, j1, j2, j3⟩ := id (hB0.below HK.out)
        by_cases hlt : k < 16
        · have hvk : Rw .i64 W1 (.slice ar R.length cr) R := by rw [h6]; exact hvr.below HK.out
          obtain ⟨p0, o0, rfl, _, hc⟩ := hvk.at k (by omega)
          have h5k := HR5.out k
          obtain ⟨V, hV⟩ : ∃ V : Nat, R.getD k 0 = V := ⟨(R.getD k 0).toNat, by omega⟩
          have HST := hid (book_map R HR5.out V4 246 k V HL3.out hV)
          have hp := fun w' => bitsof_any V 5 (by omega) (by omega) w'
          rw [hV] at hc
          have i1 : (0 : Int) ≤ (k : Int) := by omega
          have i2 : (k : Int) < 16 := by omega
          have i3 : IntKind.i64.wrap (k : Int) = k := wraps_i64 _ (by omega) (by omega)
          clear hV h5k hvk
          go_wp2_with (first | (go_at_call 28; refine (hp _).mono ?_; rintro e y1 ⟨v1, rfl, hown1, hy1⟩; obtain ⟨a1, c1, rfl, hc1, hm1, h01⟩ := owns_open hown1; have hk1 := bthen HK.out hy1 HK.out.size; have hO1 := owns_below HO.out hy1; have hrw1 := Rw.of_owns hown1; clear hown1 g0 g1 g2 g3 j0 j1 j2 j3; obtain ⟨gy, g0, g1, g2, g3, j0, j1, j2, j3⟩ := id (hB0.below hk1)) | (at_builtin; refine wpList_append_rw rfl _ _ _ rfl Wb.heap.size 3 i0 (.int .i64 0) 8 Try.underlying22 hi hz0 hz1 hz2 rfl .i64 _ (246 + 5 * k) _ rfl hO1 a1 c1 (bl V 5) (by rw [bl_length]; rfl) (by rw [bl_length]; exact hrw1) h01 (by rw [bl_length]; unfold maxLen; omega) (by rw [bl_length]; omega) hk1.size ?_; intro v2 y2 hown2 hgrow2; have hk2 := hk1.grown hgrow2 hk1.size (fun k hk => (hO1.lt k hk).1); rw [bl_length, HST.out, show 246 + 5 * k + 5 = 246 + 5 * (k + 1) by omega] at hown2; clear hO1 hgrow2 hrw1))
          exact ⟨⟨k + 1, by omega, by go_num, hown2, hk2⟩, by simp [intOf]; omega⟩
        · have hm16 : k = 16 := by omega
          have hbb := fun w' hv => bytes_any (.slice av (246 + 5 * k) cv) (V4 + vhBk R 16 * 2 ^ 246) 326 w' hv HL4.out (by omega)
          have hrw : Rw .i64 W1 (.slice av (246 + 5 * k) cv) (bl (V4 + vhBk R 16 * 2 ^ 246) 326) := by
            have hO := HO.out
            subst hm16
            exact Rw.of_owns hO
          have HKK := HK.out
          clear HO hm16 HK
          go_wp2_with (go_at_call 29; refine (hbb _ hrw).mono ?_; rintro e z1 ⟨v, rfl, hown, hy⟩)
          go_ret
          rw [HVV.out] at hown
          exact ⟨_, rfl, (RwF.of_owns hown).mono (Nat.le_trans hbl1.size HKK.size), bthen hbl1 (bthen HKK hy HKK.size |>.mono (Nat.le_refl _)) hbl1.size⟩
end Go.Proofs.Ytdgacbelpenmmaa
