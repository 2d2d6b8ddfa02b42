/- The contract of the document's Write, at a symbol that is used. -/
import Derived.Test.YtnlahpnpajadpaaXm
import Derived.Deep.CutRange
import Derived.Deep.DeepCutAuto
namespace Go.Proofs.Ytnlahpnpajadpaa
open Go.RowKit Go.Maps
set_option linter.unusedVariables false
set_option linter.unusedSimpArgs false

theorem boxes_set {w1 : World} {B : Nat} {x0 x1 y0 y1 : Value} (u v : Value) (q0 : w1.cell? ⟨B, 0, none⟩ = some x0) (q1 : w1.cell? ⟨B, 1, none⟩ = some x1) (q2 : w1.cell? ⟨B + 1, 0, none⟩ = some y0) (q3 : w1.cell? ⟨B + 1, 1, none⟩ = some y1) (f2 : w1.frozen? ⟨B + 1, 0, none⟩ = false) (f3 : w1.frozen? ⟨B + 1, 1, none⟩ = false) (hz : B + 1 < w1.heap.size) :
    ((w1.setCell ⟨B, 0, none⟩ u).setCell ⟨B, 1, none⟩ v).cell? ⟨B, 0, none⟩ = some u ∧ ((w1.setCell ⟨B, 0, none⟩ u).setCell ⟨B, 1, none⟩ v).cell? ⟨B, 1, none⟩ = some v ∧ ((w1.setCell ⟨B, 0, none⟩ u).setCell ⟨B, 1, none⟩ v).cell? ⟨B + 1, 0, none⟩ = some y0 ∧ ((w1.setCell ⟨B, 0, none⟩ u).setCell ⟨B, 1, none⟩ v).cell? ⟨B + 1, 1, none⟩ = some y1 ∧
      ((w1.setCell ⟨B, 0, none⟩ u).setCell ⟨B, 1, none⟩ v).frozen? ⟨B + 1, 0, none⟩ = false ∧ ((w1.setCell ⟨B, 0, none⟩ u).setCell ⟨B, 1, none⟩ v).frozen? ⟨B + 1, 1, none⟩ = false ∧ B + 1 < ((w1.setCell ⟨B, 0, none⟩ u).setCell ⟨B, 1, none⟩ v).heap.size := by
  refine ⟨?_, ?_, ?_, ?_, ?_, ?_, ?_⟩
  · simp [go_sem, q0, q1]
  · simp [go_sem, q0, q1]
  · simp [go_sem, q0, q1, q2]
  · simp [go_sem, q0, q1, q3]
  · simp [f2]
  · simp [f3]
  · simp [World.setCell]; omega

theorem two_kept {w2 W : World} {B : Nat} {u v : Value} (h : Below w2.heap.size w2 W) (hB : B < w2.heap.size) (t0 : w2.cell? ⟨B, 0, none⟩ = some u) (t1 : w2.cell? ⟨B, 1, none⟩ = some v) : W.cell? ⟨B, 0, none⟩ = some u ∧ W.cell? ⟨B, 1, none⟩ = some v :=
  ⟨((bcell h).1 B 0 hB).trans t0, ((bcell h).1 B 1 hB).trans t1⟩

theorem own_empty' {w w3 : World} {e : TypeId} (h : Below (w.alloc (.cells #[] e)).drew.heap.size (w.alloc (.cells #[] e)).drew w3) : w3.ownsRow w.heap.size e 1 (.slice (some ⟨w.heap.size, 0, none⟩) 0 0) 0 [] :=
  owns_below (w := (w.alloc (.cells #[] e)).drew) (own_empty (Nat.le_refl _)) h

set_option maxHeartbeats 4000000 in
set_option maxRecDepth 10000 in
theorem rwrite_used (a : Option Addr) (cap : Nat) (vl : Value) (xs l : List Int) (M : Int) (s X N : Nat) (w : World) (hv : Rw .u8 w (.slice a xs.length cap) xs) (hx : Byts xs) (hlx : xs.length ≤ 100000) (hvl : Rw .i64 w vl l) (hr : rightL l = true) (hs : s < l.length) (h0 : 0 < l.getD s 0) (hst : Stands xs M X N) :
    Calls Try.prog 18 #[.agg #[.slice a xs.length cap, .int .i64 M], vl, .int .i64 s] w fun e w' =>
      (N + (l.getD s 0).toNat ≤ 32000 ∧ ∃ x c ys, Hid (ys = byL (X + rvb (cd l s) (l.getD s 0).toNat (l.getD s 0).toNat * 2 ^ N) ((N + (l.getD s 0).toNat + 7) / 8)) ∧ e = .returned (.tuple #[.agg #[.slice x ys.length c, .int .i64 ((N + (l.getD s 0).toNat : Nat) : Int)], .int .i64 0]) ∧ Rw .u8 w' (.slice x ys.length c) ys ∧ Below w.heap.size w w') ∨
      (32000 < N + (l.getD s 0).toNat ∧ ∃ x c ys G, Hid (ys = goodX xs M) ∧ Hid (G = goodN xs M) ∧ e = .returned (.tuple #[.agg #[.slice x ys.length c, .int .i64 G], .int .i64 3]) ∧ Rw .u8 w' (.slice x ys.length c) ys ∧ Below w.heap.size w w') := by
  have hl1 := (right_parts hr).1
  have hl2 := (right_parts hr).2.1
  have hb16 := inB_at (right_parts hr).2.2.1 s
  have hW := below2 w (.cells #[.slice a xs.length cap, .int .i64 M] 38) (.cells #[.slice none 0 0, .int .i64 0] 38)
  have hv1 := hv.below hW
  have hvl0 := hvl
  have HST : Hid (Stands xs M X N) := hst
  have hN32 := hst.2.2.2
  clear hst
  obtain ⟨al, cl, rfl, hal⟩ := hvl
  obtain ⟨bl_, ol, rfl, hbl, hcl⟩ := hal.resolve_left (by intro h0; subst h0; simp at hl1)
  have g0 := hcl s hs
  have hcd := fun W h => code_any (.slice (some ⟨bl_, ol, none⟩) l.length cl) l s W h hr hs h0
  clear hal hcl
  generalize l.getD s 0 = z at h0 hb16 g0 hcd ⊢
  obtain ⟨n, rfl⟩ := Int.eq_ofNat_of_zero_le hb16.1
  rw [Int.toNat_natCast] at hcd ⊢
  generalize cd l s = C at hcd ⊢
  have hn0 : (((n : Int)) == 0) = false := by simp; omega
  have i1 : (0 : Int) ≤ (s : Int) := by omega
  have i2 : (s : Int) < (l.length : Int) := by omega
  have i3 : IntKind.i64.wrap (s : Int) = s := wraps_i64 _ (by omega) (by omega)
  have i4 : decide ((l.length : Int) ≤ (s : Int)) = false := decide_eq_false (by omega)
  have HF : Hid (N + n ≤ 32000 ∨ 32000 < N + n) := by unfold Hid; omega
  go_enter Try.func18, Try.ntmps18
  go_wp2_with (first | (go_at_call 27; refine (rgood _ _ xs M w _ hv hv1 hx hlx).mono ?_; rintro e w1 ⟨x, c, ys, G, HY, HG, rfl, hrw, hb1⟩; obtain ⟨q0, q1, q2, q3, f0, f1, f2, f3, hz⟩ := two_boxes hb1; have hB1 := bthen hW hb1 hW.size; obtain rfl : G = (N : Int) := HG.out.trans HST.out.2.1) | (go_at_call 12; refine (rright4_any _ l _ (hvl0.below (bset2 hB1 _ _ _ _ _ _ (Nat.le_refl _) (Nat.le_refl _)))).mono ?_; rintro e w' ⟨rfl, rfl⟩; rw [hr]; obtain ⟨r0, r1, r2, r3, s2, s3, hzW⟩ := boxes_set (.slice x ys.length c) (.int .i64 (N : Int)) q0 q1 q2 q3 f2 f3 hz; have hBW := bset2 hB1 w.heap.size w.heap.size 0 1 (.slice x ys.length c) (.int .i64 (N : Int)) (Nat.le_refl _) (Nat.le_refl _); have g1 := (hBW.cell (p := ⟨bl_, ol + s, none⟩) hbl).trans g0; clear q0 q1 q2 q3 f0 f1 f2 f3 hz hb1 hB1 g0; generalize ((w1.setCell ⟨w.heap.size, 0, none⟩ (.slice x ys.length c)).setCell ⟨w.heap.size, 1, none⟩ (.int .i64 (N : Int))) = W at *) | (go_at_call 15; refine (hcd _ (hvl0.below hBW)).mono ?_; rintro e w2 ⟨v2, rfl, hown2, hb2⟩; obtain ⟨a2, c2, rfl, hc2, hm2, h02⟩ := owns_open hown2; have t0 := ((bcell hb2).1 w.heap.size 0 (by omega)).trans r0; have t1 := ((bcell hb2).1 w.heap.size 1 (by omega)).trans r1; have t2 := ((bcell hb2).1 (w.heap.size + 1) 0 (by omega)).trans r2; have t3 := ((bcell hb2).1 (w.heap.size + 1) 1 (by omega)).trans r3; have u2 := ((bcell hb2).2 (w.heap.size + 1) 0 (by omega)).trans s2; have u3 := ((bcell hb2).2 (w.heap.size + 1) 1 (by omega)).trans s3))
  all_goals have hB2 : Below w.heap.size w w2 := bthen hBW hb2 hBW.size
  all_goals have hz2 : W.heap.size ≤ w2.heap.size := hb2.size
  · have hB := bset2 hB2 (w.heap.size + 1) (w.heap.size + 1) 0 1 (.slice x ys.length c) (.int .i64 (N : Int)) (by omega) (by omega)
    refine bodyPost_ret (v := .tuple #[.agg #[.slice x ys.length c, .int .i64 (N : Int)], .int .i64 3]) (by simp [results, Try.results18, go_sem, t2, t3, u2, u3]) rfl (.inr ⟨by omega, x, c, ys, _, HY, HG, rfl, hrw.below hB, hB⟩)
  · rename_i hfit
    have HFIT : Hid (N + n ≤ 32000) := by unfold Hid; omega
    obtain ⟨hst1, hst2, hst3, hst4⟩ := HST.out
    have hys : ys.length = (N + 7) / 8 := by rw [HY.out, hst1, byL_length]
    have hyb : Byts ys := by rw [HY.out]; exact good_byts hx M
    have hyv : bv ys = X := by rw [HY.out, hst1]; exact (right_byL X N hst3 hst4).2
    have HX : Hid (X < 2 ^ N) := hst3
    have HL : Hid (ys.length = (N + 7) / 8) := hys
    have HV : Hid (bv ys = X) := hyv
    obtain ⟨i0, hi, hz0, hz1, hz2'⟩ := info_parts info3
    clear hst1 hst2 hst3 hst4 hys hyv
    go_cut [9] (fun v wz => ∃ x9 c9, v = .slice x9 N c9 ∧ (x9 = none → c9 = 0) ∧ wz.ownsRow w2.heap.size 3 1 (.slice x9 N c9) N ((bl X N).map (Value.int .i64)) ∧ Below w2.heap.size w2 wz)
    case first =>
      go_region_held3 (fun w' => w'.cell? ⟨w.heap.size, 0, none⟩ = some (.slice x ys.length c) ∧ w'.cell? ⟨w.heap.size, 1, none⟩ = some (.int .i64 (N : Int))) (first | exact ⟨t0, t1⟩ | exact two_kept (by first | exact (Below.refl _ _).drew | exact ((Below.refl _ _).alloc (Nat.le_refl _) _).drew | exact hy3 | exact hy3.alloc hy3.size _ | exact (hy3.alloc hy3.size _).drew | exact hy3.drew | exact hy4) (by omega) t0 t1) (first | (go_at_call 28; refine (bits_any _ ys _ (hrw.below (bthen hB2 (by first | exact (Below.refl _ _).drew | exact ((Below.refl _ _).alloc (Nat.le_refl _) _).drew | exact hy3 | exact hy3.alloc hy3.size _ | exact (hy3.alloc hy3.size _).drew | exact hy3.drew | exact hy4) hB2.size)) hyb (by have := HL.out; omega)).mono ?_; rintro e w3 ⟨v3, rfl, hown3, hb3⟩; obtain ⟨a3, c3, rfl, hc3, hm3, h03⟩ := owns_open hown3; have hy3 : Below w2.heap.size w2 w3 := bthen (by first | exact (Below.refl _ _).drew | exact ((Below.refl _ _).alloc (Nat.le_refl _) _).drew | exact hy3 | exact hy3.alloc hy3.size _ | exact (hy3.alloc hy3.size _).drew | exact hy3.drew | exact hy4) hb3 (by simp); have hN3 : (N : Int) ≤ c3 := (by have := HL.out; omega); have hown4 := owns_cut (n := N) hown3 (by have := HL.out; omega) (fun _ h => h03 h); rw [← List.map_take, bl_take _ _ _ (by have := HL.out; omega), HV.out] at hown4; have hrwc := Rw.of_owns hown4) | (refine step_append_rw (by rfl) _ _ _ (by rfl) w2.heap.size 3 i0 (.int .i64 0) 8 Try.underlying22 hi hz0 hz1 hz2' rfl .i64 (.slice (some ⟨w2.heap.size, 0, none⟩) 0 0) 0 [] rfl (own_empty' hb3) a3 N c3 (bl X N) (bl_length _ _) rfl hrwc h03 (by unfold maxLen; omega) (by omega) hy3.size ?_; intro v9 w4 hown9 hgrow; have hy4 : Below w2.heap.size w2 w4 := hy3.grown hgrow hy3.size (fun k hk => by have := hy3.size; simp [Value.ownBlock] at hk; omega); rw [Nat.zero_add, List.nil_append] at hown9; obtain ⟨x9, c9, rfl, hc9, hm9, h09⟩ := owns_open hown9) | (refine step_append_rw (by rfl) _ _ _ (by rfl) w2.heap.size 3 i0 (.int .i64 0) 8 Try.underlying22 hi hz0 hz1 hz2' rfl .i64 (.slice (some ⟨w3.heap.size, 0, none⟩) 0 0) 0 [] rfl (own_empty hy3.size) a3 N c3 (bl X N) (bl_length _ _) rfl (hrwc.below ((Below.refl _ _).alloc (Nat.le_refl _) _)) h03 (by unfold maxLen; omega) (by omega) (by have := hy3.size; simp; omega) ?_; intro v9 w4 hown9 hgrow; have hy4 : Below w2.heap.size w2 w4 := (hy3.alloc hy3.size _).grown hgrow (by have := hy3.size; simp; omega) (fun k hk => by have := hy3.size; simp [Value.ownBlock] at hk; omega); rw [Nat.zero_add, List.nil_append] at hown9; obtain ⟨x9, c9, rfl, hc9, hm9, h09⟩ := owns_open hown9))
      all_goals go_wp2
      all_goals go_meet
      all_goals exact ⟨x9, c9, rfl, h09, hown9, hy4⟩
    case rest =>
      obtain ⟨x9, c9, rfl, h09, hown9, hy4⟩ := hcut
      have hrc := (Rw.of_owns hown2).below hy4
      have hsl := sp_len C n
      go_wp2_with (at_builtin; refine wpList_append_rw rfl _ _ _ rfl w2.heap.size 3 i0 (.int .i64 0) 8 Try.underlying22 hi hz0 hz1 hz2' rfl .i64 _ N _ rfl hown9 a2 c2 (sp C n) (by rw [sp_len]; rfl) (by rw [sp_len]; exact hrc) h02 (by unfold maxLen; omega) (by omega) hy4.size ?_)
      intro v8 w5 hown8 hgrow8
      have hy5 : Below w2.heap.size w2 w5 := hy4.grown hgrow8 hy4.size (fun k hk => (hown9.lt k hk).1)
      rw [← List.map_append, ← bl_written X C n N HX.out] at hown8
      obtain ⟨x8, c8, rfl, hc8, hm8, h08⟩ := owns_open hown8
      have HZ : Hid (X + rvb C n n * 2 ^ N < 2 ^ (N + n)) := put_lt _ _ _ _ HX.out (rvb_lt C n n)
      clear hgrow8 hown9 hy4 hrc hsl hown2 t0 t1
      generalize hZ : X + rvb C n n * 2 ^ N = Z at hown8 HZ
      have HZe : Hid (X + rvb C n n * 2 ^ N = Z) := hZ
      clear hZ
      go_wp2_with (go_at_call 29; refine (bytes_any _ Z (N + n) _ (Rw.of_owns hown8) HZ.out (by omega)).mono ?_; rintro e w6 ⟨v6, rfl, hown6, hb6⟩; obtain ⟨x6, c6, rfl, hc6, hm6, h06⟩ := owns_open hown6; have hy6 : Below w2.heap.size w2 w6 := bthen hy5 hb6 hy5.size; have p2 := ((bcell hy6).1 (w.heap.size + 1) 0 (by omega)).trans t2; have p3 := ((bcell hy6).1 (w.heap.size + 1) 1 (by omega)).trans t3; have o2 := ((bcell hy6).2 (w.heap.size + 1) 0 (by omega)).trans u2; have o3 := ((bcell hy6).2 (w.heap.size + 1) 1 (by omega)).trans u3)
      have hz5 : w2.heap.size ≤ w5.heap.size := hy5.size
      have hB6 := bset2 (bthen hB2 hy6 hB2.size) (w.heap.size + 1) (w.heap.size + 1) 0 1 (.slice x6 ((N + n + 7) / 8) c6) (.int .i64 ((N : Int) + (n : Int))) (by omega) (by omega)
      refine bodyPost_ret (v := .tuple #[.agg #[.slice x6 ((N + n + 7) / 8) c6, .int .i64 ((N : Int) + (n : Int))], .int .i64 0]) (by simp [results, Try.results18, go_sem, p2, p3, o2, o3]) rfl (.inl ⟨HFIT.out, x6, c6, byL Z ((N + n + 7) / 8), (by unfold Hid; rw [HZe.out]), by rw [byL_length]; simp, ?_, hB6⟩)
      rw [byL_length]
      exact (((RwF.of_owns hown6).set (w.heap.size + 1) 0 _ (by omega)).set (w.heap.size + 1) 1 _ (by omega)).rw
end Go.Proofs.Ytnlahpnpajadpaa
