/- A number is put: the program, at a great one; the document. -/
import Derived.Test.YtkfpphccpkfenaaCy
namespace Go.Proofs.Ytkfpphccpkfenaa
open Go.RowKit
set_option linter.unusedVariables false
set_option linter.unusedSimpArgs false

def NumPost (w : World) (x : Ending) (w' : World) (e F2 : En) (er1 er2 : Int) : Prop := (er1 = 0 ∧ er2 = 0 → PutN w x w' F2 0) ∧ (er1 = 0 ∧ (er2 == 0) = false → PutN w x w' e er2) ∧ ((er1 == 0) = false → PutN w x w' e er1)
set_option maxRecDepth 10000 in
set_option maxHeartbeats 4000000 in
theorem putNum_great (L R : Int) (a : Option Addr) (m cap : Nat) (e F1 F2 : En) (er1 er2 : Int) (v n q1 r1 u : Nat) (h2 : 65536 < n) (h3 : n ≤ 4294967296) (hv : v < n) (hq1 : q1 = v / 65536) (hr1 : r1 = v % 65536) (hu : u = (n - 1) / 65536 + 1) (hok1 : F1.Ok)
    (hone1 : ∀ W, EvOf W L R a m cap e → Calls Try.prog 55 #[.agg #[.int .u64 L, .int .u32 R, .slice a m cap], .int .u64 q1, .int .u64 u] W fun x w' => ∃ a' cap', x = .returned (.tuple #[.agg #[.int .u64 F1.low, .int .u32 F1.R, .slice a' F1.m cap'], .int .i64 er1]) ∧ RwF W.heap.size .u8 w' (.slice a' F1.m cap') F1.out ∧ Below W.heap.size W w')
    (hone2 : ∀ W a c, EvOf W F1.low F1.R a F1.m c F1 → Calls Try.prog 55 #[.agg #[.int .u64 F1.low, .int .u32 F1.R, .slice a F1.m c], .int .u64 r1, .int .u64 65536] W fun x w' => ∃ a' cap', x = .returned (.tuple #[.agg #[.int .u64 F2.low, .int .u32 F2.R, .slice a' F2.m cap'], .int .i64 er2]) ∧ RwF W.heap.size .u8 w' (.slice a' F2.m cap') F2.out ∧ Below W.heap.size W w')
    (w : World) (h : EvOf w L R a m cap e) :
    Calls Try.prog 44 #[.agg #[.int .u64 L, .int .u32 R, .slice a m cap], .int .u64 v, .int .u64 n] w fun x w' => NumPost w x w' e F2 er1 er2 := by
  have hup := fun W => upper_any n (by omega) h3 W
  rw [← hu] at hup
  have hd1 : ((v : Int).tdiv 65536) = (q1 : Int) := by rw [hq1]; rfl
  have hd2 : ((v : Int).tmod 65536) = (r1 : Int) := by rw [hr1]; rfl
  have k1 : ¬ (n : Int) < 1 := by omega
  have k2 : ¬ (4294967296 : Int) < n := by omega
  have k3 : ¬ (n : Int) ≤ v := by omega
  have k4 : ¬ (n : Int) ≤ 65536 := by omega
  have k5 : q1 ≤ 65536 := by omega
  have k6 : r1 < 65536 := by omega
  have i1 : IntKind.u64.wrap (q1 : Int) = q1 := nat_u64 _ (by omega)
  have i2 : IntKind.u64.wrap (r1 : Int) = r1 := nat_u64 _ (by omega)
  have i3 : IntKind.u64.wrap ((v : Int).tdiv 65536) = q1 := by rw [hd1, i1]
  have hW := below2 w (.cells #[.int .u64 L, .int .u32 R, .slice a m cap] 26) (.cells #[.int .u64 0, .int .u32 0, .slice none 0 0] 26)
  have hBe := (B3.new w (.int .u64 L) (.int .u32 R) (.slice a m cap) 26).below (below1 _ (.cells #[.int .u64 0, .int .u32 0, .slice none 0 0] 26))
  have hBr := B3.new2 w (.cells #[.int .u64 L, .int .u32 R, .slice a m cap] 26) (.int .u64 0) (.int .u32 0) (.slice none 0 0) 26
  have hev := h.below hW
  have hsz : w.heap.size + 2 ≤ ((w.alloc (.cells #[.int .u64 L, .int .u32 R, .slice a m cap] 26)).alloc (.cells #[.int .u64 0, .int .u32 0, .slice none 0 0] 26)).heap.size := by simp
  have h0 := h
  clear hq1 hr1 hu h2 h3 hv h
  go_enter Try.func44, Try.ntmps44
  go_wp2_with fail
  generalize ((w.alloc (.cells #[.int .u64 L, .int .u32 R, .slice a m cap] 26)).alloc (.cells #[.int .u64 0, .int .u32 0, .slice none 0 0] 26)) = W at *
  go_cut [8, 9] (fun p8 p9 wz => ∃ x9 c9, p9 = .int .i64 er1 ∧ RwF W.heap.size .u8 wz (.slice x9 F1.m c9) F1.out ∧ Made3 W wz p8 (.int .u64 F1.low) (.int .u32 F1.R) (.slice x9 F1.m c9))
  case first =>
    go_region_held3 (fun w' => w'.cell? ⟨w.heap.size, 0, none⟩ = some (.int .u64 L) ∧ w'.cell? ⟨w.heap.size, 1, none⟩ = some (.int .u32 R) ∧ w'.cell? ⟨w.heap.size, 2, none⟩ = some (.slice a m cap)) (exact held3 (by first | exact (Below.refl _ _).drew | exact ((Below.refl _ _).alloc (Nat.le_refl _) _).drew | exact hy1 | exact hy1.alloc hy1.size _ | exact bset3 hy1 _ _ _ _ (Nat.le_refl _)) hBe) (first | (go_at_call 56; refine (hup _).mono ?_; rintro x y0 ⟨rfl, rfl⟩) | (go_at_call 55; refine (hone1 _ (hev.below (by first | exact (Below.refl _ _).drew | exact ((Below.refl _ _).alloc (Nat.le_refl _) _).drew))).mono ?_; rintro x y1 ⟨x9, c9, rfl, q9, e1⟩; have hy1 : Below W.heap.size W y1 := bthen' (by first | exact (Below.refl _ _).drew | exact ((Below.refl _ _).alloc (Nat.le_refl _) _).drew) e1; obtain ⟨hcA, hfA⟩ := bcell e1))
    all_goals go_wp2
    all_goals go_meet
    all_goals first | exact ⟨x9, c9, rfl, row_after q9 _, made3_after hy1⟩ | exact ⟨x9, c9, rfl, row_before3 q9 _ _ _, made3_before e1⟩
  case rest =>
    obtain ⟨x9, c9, rfl, r9, bx, rfl, hbx, mlo, mbel⟩ := hcut
    have hbw : Below w.heap.size w wc := bthen hW mbel hW.size
    have hBe2 := hBe.below mbel
    have hBr2 := hBr.below mbel
    have hev2 := hev.below mbel
    have hevF := hok1.ev r9.rw
    have hmz := mbel.size
    clear hBe hBr hev mbel hone1 hup
    obtain ⟨bz, b0, b1, b2, g0, g1, g2⟩ := id hbx
    obtain ⟨ez, e0, e1, e2, eg0, eg1, eg2⟩ := id hBe2
    obtain ⟨rz, r0, rr1, r2, p0, p1, p2⟩ := id hBr2
    by_cases her1 : er1 = 0
    · subst her1
      have hbq : ∀ y, Below wc.heap.size wc y → Below w.heap.size w y := fun y hy => bthen hbw hy hbw.size
      cases her2 : er2 == 0
      · go_wp2_with (first | (go_at_call 55; refine (hone2 _ _ _ hevF).mono ?_; rintro x w3 ⟨a3, c3, rfl, q3, hb3⟩; obtain ⟨bz', b0', b1', b2', g0', g1', g2'⟩ := hbx.below hb3; obtain ⟨ez', e0', e1', e2', eg0', eg1', eg2'⟩ := hBe2.below hb3; have hB3e := (((hBe2.below hb3).other bx 0 (.int .u64 F2.low) (by omega)).other bx 1 (.int .u32 F2.R) (by omega)).other bx 2 (.slice a3 F2.m c3) (by omega); have hB3r := (((hBr2.below hb3).other bx 0 (.int .u64 F2.low) (by omega)).other bx 1 (.int .u32 F2.R) (by omega)).other bx 2 (.slice a3 F2.m c3) (by omega); have hX3 := bset3 (hbq _ hb3) bx (.int .u64 F2.low) (.int .u32 F2.R) (.slice a3 F2.m c3) (by omega); have hevX : EvOf _ L R a m cap e := h0.below hX3) | (go_at_call 42; refine (encFor_row _ _ _ _ _ e _ hevX).mono ?_; rintro x w4 ⟨a4, c4, rfl, q4, hb4⟩; obtain ⟨rz', r0', rr1', r2', p0', p1', p2'⟩ := hB3r.below hb4))
        have hX4 := bthen hX3 hb4 hX3.size
        have hz3 := hX3.size
        have hz4 := hB3r.z
        have hz5 : w.heap.size + 2 ≤ (((w3.setCell ⟨bx, 0, none⟩ (.int .u64 F2.low)).setCell ⟨bx, 1, none⟩ (.int .u32 F2.R)).setCell ⟨bx, 2, none⟩ (.slice a3 F2.m c3)).heap.size := by have := hb3.size; simp [World.setCell]; omega
        refine bodyPost_ret (v := .tuple #[.agg #[.int .u64 e.low, .int .u32 e.R, .slice a4 e.m c4], .int .i64 er2]) (by simp [results, Try.results44, go_sem, r0', rr1', r2', p0', p1', p2']) rfl ?_
        refine ⟨fun hh => (by rw [hh.2] at her2; simp at her2), fun _ => ⟨a4, c4, rfl, ?_, bset3 hX4 _ _ _ _ (by omega)⟩, fun hh => (by simp at hh)⟩
        exact ((((q4.mono hz5).set _ _ _ (by omega)).set _ _ _ (by omega)).set _ _ _ (by omega)).mono (by omega)
      · have her : er2 = 0 := by simpa using her2
        subst her
        go_wp2_with (go_at_call 55; refine (hone2 _ _ _ hevF).mono ?_; rintro x w3 ⟨a3, c3, rfl, q3, hb3⟩; obtain ⟨bz', b0', b1', b2', g0', g1', g2'⟩ := hbx.below hb3; have hB3r := (((hBr2.below hb3).other bx 0 (.int .u64 F2.low) (by omega)).other bx 1 (.int .u32 F2.R) (by omega)).other bx 2 (.slice a3 F2.m c3) (by omega); have hX3 := bset3 (hbq _ hb3) bx (.int .u64 F2.low) (.int .u32 F2.R) (.slice a3 F2.m c3) (by omega); obtain ⟨rz', r0', rr1', r2', p0', p1', p2'⟩ := id hB3r)
        refine bodyPost_ret (v := .tuple #[.agg #[.int .u64 F2.low, .int .u32 F2.R, .slice a3 F2.m c3], .int .i64 0]) (by simp [results, Try.results44, go_sem, r0', rr1', r2', p0', p1', p2']) rfl ?_
        refine ⟨fun _ => ⟨a3, c3, rfl, ?_, bset3 hX3 _ _ _ _ (by omega)⟩, fun hh => (by simp at hh), fun hh => (by simp at hh)⟩
        exact ((((((q3.set _ _ _ bz).set _ _ _ bz).set _ _ _ bz).set _ _ _ rz).set _ _ _ rz).set _ _ _ rz).mono (by omega)
    · have her1' : (er1 == 0) = false := by simpa using her1
      have hevX : EvOf wc L R a m cap e := h0.below hbw
      go_wp2_with (go_at_call 42; refine (encFor_row _ _ _ _ _ e _ hevX).mono ?_; rintro x w4 ⟨a4, c4, rfl, q4, hb4⟩; obtain ⟨rz', r0', rr1', r2', p0', p1', p2'⟩ := hBr2.below hb4)
      have hX4 := bthen hbw hb4 hbw.size
      refine bodyPost_ret (v := .tuple #[.agg #[.int .u64 e.low, .int .u32 e.R, .slice a4 e.m c4], .int .i64 er1]) (by simp [results, Try.results44, go_sem, r0', rr1', r2', p0', p1', p2']) rfl ?_
      refine ⟨fun hh => absurd hh.1 her1, fun hh => absurd hh.1 her1, fun _ => ⟨a4, c4, rfl, ?_, bset3 hX4 _ _ _ _ (by omega)⟩⟩
      exact ((((q4.set _ _ _ rz).set _ _ _ rz).set _ _ _ rz)).mono (by omega)

/-- PutNum, whatever comes of it. -/
theorem putNum_any (L R : Int) (a : Option Addr) (m cap : Nat) (e : En) (v n : Nat) (w : World) (h : EvOf w L R a m cap e) :
    Calls Try.prog 44 #[.agg #[.int .u64 L, .int .u32 R, .slice a m cap], .int .u64 v, .int .u64 n] w fun x w' => PutN w x w' (putNE e v n) (putNF e v n) := by
  unfold putNE putNF
  by_cases h1 : n = 0 ∨ 4294967296 < n ∨ n ≤ v
  · simp only [h1, if_true]
    exact putNum_arg L R a m cap e v n h1 w h
  · simp only [h1, if_false]
    by_cases h2 : n ≤ 65536
    · simp only [h2, if_true]
      exact putNum_small L R a m cap e v n (by omega) h2 (by omega) w h
    · simp only [h2, if_false]
      have hq : v / 65536 ≤ 4294967296 := by omega
      have hu : (n - 1) / 65536 + 1 ≤ 4294967296 := by omega
      have hr : v % 65536 ≤ 4294967296 := by omega
      have hok1 := putE_ok h.1 (v / 65536 : Nat) ((v / 65536 : Nat) + 1) ((n - 1) / 65536 + 1 : Nat)
      have key := putNum_great L R a m cap e _ _ _ _ v n (v / 65536) (v % 65536) ((n - 1) / 65536 + 1) (by omega) (by omega) (by omega) rfl rfl rfl hok1 (fun W hh => putOne_any L R a m cap e (v / 65536) ((n - 1) / 65536 + 1) hq hu W hh) (fun W a c hh => putOne_any _ _ a _ c _ (v % 65536) 65536 hr (by omega) W hh) w h
      refine key.mono fun x w' hp => ?_
      obtain ⟨g1, g2, g3⟩ := hp
      by_cases k1 : putF e (v / 65536 : Nat) ((v / 65536 : Nat) + 1) ((n - 1) / 65536 + 1 : Nat) = 0
      · simp only [k1, if_true]
        by_cases k2 : putF (putE e (v / 65536 : Nat) ((v / 65536 : Nat) + 1) ((n - 1) / 65536 + 1 : Nat)) (v % 65536 : Nat) ((v % 65536 : Nat) + 1) (65536 : Nat) = 0
        · simp only [k2, if_true]
          exact g1 ⟨k1, k2⟩
        · simp only [k2, if_false]
          exact g2 ⟨k1, by simpa using k2⟩
      · simp only [k1, if_false]
        exact g3 (by simpa using k1)
end Go.Proofs.Ytkfpphccpkfenaa
