/- Contracts of rightAhead, asItWas, putAlone, putAgainst. -/
import Derived.Test.YtkfpphccpkfenaaJb
namespace Go.Proofs.Ytkfpphccpkfenaa
open Go.RowKit
set_option linter.unusedVariables false
set_option linter.unusedSimpArgs false

theorem rightAhead_any (a : Option Addr) (n cap : Nat) (y : List Int) (hn : n = y.length) (intra : Bool) (w : World) (hv : Rw .i64 w (.slice a n cap) y) : Calls Try.prog 27 #[.slice a n cap, .bool intra] w fun e w' => e = .returned (.bool (intra || gokB y)) ∧ w' = w := by
  have hr := fun W h => right_any a n cap y hn W h
  generalize gokB y = q at *
  clear hn
  cases intra
  · go_enter Try.func27, Try.ntmps27
    go_wp2_with (go_at_call 15; refine (hr _ hv).mono ?_; rintro e w9 ⟨rfl, h9⟩; have h9 := h9.symm; subst h9)
    go_ret
    exact ⟨rfl, rfl⟩
  · go_enter Try.func27, Try.ntmps27
    go_wp2
    go_ret
    exact ⟨rfl, rfl⟩

/-- An encoder in memory, as a call hands it back. -/
def EnV (w' : World) (x : Value) (F : En) : Prop := ∃ a' cap', x = .agg #[.int .u64 F.low, .int .u32 F.R, .slice a' F.m cap'] ∧ Rw .u8 w' (.slice a' F.m cap') F.out
set_option maxRecDepth 10000 in
set_option maxHeartbeats 2000000 in
theorem asItWas_any (L R : Int) (a : Option Addr) (n cap : Nat) (e : En) (w : World) (h : EvOf w L R a n cap e) :
    Calls Try.prog 28 #[.agg #[.int .u64 L, .int .u32 R, .slice a n cap]] w fun x w' => ∃ a' cap', x = .returned (.agg #[.int .u64 e.low, .int .u32 e.R, .slice a' e.m cap']) ∧ RwF w.heap.size .u8 w' (.slice a' e.m cap') e.out ∧ Below w.heap.size w w' := by
  have hW := below2 w (.cells #[.int .u64 L, .int .u32 R, .slice a n cap] 26) (.cells #[.int .u64 0, .int .u32 0, .slice none 0 0] 26)
  have hput := fun W h => put_arg L R a n cap e 0 0 0 W h (by decide)
  unfold encV at hput
  go_enter Try.func28, Try.ntmps28
  go_wp2_with (go_at_call 43; refine (hput _ (h.below hW)).mono ?_; rintro x w1 ⟨a1, cap1, rfl, hown, hb1⟩; have hBr := (B3.new2 w (.cells #[.int .u64 L, .int .u32 R, .slice a n cap] 26) (.int .u64 0) (.int .u32 0) (.slice none 0 0) 26).below hb1; have hBe := ((B3.new w (.int .u64 L) (.int .u32 R) (.slice a n cap) 26).below (below1 _ (.cells #[.int .u64 0, .int .u32 0, .slice none 0 0] 26))).below hb1; obtain ⟨rz, r0, r1, r2, p0, p1, p2⟩ := id hBr; obtain ⟨ez, e0, e1, e2, f0, f1, f2⟩ := id hBe)
  have hbw := bthen hW hb1 hW.size
  refine bodyPost_ret (v := .agg #[.int .u64 e.low, .int .u32 e.R, .slice a1 e.m cap1]) (by simp [results, Try.results28, go_sem, r0, r1, r2, p0, p1, p2, e0, e1, e2, f0, f1, f2]) rfl ⟨a1, cap1, rfl, ?_, bset3 (bset3 hbw _ _ _ _ (by omega)) _ _ _ _ (by omega)⟩
  have q := RwF.of_owns hown
  simp only [World.size_alloc] at q
  exact ((((((q.set _ _ _ (by omega)).set _ _ _ (by omega)).set _ _ _ (by omega)).set _ _ _ (by omega)).set _ _ _ (by omega)).set _ _ _ (by omega)).mono (by omega)

/-- What a call that puts choices answers. -/
def OneP (w : World) (x : Ending) (w' : World) (e : En) (l : List (Nat × Nat × Nat)) : Prop := ∃ F a' cap', F.Ok ∧ (rm e l = true → F = puts e l) ∧ x = .returned (.tuple #[.agg #[.int .u64 F.low, .int .u32 F.R, .slice a' F.m cap'], .int .i64 (rmF e l)]) ∧ RwF w.heap.size .u8 w' (.slice a' F.m cap') F.out ∧ Below w.heap.size w w'

set_option maxRecDepth 10000 in
set_option maxHeartbeats 2000000 in
theorem putAlone_any (L R : Int) (a : Option Addr) (n cap : Nat) (e : En) (G : Nat) (hG : G ≤ 44) (w : World) (h : EvOf w L R a n cap e) :
    Calls Try.prog 29 #[.agg #[.int .u64 L, .int .u32 R, .slice a n cap], .int .i64 G] w fun x w' => OneP w x w' e [(G, G + 1, 45)] := by
  have hW := below2 w (.cells #[.int .u64 L, .int .u32 R, .slice a n cap] 26) (.cells #[.int .u64 0, .int .u32 0, .slice none 0 0] 26)
  have hput := fun W h => putNum_any L R a n cap e G 45 W h
  obtain ⟨h1, h2⟩ := num_one (e := e) (v := G) (n := 45) (by omega) (by decide)
  have hok := putNE_ok h.1 G 45
  rw [h1] at hput
  generalize putNE e G 45 = F at *
  unfold OneP
  clear h1
  generalize rmF e [(G, G + 1, 45)] = er at *
  have i1 : IntKind.u64.wrap (G : Int) = G := nat_u64 _ (by omega)
  go_enter Try.func29, Try.ntmps29
  go_wp2_with (go_at_call 44; refine (hput _ (h.below hW)).mono ?_; rintro x w1 ⟨a1, cap1, rfl, hrw, hb1⟩; have hBr := (B3.new2 w (.cells #[.int .u64 L, .int .u32 R, .slice a n cap] 26) (.int .u64 0) (.int .u32 0) (.slice none 0 0) 26).below hb1; obtain ⟨rz, r0, r1, r2, p0, p1, p2⟩ := id hBr)
  have hbw := bthen hW hb1 hW.size
  refine bodyPost_ret (v := .tuple #[.agg #[.int .u64 F.low, .int .u32 F.R, .slice a1 F.m cap1], .int .i64 er]) (by simp [results, Try.results29, go_sem, r0, r1, r2, p0, p1, p2]) rfl ⟨F, a1, cap1, hok, h2, rfl, ?_, bset3 hbw _ _ _ _ (by omega)⟩
  simp only [World.size_alloc] at hrw
  exact (((hrw.set _ _ _ (by omega)).set _ _ _ (by omega)).set _ _ _ (by omega)).mono (by omega)

set_option maxRecDepth 10000 in
set_option maxHeartbeats 2000000 in
theorem putAgainst_near (L R : Int) (a : Option Addr) (n cap : Nat) (e : En) (G A : Nat) (hG : G ≤ 44) (hA : A ≤ 44) (hn : A ≤ G + 3 ∧ G ≤ A + 3) (w : World) (h : EvOf w L R a n cap e) :
    Calls Try.prog 30 #[.agg #[.int .u64 L, .int .u32 R, .slice a n cap], .int .i64 G, .int .i64 A] w fun x w' => OneP w x w' e (chG false G A) := by
  have hW := below2 w (.cells #[.int .u64 L, .int .u32 R, .slice a n cap] 26) (.cells #[.int .u64 0, .int .u32 0, .slice none 0 0] 26)
  have hc : chG false G A = [(G + 3 - A, G + 3 - A + 1, 8)] := by unfold chG; rw [if_neg (by decide), if_pos hn]
  rw [hc]
  clear hc
  obtain ⟨K, hK⟩ : ∃ K, G + 3 - A = K := ⟨_, rfl⟩
  have hK7 : K < 7 := by omega
  have hK2 : (G : Int) - (A : Int) + 3 = (K : Int) := by omega
  rw [hK]
  have hput := fun W h => put_all L R a n cap e K (K + 1) 8 W h
  obtain ⟨h1, h2⟩ := put_one (e := e) (lo := K) (hi := K + 1) (tot := 8) (fair_one (by omega) (by decide))
  rw [show ((K + 1 : Nat) : Int) = (K : Int) + 1 by omega] at h1 h2
  have hok := putE_ok h.1 K (K + 1) 8
  have h1' : putF e (K : Int) ((K : Int) + 1) 8 = rmF e [(K, K + 1, 8)] := h1
  have h2' : rm e [(K, K + 1, 8)] = true → putE e (K : Int) ((K : Int) + 1) 8 = puts e [(K, K + 1, 8)] := h2
  rw [h1'] at hput
  generalize putE e (K : Int) ((K : Int) + 1) 8 = F at *
  unfold OneP
  clear h1 h2 h1'
  generalize rmF e [(K, K + 1, 8)] = er at *
  have k0 : (0 : Int) ≤ (K : Int) := by omega
  have k7 : (K : Int) < 7 := by omega
  clear hn hK hK7
  go_enter Try.func30, Try.ntmps30
  go_wp2_with (go_at_call 43; refine (hput _ (h.below hW)).mono ?_; rintro x w1 ⟨a1, cap1, rfl, hown, hb1⟩; have hBr := (B3.new2 w (.cells #[.int .u64 L, .int .u32 R, .slice a n cap] 26) (.int .u64 0) (.int .u32 0) (.slice none 0 0) 26).below hb1; obtain ⟨rz, r0, r1, r2, p0, p1, p2⟩ := id hBr)
  have hbw := bthen hW hb1 hW.size
  refine bodyPost_ret (v := .tuple #[.agg #[.int .u64 F.low, .int .u32 F.R, .slice a1 F.m cap1], .int .i64 er]) (by simp [results, Try.results30, go_sem, r0, r1, r2, p0, p1, p2]) rfl ⟨F, a1, cap1, hok, h2', rfl, ?_, bset3 hbw _ _ _ _ (by omega)⟩
  have hrw := RwF.of_owns hown
  simp only [World.size_alloc] at hrw
  exact (((hrw.set _ _ _ (by omega)).set _ _ _ (by omega)).set _ _ _ (by omega)).mono (by omega)

set_option maxRecDepth 10000 in
set_option maxHeartbeats 2000000 in
theorem putAgainst_far (L R : Int) (a : Option Addr) (n cap : Nat) (e : En) (G A : Nat) (hG : G ≤ 44) (hA : A ≤ 44) (hn : ¬ (A ≤ G + 3 ∧ G ≤ A + 3)) (w : World) (h : EvOf w L R a n cap e) :
    Calls Try.prog 30 #[.agg #[.int .u64 L, .int .u32 R, .slice a n cap], .int .i64 G, .int .i64 A] w fun x w' => OneP w x w' e (chG false G A) := by
  have hW := below2 w (.cells #[.int .u64 L, .int .u32 R, .slice a n cap] 26) (.cells #[.int .u64 0, .int .u32 0, .slice none 0 0] 26)
  have hc : chG false G A = [(7, 8, 8), (G, G + 1, 45)] := by unfold chG; rw [if_neg (by decide), if_neg hn]
  rw [hc]
  clear hc
  obtain ⟨K, hK2⟩ : ∃ K, (G : Int) - (A : Int) + 3 = K := ⟨_, rfl⟩
  have hK : K < 0 ∨ 7 ≤ K := by omega
  have hput := fun W h => put_all L R a n cap e 7 8 8 W h
  obtain ⟨h1, h2⟩ := put_one (e := e) (lo := 7) (hi := 8) (tot := 8) (fair_one (by omega) (by decide))
  have hok := putE_ok h.1 7 8 8
  have h1' : putF e 7 8 8 = rmF e [(7, 8, 8)] := h1
  have h2' : rm e [(7, 8, 8)] = true → putE e 7 8 8 = puts e [(7, 8, 8)] := h2
  have h3 := rm_two e (7, 8, 8) (G, G + 1, 45)
  rw [h1'] at hput
  clear h1 h2 h1'
  have hal := fun L R a n cap W h => putAlone_any L R a n cap (putE e 7 8 8) G hG W h
  unfold OneP
  unfold OneP at hal
  have hpu : puts e [(7, 8, 8), (G, G + 1, 45)] = puts (puts e [(7, 8, 8)]) [(G, G + 1, 45)] := rfl
  cases hr : rm e [(7, 8, 8)]
  · rw [hr, Bool.false_and] at h3
    have e3 : rmF e [(7, 8, 8)] = 3 := by unfold rmF; rw [hr]; rfl
    have e4 : rmF e [(7, 8, 8), (G, G + 1, 45)] = 3 := by unfold rmF; rw [h3]; rfl
    rw [e3] at hput
    rw [e4, h3]
    clear hal hpu h2' e3 e4 h3 hr
    generalize putE e 7 8 8 = F at *
    clear hn
    go_enter Try.func30, Try.ntmps30
    rcases hK with hK | hK
    all_goals
      go_wp2_with (go_at_call 43; refine (hput _ (h.below hW)).mono ?_; rintro x w1 ⟨a1, cap1, rfl, hown, hb1⟩; have hBr := (B3.new2 w (.cells #[.int .u64 L, .int .u32 R, .slice a n cap] 26) (.int .u64 0) (.int .u32 0) (.slice none 0 0) 26).below hb1; have hBe := ((B3.new w (.int .u64 L) (.int .u32 R) (.slice a n cap) 26).below (below1 _ (.cells #[.int .u64 0, .int .u32 0, .slice none 0 0] 26))).below hb1; obtain ⟨rz, r0, r1, r2, p0, p1, p2⟩ := id hBr; obtain ⟨ez, e0, e1, e2, f0, f1, f2⟩ := id hBe)
      have hbw := bthen hW hb1 hW.size
      refine bodyPost_ret (v := .tuple #[.agg #[.int .u64 F.low, .int .u32 F.R, .slice a1 F.m cap1], .int .i64 3]) (by simp [results, Try.results30, go_sem, r0, r1, r2, p0, p1, p2, e0, e1, e2, f0, f1, f2]) rfl ⟨F, a1, cap1, hok, (fun hh => by cases hh), rfl, ?_, bset3 (bset3 hbw _ _ _ _ (by omega)) _ _ _ _ (by omega)⟩
      have hrw := RwF.of_owns hown
      simp only [World.size_alloc] at hrw
      exact ((((((hrw.set _ _ _ (by omega)).set _ _ _ (by omega)).set _ _ _ (by omega)).set _ _ _ (by omega)).set _ _ _ (by omega)).set _ _ _ (by omega)).mono (by omega)
  · rw [hr, Bool.true_and] at h3
    have e3 : rmF e [(7, 8, 8)] = 0 := by unfold rmF; rw [hr]; rfl
    have e4 : rmF e [(7, 8, 8), (G, G + 1, 45)] = rmF (puts e [(7, 8, 8)]) [(G, G + 1, 45)] := by unfold rmF; rw [h3]
    rw [e3] at hput
    rw [h2' hr] at hput hok hal
    rw [e4, h3, hpu]
    clear hpu h2' e3 e4 h3 hr
    generalize puts e [(7, 8, 8)] = F at *
    generalize rmF F [(G, G + 1, 45)] = er at *
    have hFe := fun (a : Option Addr) (c : Nat) (W : World) (hr : Rw .u8 W (.slice a F.m c) F.out) => hok.ev hr
    clear hn
    go_enter Try.func30, Try.ntmps30
    rcases hK with hK | hK
    all_goals
      go_wp2_with (first | (go_at_call 43; refine (hput _ (h.below hW)).mono ?_; rintro x w1 ⟨a1, cap1, rfl, hown, hb1⟩; have hBr := (B3.new2 w (.cells #[.int .u64 L, .int .u32 R, .slice a n cap] 26) (.int .u64 0) (.int .u32 0) (.slice none 0 0) 26).below hb1; have hBe := ((B3.new w (.int .u64 L) (.int .u32 R) (.slice a n cap) 26).below (below1 _ (.cells #[.int .u64 0, .int .u32 0, .slice none 0 0] 26))).below hb1; obtain ⟨ez, e0, e1, e2, f0, f1, f2⟩ := id hBe; have hbw := bthen hW hb1 hW.size; have hr0 := RwF.of_owns hown; simp only [World.size_alloc] at hr0; have hr1 := (((hr0.set w.heap.size 0 (.int .u64 F.low) (by omega)).set w.heap.size 1 (.int .u32 F.R) (by omega)).set w.heap.size 2 (.slice a1 F.m cap1) (by omega)).rw; have hbw1 := bset3 hbw w.heap.size (.int .u64 F.low) (.int .u32 F.R) (.slice a1 F.m cap1) (Nat.le_refl _); have hBr1 := ((hBr.other w.heap.size 0 (.int .u64 F.low) (by omega)).other w.heap.size 1 (.int .u32 F.R) (by omega)).other w.heap.size 2 (.slice a1 F.m cap1) (by omega)) | (go_at_call 29; refine (hal _ _ _ _ _ _ (hFe _ _ _ hr1)).mono ?_; rintro x w2 ⟨F2, a2, cap2, hok2, hF2, rfl, hrw2, hb2⟩; obtain ⟨rz, r0, r1, r2, p0, p1, p2⟩ := hBr1.below hb2))
      have hbw2 := bthen hbw1 hb2 hbw1.size
      have hz2 := hbw1.size
      refine bodyPost_ret (v := .tuple #[.agg #[.int .u64 F2.low, .int .u32 F2.R, .slice a2 F2.m cap2], .int .i64 er]) (by simp [results, Try.results30, go_sem, r0, r1, r2, p0, p1, p2]) rfl ⟨F2, a2, cap2, hok2, hF2, rfl, ?_, bset3 hbw2 _ _ _ _ (by omega)⟩
      have hzz := hBr1.z
      exact (((hrw2.set _ _ _ hzz).set _ _ _ hzz).set _ _ _ hzz).mono hz2
end Go.Proofs.Ytkfpphccpkfenaa
