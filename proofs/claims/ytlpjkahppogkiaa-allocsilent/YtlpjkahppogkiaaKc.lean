/- Contracts of the program's share: what one pulse more costs, and is worth, whether a band may have one, that it gets one. -/
import Derived.Test.YtlpjkahppogkiaaKb
namespace Go.Proofs.Ytlpjkahppogkiaa
open Go.RowKit
set_option linter.unusedVariables false
set_option linter.unusedSimpArgs false

/-- A channel's share in memory: its struct s, its gains, its pulses in the block p. -/
structure Sh (W : World) (s p gb go gc : Nat) (g : List Int) (f : Nat → Nat) (left : Int) : Prop where
  box : B3 W s (.slice (some ⟨gb, go, none⟩) 5 gc) (.slice (some ⟨p, 0, none⟩) 5 5) (.int .i64 left)
  ga : ∀ i, i < 5 → W.cell? ⟨gb, go + i, none⟩ = some (.int .i64 (g.getD i 0))
  gl : gb < W.heap.size
  pu : Blk .i64 3 W p (pls f)
  n1 : s ≠ p
  n2 : s ≠ gb
  n3 : p ≠ gb
theorem Sh.below {W w' : World} {s p gb go gc : Nat} {g : List Int} {f : Nat → Nat} {left : Int} (h : Sh W s p gb go gc g f left) (hb : Below W.heap.size W w') : Sh w' s p gb go gc g f left :=
  ⟨h.box.below hb, fun i hi => ((bcell hb).1 _ _ h.gl).trans (h.ga i hi), Nat.lt_of_lt_of_le h.gl hb.size, h.pu.below hb, h.n1, h.n2, h.n3⟩
theorem Sh.drewN {W : World} {s p gb go gc : Nat} {g : List Int} {f : Nat → Nat} {left : Int} (h : Sh W s p gb go gc g f left) (n : Nat) : Sh (W.drewN n) s p gb go gc g f left := h.below (drewN_below (Below.refl _ _) n)
theorem Sh.pat {W : World} {s p gb go gc : Nat} {g : List Int} {f : Nat → Nat} {left : Int} (h : Sh W s p gb go gc g f left) (b : Nat) (hb : b < 5) : W.cell? ⟨p, b, none⟩ = some (.int .i64 (f b : Nat)) := by
  have := h.pu.cell b (by rw [pls_len]; exact hb)
  rw [pls_at _ _ hb] at this
  exact this
theorem Sh.held {W w' : World} {s p gb go gc b : Nat} {g : List Int} {f : Nat → Nat} {left : Int} (hb : Below W.heap.size W w') (h : Sh W s p gb go gc g f left) (h5 : b < 5) : w'.cell? ⟨s, 1, none⟩ = some (.slice (some ⟨p, 0, none⟩) 5 5) ∧ w'.cell? ⟨p, b, none⟩ = some (.int .i64 (f b : Nat)) :=
  ⟨(h.below hb).box.c1, (h.below hb).pat b h5⟩

set_option maxHeartbeats 1000000 in
theorem worth_any (s p gb go gc b : Nat) (g : List Int) (f : Nat → Nat) (left : Int) (W : World) (H : Sh W s p gb go gc g f left) (hb : b < 5) (hf : f b ≤ 12) (hg : gokB g = true) : Calls Try.prog 42 #[.pointer (some ⟨s, 0, none⟩), .int .i64 (b : Nat)] W fun e w' => e = .returned (.int .i64 (wor g f b)) ∧ ∃ n, w' = W.drewN n := by
  have hwd := fun w => width_b b hb w
  have c0 := H.box.c0
  have c1 := H.box.c1
  have d0 := H.ga b hb
  have d1 := H.pat b hb
  obtain ⟨g1, g2⟩ := gok_bd hg b hb
  obtain ⟨w1, w2⟩ := wd_pos hb
  have i1 : (0 : Int) ≤ (b : Int) := by omega
  have i2 : (b : Int) < 5 := by omega
  have i3 : IntKind.i64.wrap (b : Int) = b := wraps_i64 _ (by omega) (by omega)
  have hq : 16 * f b / wd b ≤ 192 := Nat.le_trans (Nat.div_le_self _ _) (by omega)
  have HR : Hid (wor g f b = 8 * g.getD b 0 - ((16 * f b / wd b : Nat) : Int)) := rfl
  have t1 : (16 * (f b : Int)).tdiv (wd b : Nat) = ((16 * f b / wd b : Nat) : Int) := by
    rw [Int.tdiv_eq_ediv_of_nonneg (by omega)]; simp
  have t2 : (((wd b : Nat) : Int) == 0) = false := by simp; omega
  generalize wor g f b = R at *
  generalize 16 * f b / wd b = q at *
  generalize g.getD b 0 = x at *
  generalize f b = k at *
  obtain ⟨d, hd⟩ : ∃ d : Int, ((wd b : Nat) : Int) = d := ⟨_, rfl⟩
  rw [hd] at hwd t1 t2
  have hd1 : 1 ≤ d := by omega
  have hd2 : d ≤ 16 := by omega
  clear H hd w1 w2 hg
  go_enter Try.func42, Try.ntmps42
  go_wp2
  go_quiet (first | (go_at_call 44; exact Calls.quiet_of_same (hwd _)))
  go_wp2
  go_ret
  exact ⟨ret_int (by rw [HR.out]), _, rfl⟩

set_option maxHeartbeats 1000000 in
theorem price_any (s p gb go gc b : Nat) (g : List Int) (f : Nat → Nat) (left : Int) (W : World) (H : Sh W s p gb go gc g f left) (hb : b < 5) (hf : f b ≤ 11) : Calls Try.prog 38 #[.pointer (some ⟨s, 0, none⟩), .int .i64 (b : Nat)] W fun e w' => e = .returned (.int .i64 ((co b (f b + 1) : Int) - co b (f b))) ∧ Below W.heap.size W w' := by
  have hwd := fun w => width_b b hb w
  have hc1 := fun w => cost_b b (f b) hb (by omega) w
  have hc2 := fun w => cost_b b (f b + 1) hb (by omega) w
  have l1 := co_le b (f b) hb (by omega)
  have l2 := co_le b (f b + 1) hb (by omega)
  have HH := hid H
  have HB := hid hb
  have hk : f b ≤ 11 := hf
  rw [show ((f b + 1 : Nat) : Int) = (f b : Int) + 1 by omega] at hc2
  have i1 : (0 : Int) ≤ (b : Int) := by omega
  have i2 : (b : Int) < 5 := by omega
  have i3 : IntKind.i64.wrap (b : Int) = b := wraps_i64 _ (by omega) (by omega)
  have i4 : IntKind.i64.wrap ((f b : Int) + 1) = (f b : Int) + 1 := wraps_i64 _ (by omega) (by omega)
  have hK : ∀ w', Below W.heap.size W w' → w'.cell? ⟨s, 1, none⟩ = some (.slice (some ⟨p, 0, none⟩) 5 5) ∧ w'.cell? ⟨p, b, none⟩ = some (.int .i64 (f b : Nat)) := fun w' h => H.held h hb
  generalize co b (f b + 1) = A at *
  generalize co b (f b) = B at *
  generalize hkk : f b = k at *
  generalize hdd : ((wd b : Nat) : Int) = d at *
  clear hkk hdd H hb hf
  go_enter Try.func38, Try.ntmps38
  go_wp2
  go_region_held3 (fun w' => w'.cell? ⟨s, 1, none⟩ = some (.slice (some ⟨p, 0, none⟩) 5 5) ∧ w'.cell? ⟨p, b, none⟩ = some (.int .i64 k)) (exact hK _ (by first | exact hy1 | exact (Below.refl _ _).drew | exact Below.refl _ _)) (first | (go_at_call 44; refine (hwd _).mono ?_; rintro e w9 ⟨rfl, h9⟩; have h9 := h9.symm; subst h9) | (go_at_call 45; refine (hc1 _).mono ?_; rintro e y1 ⟨rfl, e1⟩; have hy1 : Below W.heap.size W y1 := (by first | exact drew_below e1 | exact e1)))
  go_wp2
  have hK2 : ∀ w', Below y1.heap.size y1 w' → w'.cell? ⟨s, 1, none⟩ = some (.slice (some ⟨p, 0, none⟩) 5 5) ∧ w'.cell? ⟨p, b, none⟩ = some (.int .i64 k) := fun w' h => hK w' (bthen' hy1 h)
  have HY1 := hid hy1
  clear hK e1 hy1 hc1 h9
  go_region_held3 (fun w' => w'.cell? ⟨s, 1, none⟩ = some (.slice (some ⟨p, 0, none⟩) 5 5) ∧ w'.cell? ⟨p, b, none⟩ = some (.int .i64 k)) (exact hK2 _ (by first | exact hy2 | exact (Below.refl _ _).drew | exact Below.refl _ _)) (first | (go_at_call 44; refine (hwd _).mono ?_; rintro e w9 ⟨rfl, h9⟩; have h9 := h9.symm; subst h9) | (go_at_call 45; refine (hc2 _).mono ?_; rintro e y2 ⟨rfl, e2⟩; have hy2 : Below y1.heap.size y1 y2 := (by first | exact drew_below e2 | exact e2)))
  go_wp2
  go_ret
  exact ⟨rfl, bthen' HY1.out hy2⟩

theorem Sh.held5 {W w' : World} {s p gb go gc b : Nat} {g : List Int} {f : Nat → Nat} {left : Int} (hb : Below W.heap.size W w') (h : Sh W s p gb go gc g f left) (h5 : b < 5) :
    w'.cell? ⟨s, 0, none⟩ = some (.slice (some ⟨gb, go, none⟩) 5 gc) ∧ w'.cell? ⟨s, 1, none⟩ = some (.slice (some ⟨p, 0, none⟩) 5 5) ∧ w'.cell? ⟨s, 2, none⟩ = some (.int .i64 left) ∧ w'.cell? ⟨gb, go + b, none⟩ = some (.int .i64 (g.getD b 0)) ∧ w'.cell? ⟨p, b, none⟩ = some (.int .i64 (f b : Nat)) :=
  ⟨(h.below hb).box.c0, (h.below hb).box.c1, (h.below hb).box.c2, (h.below hb).ga b h5, (h.below hb).pat b h5⟩
/-- What is left of the room. -/
theorem may_left {g : List Int} {f : Nat → Nat} {room : Int} {b : Nat} (hb : b < 5) : mayB g f room b = decide (0 < g.getD b 0 ∧ f b < mx b ∧ (co b (f b + 1) : Int) - co b (f b) ≤ room - sp f) := by
  have := sp_up f b hb
  unfold mayB
  apply decide_eq_decide.2
  constructor
  · rintro ⟨h1, h2, h3⟩; exact ⟨h1, h2, by omega⟩
  · rintro ⟨h1, h2, h3⟩; exact ⟨h1, h2, by omega⟩

set_option maxHeartbeats 4000000 in
theorem mayAdd_any (s p gb go gc b : Nat) (g : List Int) (f : Nat → Nat) (room : Int) (W : World) (H : Sh W s p gb go gc g f (room - sp f)) (hb : b < 5) (hf : f b ≤ 12) : Calls Try.prog 31 #[.pointer (some ⟨s, 0, none⟩), .int .i64 (b : Nat)] W fun e w' => e = .returned (.bool (mayB g f room b)) ∧ Below W.heap.size W w' := by
  have hm := fun w => most_b b hb w
  have hmx := mx_le b
  have hp := fun (h : f b ≤ 11) (w : World) (hw : Below W.heap.size W w) => price_any s p gb go gc b g f _ w (H.below hw) hb h
  have hK := fun w' h => Sh.held5 (w' := w') h H hb
  have i1 : (0 : Int) ≤ (b : Int) := by omega
  have i2 : (b : Int) < 5 := by omega
  have i3 : IntKind.i64.wrap (b : Int) = b := wraps_i64 _ (by omega) (by omega)
  rw [may_left hb]
  generalize room - (sp f : Int) = left at *
  generalize (co b (f b + 1) : Int) - co b (f b) = P at *
  generalize g.getD b 0 = x at *
  generalize mx b = m at *
  generalize f b = k at *
  clear H hb
  by_cases h1 : 0 < x
  · by_cases h2 : k < m
    · have hp2 := hp (by omega)
      have h2' : (k : Int) < (m : Int) := by omega
      by_cases h3 : P ≤ left
      · rw [decide_eq_true ⟨h1, h2, h3⟩]
        clear hp h2 hf hmx
        generalize (m : Int) = M at *
        generalize (k : Int) = K at *
        go_enter Try.func31, Try.ntmps31
        go_wp2
        go_region_held3 (fun w' => w'.cell? ⟨s, 0, none⟩ = some (.slice (some ⟨gb, go, none⟩) 5 gc) ∧ w'.cell? ⟨s, 1, none⟩ = some (.slice (some ⟨p, 0, none⟩) 5 5) ∧ w'.cell? ⟨s, 2, none⟩ = some (.int .i64 left) ∧ w'.cell? ⟨gb, go + b, none⟩ = some (.int .i64 x) ∧ w'.cell? ⟨p, b, none⟩ = some (.int .i64 K)) (exact hK _ (by first | exact hy1 | exact (Below.refl _ _).drew | exact Below.refl _ _)) (first | (go_at_call 37; refine (hm _).mono ?_; rintro e w9 ⟨rfl, h9⟩; have h9 := h9.symm; subst h9) | (go_at_call 38; refine (hp2 _ (by first | exact hy1 | exact (Below.refl _ _).drew | exact Below.refl _ _)).mono ?_; rintro e y1 ⟨rfl, e1⟩; have hy1 : Below W.heap.size W y1 := (by first | exact drew_below e1 | exact e1)))
        go_wp2
        go_ret
        exact ⟨rfl, hy1⟩
      · rw [decide_eq_false (fun h => h3 h.2.2)]
        have h3' : decide (P ≤ left) = false := decide_eq_false h3
        clear hp h2 hf hmx h3
        generalize (m : Int) = M at *
        generalize (k : Int) = K at *
        go_enter Try.func31, Try.ntmps31
        go_wp2
        go_region_held3 (fun w' => w'.cell? ⟨s, 0, none⟩ = some (.slice (some ⟨gb, go, none⟩) 5 gc) ∧ w'.cell? ⟨s, 1, none⟩ = some (.slice (some ⟨p, 0, none⟩) 5 5) ∧ w'.cell? ⟨s, 2, none⟩ = some (.int .i64 left) ∧ w'.cell? ⟨gb, go + b, none⟩ = some (.int .i64 x) ∧ w'.cell? ⟨p, b, none⟩ = some (.int .i64 K)) (exact hK _ (by first | exact hy1 | exact (Below.refl _ _).drew | exact Below.refl _ _)) (first | (go_at_call 37; refine (hm _).mono ?_; rintro e w9 ⟨rfl, h9⟩; have h9 := h9.symm; subst h9) | (go_at_call 38; refine (hp2 _ (by first | exact hy1 | exact (Below.refl _ _).drew | exact Below.refl _ _)).mono ?_; rintro e y1 ⟨rfl, e1⟩; have hy1 : Below W.heap.size W y1 := (by first | exact drew_below e1 | exact e1)))
        go_wp2
        go_ret
        exact ⟨rfl, hy1⟩
    · rw [decide_eq_false (fun h => h2 h.2.1)]
      have h2' : decide ((k : Int) < (m : Int)) = false := decide_eq_false (by omega)
      clear hp h2 hf hmx
      generalize (m : Int) = M at *
      generalize (k : Int) = K at *
      go_enter Try.func31, Try.ntmps31
      go_wp2
      obtain ⟨c0, c1, c2, c3, c4⟩ := hK W (Below.refl _ _)
      go_quiet (first | (go_at_call 37; exact Calls.quiet_of_same (hm _)))
      go_wp2
      go_ret
      exact ⟨rfl, drewN_below (Below.refl _ _) _⟩
  · rw [decide_eq_false (fun h => h1 h.1)]
    have h1' : decide (0 < x) = false := decide_eq_false h1
    clear hp hf hmx h1
    generalize (m : Int) = M at *
    generalize (k : Int) = K at *
    go_enter Try.func31, Try.ntmps31
    go_wp2
    obtain ⟨c0, c1, c2, c3, c4⟩ := hK W (Below.refl _ _)
    go_quiet (first | (go_at_call 37; exact Calls.quiet_of_same (hm _)))
    go_wp2
    go_ret
    exact ⟨rfl, drewN_below (Below.refl _ _) _⟩
end Go.Proofs.Ytlpjkahppogkiaa
