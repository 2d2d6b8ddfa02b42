/- Contracts: whether a reader has ended, and Read. -/
import Derived.Test.YtdgacbelpenmmaaVh
namespace Go.Proofs.Ytdgacbelpenmmaa
open Go.RowKit
set_option linter.unusedVariables false
set_option linter.unusedSimpArgs false

def endB (xs : List Int) : Bool := decide (xs.length = 41 ∧ gv xs 326 2 = 0)
set_option maxHeartbeats 2000000 in
theorem ended_any (b : Nat) (a : Option Addr) (n cap : Nat) (xs : List Int) (w : World) (h : Rd w b a n cap xs 326) (hn : xs.length = n) (hx : Byts xs) (hl : n ≤ 100000) (h41 : 41 ≤ n) :
    Calls Try.prog 32 #[.pointer (some ⟨b, 0, none⟩)] w fun e w' => e = .returned (.bool (endB xs)) ∧ w.grownBy w' (some b) := by
  obtain ⟨p, hB, hp⟩ := h.ex
  obtain rfl := hp (by omega)
  have hlf := left_any a n cap ((326 : Nat) : Int) w hl
  rw [if_pos ⟨by omega, by omega⟩] at hlf
  obtain ⟨bz, c0, c1, c2, f0, f1, f2⟩ := id hB
  by_cases hq : n = 41
  · have hg := fun w' h => vget_any b a n cap xs 326 2 w' h hx (by omega) (by omega)
    have HO : Hid (endB xs = decide (gv xs 326 2 = 0)) := by
      unfold Hid endB
      rw [decide_eq_decide]
      exact ⟨fun k => k.2, fun k => ⟨by omega, k⟩⟩
    have HR := hid h
    subst hq
    clear hn hl h41 hp h
    rw [show 8 * ((41 : Nat) : Int) - ((326 : Nat) : Int) = 2 from rfl] at hlf
    generalize hGV : gv xs 326 2 = G at *
    have HG : Hid (((G : Int) == 0) = decide (G = 0)) := by
      unfold Hid
      by_cases e : G = 0
      · subst e; rfl
      · rw [decide_eq_false e]; simpa using fun k => e (by omega)
    clear hGV
    obtain ⟨Z, hZ⟩ : ∃ Z : Int, (G : Int) = Z := ⟨_, rfl⟩
    rw [hZ] at hg HG
    clear hZ
    obtain ⟨T, hT⟩ : ∃ T : Bool, (Z == 0) = T := ⟨_, rfl⟩
    rw [hT] at HG
    go_enter Try.func32, Try.ntmps32
    go_wp2_with (first | (go_at_call 38; refine hlf.mono ?_; rintro e y1 ⟨rfl, hy1⟩; have hr1 := HR.out.below hy1) | (go_at_call 30; refine (hg _ hr1).mono ?_; rintro e y2 ⟨rfl, hr2, hg2⟩))
    go_ret
    exact ⟨ret_bool (by rw [HO.out, ← HG.out]), grown_trans (grown_below hy1 b) hg2⟩
  · have HO : Hid (endB xs = false) := decide_eq_false (fun k => hq (by omega))
    have h8 : ¬ (8 * (n : Int) - ((326 : Nat) : Int) < 8) := by omega
    generalize 8 * (n : Int) - ((326 : Nat) : Int) = L at *
    have h8' : decide (L < 8) = false := decide_eq_false h8
    clear hn hl h41 hp h hq hx
    go_enter Try.func32, Try.ntmps32
    go_wp2_with (go_at_call 38; refine hlf.mono ?_; rintro e y1 ⟨rfl, hy1⟩)
    go_ret
    exact ⟨ret_bool HO.out.symm, grown_below hy1 b⟩

theorem gv_ne (xs : List Int) (h : gv xs 0 16 ≠ 22099) : (((gv xs 0 16 : Nat) : Int) != 22099) = true := by simp; omega
theorem gv_eq (xs : List Int) (h : gv xs 0 16 = 22099) : (((gv xs 0 16 : Nat) : Int) != 22099) = false := by simp; omega
set_option maxHeartbeats 8000000 in
theorem vread_any (a : Option Addr) (n cap : Nat) (xs : List Int) (w : World) (hn : xs.length = n) (hv : Rw .u8 w (.slice a n cap) xs) (hx : Byts xs) (hl : n ≤ 2000) :
    Calls Try.prog 19 #[.slice a n cap] w fun e w' => ∃ a1 n1 c1 a2 n2 c2, e = .returned (.tuple #[.agg #[.int .i64 (oC xs), .int .i64 (oQ xs), .slice a1 n1 c1, .slice a2 n2 c2], .int .i64 (vhE xs)]) ∧ RwF w.heap.size .i64 w' (.slice a1 n1 c1) (oF xs) ∧ RwF w.heap.size .i64 w' (.slice a2 n2 c2) (oR xs) ∧ Below w.heap.size w w' := by
  have p1 := fun w' h => vget_any (w.heap.size + 1) a n cap xs 0 16 w' h hx (by omega) (by omega)
  have p2 := fun w' h => head_any (w.heap.size + 1) a n cap xs w' h hx (by omega)
  have p3 := fun w' h h41 => ended_any (w.heap.size + 1) a n cap xs w' h hn hx (by omega) h41
  rw [show 0 + 16 = 16 from rfl] at p1
  have HL0 := hid (below2 w (.cells #[.int .i64 0, .int .i64 0, .slice none 0 0, .slice none 0 0] 24) (.cells #[.slice a n cap, .int .i64 0, .int .i64 0] 60))
  have HA0 : Hid (B4 ((w.alloc (.cells #[.int .i64 0, .int .i64 0, .slice none 0 0, .slice none 0 0] 24)).alloc (.cells #[.slice a n cap, .int .i64 0, .int .i64 0] 60)) w.heap.size (.int .i64 0) (.int .i64 0) (.slice none 0 0) (.slice none 0 0)) := (B4.new w _ _ _ _ _).below (below1 _ _)
  have HR0 : Hid (Rd ((w.alloc (.cells #[.int .i64 0, .int .i64 0, .slice none 0 0, .slice none 0 0] 24)).alloc (.cells #[.slice a n cap, .int .i64 0, .int .i64 0] 60)) (w.heap.size + 1) a n cap xs 0) := ⟨⟨0, B3.new2 w _ _ _ _ _, fun _ => rfl⟩, ((RwM.of_rw hv).mono (Nat.le_refl _) (by omega)).below (below2 _ _ _)⟩
  have HBAD : Hid (∀ (e : Int) (w' : World), vhOk xs = false → vhE xs = e → Below w.heap.size w w' → ∃ a1 n1 c1 a2 n2 c2, Ending.returned (.tuple #[.agg #[.int .i64 0, .int .i64 0, .slice none 0 0, .slice none 0 0], .int .i64 e]) = .returned (.tuple #[.agg #[.int .i64 (oC xs), .int .i64 (oQ xs), .slice a1 n1 c1, .slice a2 n2 c2], .int .i64 (vhE xs)]) ∧ RwF w.heap.size .i64 w' (.slice a1 n1 c1) (oF xs) ∧ RwF w.heap.size .i64 w' (.slice a2 n2 c2) (oR xs) ∧ Below w.heap.size w w') := fun e w' hok he h2 => by
    unfold oC oQ oF oR
    rw [he, hok]
    exact ⟨none, 0, 0, none, 0, 0, rfl, ⟨none, 0, rfl, .inl rfl⟩, ⟨none, 0, rfl, .inl rfl⟩, h2⟩
  by_cases h40 : n ≤ 40
  · have hok : vhOk xs = false := by
      cases hq : vhOk xs
      · rfl
      · have := (vhOk_parts hq).1; omega
    have he : vhE xs = 4 := if_pos (by omega)
    have hf : rdF xs 326 = 4 := if_neg (by omega)
    have HBD := hid (fun w' h => HBAD.out 4 w' hok he h)
    clear HBAD hok he p3 hn hv hx hl h40
    go_enter Try.func19, Try.ntmps19
    go_wp2_with (first | (go_at_call 30; refine (p1 _ HR0.out).mono ?_; rintro e z1 ⟨rfl, hr1, hg1⟩; have HB1 := hid (B4.grown HA0.out hg1 (by intro e; simp only [Option.some.injEq] at e; omega)); have HG1 := hid (HL0.out.trans (grown_lt hg1 HL0.out.size (by omega))); have hz01 := hg1.size; have hbz := rd_z hr1) | (go_at_call 31; refine (p2 _ hr1).mono ?_; rintro e z2 ⟨g1, g2, rfl, hk1, hk2, hq1, hq2, hr2, hg2⟩; have hz12 := hg2.size; have hk1' := hk1.below (below1 z2 (.cells #[.int .i64 (vhC xs), .int .i64 (vhQ xs), .slice (some ⟨g1, 0, none⟩) 45 45, .slice (some ⟨g2, 0, none⟩) 16 16] 24)); have hk2' := hk2.below (below1 z2 (.cells #[.int .i64 (vhC xs), .int .i64 (vhQ xs), .slice (some ⟨g1, 0, none⟩) 45 45, .slice (some ⟨g2, 0, none⟩) 16 16] 24)); have HB2 := hid ((B4.grown HB1.out hg2 (by intro e; simp only [Option.some.injEq] at e; omega)).below (below1 z2 (.cells #[.int .i64 (vhC xs), .int .i64 (vhQ xs), .slice (some ⟨g1, 0, none⟩) 45 45, .slice (some ⟨g2, 0, none⟩) 16 16] 24))); have HG2 := hid ((HG1.out.trans (grown_lt hg2 HG1.out.size (by omega))).alloc (Nat.le_trans HG1.out.size hz12) (.cells #[.int .i64 (vhC xs), .int .i64 (vhQ xs), .slice (some ⟨g1, 0, none⟩) 45 45, .slice (some ⟨g2, 0, none⟩) 16 16] 24)); have hr2' := hr2.below (below1 z2 (.cells #[.int .i64 (vhC xs), .int .i64 (vhQ xs), .slice (some ⟨g1, 0, none⟩) 45 45, .slice (some ⟨g2, 0, none⟩) 16 16] 24)); have HH2 := B4.new z2 (.int .i64 (vhC xs)) (.int .i64 (vhQ xs)) (.slice (some ⟨g1, 0, none⟩) 45 45) (.slice (some ⟨g2, 0, none⟩) 16 16) 24; obtain ⟨pp, hB3, _⟩ := id hr2'.ex; rw [hf] at hB3; obtain ⟨b3z, d0, d1, d2, e0, e1, e2⟩ := id hB3; obtain ⟨b4z, c0, c1, c2, c3, f0, f1, f2, f3⟩ := id HB2.out; obtain ⟨b5z, i0, i1, i2, i3, j0, j1, j2, j3⟩ := id HH2; clear HB1 hg2 hk1 hk2 hr2))
    go_region
    all_goals go_wp2
    obtain ⟨gz', k0, k1, k2, k3, q0, q1', q2, q3⟩ := HB2.out.set (.int .i64 0) (.int .i64 0) (.slice none 0 0) (.slice none 0 0)
    refine bodyPost_ret (v := .tuple #[.agg #[.int .i64 0, .int .i64 0, .slice none 0 0, .slice none 0 0], .int .i64 4]) (by simp [results, Try.results19, go_sem, k0, k1, k2, k3, q0, q1', q2, q3]) rfl ?_
    exact HBD.out _ (bset4 HG2.out.drew w.heap.size _ _ _ _ (Nat.le_refl _))
  · have h41 : 41 ≤ n := by omega
    have hf : rdF xs 326 = 0 := if_pos (by omega)
    have p4 := fun w' (g1 g2 : Nat) h => vright_any (vhC xs) (vhQ xs) (some ⟨g1, 0, none⟩) 45 45 (vhF xs) (some ⟨g2, 0, none⟩) 16 16 (vhR xs) w' h
    have hno : vhOk xs = false → vhE xs = 2 := fun h => by
      unfold vhE; rw [if_neg (by omega), h]; rfl
    have HBAD2 : Hid (∀ w', vhOk xs = false → Below w.heap.size w w' → _) := fun w' h1 h2 => HBAD.out 2 w' h1 (hno h1) h2
    clear HBAD hno
    by_cases hm : gv xs 0 16 = 22099
    case neg =>
      have hok : vhOk xs = false := by
        cases hq : vhOk xs
        · rfl
        · exact absurd (vhOk_parts hq).2.1 hm
      have hmb := gv_ne xs hm
      have HBD := hid (fun w' h => HBAD2.out w' hok h)
      clear HBAD2 hok p3 p4 hn hv hx hl h40 h41 hm
      generalize ((gv xs 0 16 : Nat) : Int) = MG at *
      go_enter Try.func19, Try.ntmps19
      go_wp2_with (first | (go_at_call 30; refine (p1 _ HR0.out).mono ?_; rintro e z1 ⟨rfl, hr1, hg1⟩; have HB1 := hid (B4.grown HA0.out hg1 (by intro e; simp only [Option.some.injEq] at e; omega)); have HG1 := hid (HL0.out.trans (grown_lt hg1 HL0.out.size (by omega))); have hz01 := hg1.size; have hbz := rd_z hr1) | (go_at_call 31; refine (p2 _ hr1).mono ?_; rintro e z2 ⟨g1, g2, rfl, hk1, hk2, hq1, hq2, hr2, hg2⟩; have hz12 := hg2.size; have hk1' := hk1.below (below1 z2 (.cells #[.int .i64 (vhC xs), .int .i64 (vhQ xs), .slice (some ⟨g1, 0, none⟩) 45 45, .slice (some ⟨g2, 0, none⟩) 16 16] 24)); have hk2' := hk2.below (below1 z2 (.cells #[.int .i64 (vhC xs), .int .i64 (vhQ xs), .slice (some ⟨g1, 0, none⟩) 45 45, .slice (some ⟨g2, 0, none⟩) 16 16] 24)); have HB2 := hid ((B4.grown HB1.out hg2 (by intro e; simp only [Option.some.injEq] at e; omega)).below (below1 z2 (.cells #[.int .i64 (vhC xs), .int .i64 (vhQ xs), .slice (some ⟨g1, 0, none⟩) 45 45, .slice (some ⟨g2, 0, none⟩) 16 16] 24))); have HG2 := hid ((HG1.out.trans (grown_lt hg2 HG1.out.size (by omega))).alloc (Nat.le_trans HG1.out.size hz12) (.cells #[.int .i64 (vhC xs), .int .i64 (vhQ xs), .slice (some ⟨g1, 0, none⟩) 45 45, .slice (some ⟨g2, 0, none⟩) 16 16] 24)); have hr2' := hr2.below (below1 z2 (.cells #[.int .i64 (vhC xs), .int .i64 (vhQ xs), .slice (some ⟨g1, 0, none⟩) 45 45, .slice (some ⟨g2, 0, none⟩) 16 16] 24)); have HH2 := B4.new z2 (.int .i64 (vhC xs)) (.int .i64 (vhQ xs)) (.slice (some ⟨g1, 0, none⟩) 45 45) (.slice (some ⟨g2, 0, none⟩) 16 16) 24; obtain ⟨pp, hB3, _⟩ := id hr2'.ex; rw [hf] at hB3; obtain ⟨b3z, d0, d1, d2, e0, e1, e2⟩ := id hB3; obtain ⟨b4z, c0, c1, c2, c3, f0, f1, f2, f3⟩ := id HB2.out; obtain ⟨b5z, i0, i1, i2, i3, j0, j1, j2, j3⟩ := id HH2; clear HB1 hg2 hk1 hk2 hr2))
      obtain ⟨gz', k0, k1, k2, k3, q0, q1', q2, q3⟩ := HB2.out.set (.int .i64 0) (.int .i64 0) (.slice none 0 0) (.slice none 0 0)
      refine bodyPost_ret (v := .tuple #[.agg #[.int .i64 0, .int .i64 0, .slice none 0 0, .slice none 0 0], .int .i64 2]) (by simp [results, Try.results19, go_sem, k0, k1, k2, k3, q0, q1', q2, q3]) rfl ?_
      exact HBD.out _ (bset4 HG2.out w.heap.size _ _ _ _ (Nat.le_refl _))
    have hmb := gv_eq xs hm
    have hgm := hm
    clear hm
    cases hen : endB xs
    · have hok : vhOk xs = false := by
        cases hq : vhOk xs
        · rfl
        · have h := vhOk_parts hq
          have : endB xs = true := decide_eq_true ⟨h.1, h.2.2.1⟩
          rw [this] at hen; cases hen
      rw [hen] at p3
      have HBD := hid (fun w' h => HBAD2.out w' hok h)
      clear HBAD2 hok p4 hn hv hx hl h40 hgm hen
      generalize ((gv xs 0 16 : Nat) : Int) = MG at *
      go_enter Try.func19, Try.ntmps19
      go_wp2_with (first | (go_at_call 30; refine (p1 _ HR0.out).mono ?_; rintro e z1 ⟨rfl, hr1, hg1⟩; have HB1 := hid (B4.grown HA0.out hg1 (by intro e; simp only [Option.some.injEq] at e; omega)); have HG1 := hid (HL0.out.trans (grown_lt hg1 HL0.out.size (by omega))); have hz01 := hg1.size; have hbz := rd_z hr1) | (go_at_call 31; refine (p2 _ hr1).mono ?_; rintro e z2 ⟨g1, g2, rfl, hk1, hk2, hq1, hq2, hr2, hg2⟩; have hz12 := hg2.size; have hk1' := hk1.below (below1 z2 (.cells #[.int .i64 (vhC xs), .int .i64 (vhQ xs), .slice (some ⟨g1, 0, none⟩) 45 45, .slice (some ⟨g2, 0, none⟩) 16 16] 24)); have hk2' := hk2.below (below1 z2 (.cells #[.int .i64 (vhC xs), .int .i64 (vhQ xs), .slice (some ⟨g1, 0, none⟩) 45 45, .slice (some ⟨g2, 0, none⟩) 16 16] 24)); have HB2 := hid ((B4.grown HB1.out hg2 (by intro e; simp only [Option.some.injEq] at e; omega)).below (below1 z2 (.cells #[.int .i64 (vhC xs), .int .i64 (vhQ xs), .slice (some ⟨g1, 0, none⟩) 45 45, .slice (some ⟨g2, 0, none⟩) 16 16] 24))); have HG2 := hid ((HG1.out.trans (grown_lt hg2 HG1.out.size (by omega))).alloc (Nat.le_trans HG1.out.size hz12) (.cells #[.int .i64 (vhC xs), .int .i64 (vhQ xs), .slice (some ⟨g1, 0, none⟩) 45 45, .slice (some ⟨g2, 0, none⟩) 16 16] 24)); have hr2' := hr2.below (below1 z2 (.cells #[.int .i64 (vhC xs), .int .i64 (vhQ xs), .slice (some ⟨g1, 0, none⟩) 45 45, .slice (some ⟨g2, 0, none⟩) 16 16] 24)); have HH2 := B4.new z2 (.int .i64 (vhC xs)) (.int .i64 (vhQ xs)) (.slice (some ⟨g1, 0, none⟩) 45 45) (.slice (some ⟨g2, 0, none⟩) 16 16) 24; obtain ⟨pp, hB3, _⟩ := id hr2'.ex; rw [hf] at hB3; obtain ⟨b3z, d0, d1, d2, e0, e1, e2⟩ := id hB3; obtain ⟨b4z, c0, c1, c2, c3, f0, f1, f2, f3⟩ := id HB2.out; obtain ⟨b5z, i0, i1, i2, i3, j0, j1, j2, j3⟩ := id HH2; clear HB1 hg2 hk1 hk2 hr2) | (go_at_call 32; refine (p3 _ hr2' h41).mono ?_; rintro e z3 ⟨rfl, hg3⟩; have HB3 := hid (B4.grown HB2.out hg3 (by intro e; simp only [Option.some.injEq] at e; omega)); have HG3 := hid (HG2.out.trans (grown_lt hg3 HG2.out.size (by omega))); have HH3 := B4.grown HH2 hg3 (by intro e; simp only [Option.some.injEq] at e; omega); have hk1y := hk1'.kept hg3 (by omega); have hk2y := hk2'.kept hg3 (by omega); clear c0 c1 c2 c3 f0 f1 f2 f3 i0 i1 i2 i3 j0 j1 j2 j3; obtain ⟨c9z, c0, c1, c2, c3, f0, f1, f2, f3⟩ := id HB3.out; obtain ⟨i9z, i0, i1, i2, i3, j0, j1, j2, j3⟩ := id HH3))
      obtain ⟨gz', k0, k1, k2, k3, q0, q1', q2, q3⟩ := HB3.out.set (.int .i64 0) (.int .i64 0) (.slice none 0 0) (.slice none 0 0)
      refine bodyPost_ret (v := .tuple #[.agg #[.int .i64 0, .int .i64 0, .slice none 0 0, .slice none 0 0], .int .i64 2]) (by simp [results, Try.results19, go_sem, k0, k1, k2, k3, q0, q1', q2, q3]) rfl ?_
      exact HBD.out _ (bset4 HG3.out w.heap.size _ _ _ _ (Nat.le_refl _))
    · rw [hen] at p3
      have hen2 : xs.length = 41 ∧ gv xs 326 2 = 0 := of_decide_eq_true hen
      cases hin : vhIn xs
      · have hok : vhOk xs = false := by
          cases hq : vhOk xs
          · rfl
          · rw [(vhOk_parts hq).2.2.2] at hin; cases hin
        rw [show vhRight (vhC xs) (vhQ xs) (vhF xs) (vhR xs) = false from hin] at p4
        have HBD := hid (fun w' h => HBAD2.out w' hok h)
        clear HBAD2 hok hn hv hx hl h40 hgm hen hin hen2
        generalize ((gv xs 0 16 : Nat) : Int) = MG at *
        go_enter Try.func19, Try.ntmps19
        go_wp2_with (first | (go_at_call 30; refine (p1 _ HR0.out).mono ?_; rintro e z1 ⟨rfl, hr1, hg1⟩; have HB1 := hid (B4.grown HA0.out hg1 (by intro e; simp only [Option.some.injEq] at e; omega)); have HG1 := hid (HL0.out.trans (grown_lt hg1 HL0.out.size (by omega))); have hz01 := hg1.size; have hbz := rd_z hr1) | (go_at_call 31; refine (p2 _ hr1).mono ?_; rintro e z2 ⟨g1, g2, rfl, hk1, hk2, hq1, hq2, hr2, hg2⟩; have hz12 := hg2.size; have hk1' := hk1.below (below1 z2 (.cells #[.int .i64 (vhC xs), .int .i64 (vhQ xs), .slice (some ⟨g1, 0, none⟩) 45 45, .slice (some ⟨g2, 0, none⟩) 16 16] 24)); have hk2' := hk2.below (below1 z2 (.cells #[.int .i64 (vhC xs), .int .i64 (vhQ xs), .slice (some ⟨g1, 0, none⟩) 45 45, .slice (some ⟨g2, 0, none⟩) 16 16] 24)); have HB2 := hid ((B4.grown HB1.out hg2 (by intro e; simp only [Option.some.injEq] at e; omega)).below (below1 z2 (.cells #[.int .i64 (vhC xs), .int .i64 (vhQ xs), .slice (some ⟨g1, 0, none⟩) 45 45, .slice (some ⟨g2, 0, none⟩) 16 16] 24))); have HG2 := hid ((HG1.out.trans (grown_lt hg2 HG1.out.size (by omega))).alloc (Nat.le_trans HG1.out.size hz12) (.cells #[.int .i64 (vhC xs), .int .i64 (vhQ xs), .slice (some ⟨g1, 0, none⟩) 45 45, .slice (some ⟨g2, 0, none⟩) 16 16] 24)); have hr2' := hr2.below (below1 z2 (.cells #[.int .i64 (vhC xs), .int .i64 (vhQ xs), .slice (some ⟨g1, 0, none⟩) 45 45, .slice (some ⟨g2, 0, none⟩) 16 16] 24)); have HH2 := B4.new z2 (.int .i64 (vhC xs)) (.int .i64 (vhQ xs)) (.slice (some ⟨g1, 0, none⟩) 45 45) (.slice (some ⟨g2, 0, none⟩) 16 16) 24; obtain ⟨pp, hB3, _⟩ := id hr2'.ex; rw [hf] at hB3; obtain ⟨b3z, d0, d1, d2, e0, e1, e2⟩ := id hB3; obtain ⟨b4z, c0, c1, c2, c3, f0, f1, f2, f3⟩ := id HB2.out; obtain ⟨b5z, i0, i1, i2, i3, j0, j1, j2, j3⟩ := id HH2; clear HB1 hg2 hk1 hk2 hr2) | (go_at_call 32; refine (p3 _ hr2' h41).mono ?_; rintro e z3 ⟨rfl, hg3⟩; have HB3 := hid (B4.grown HB2.out hg3 (by intro e; simp only [Option.some.injEq] at e; omega)); have HG3 := hid (HG2.out.trans (grown_lt hg3 HG2.out.size (by omega))); have HH3 := B4.grown HH2 hg3 (by intro e; simp only [Option.some.injEq] at e; omega); have hk1y := hk1'.kept hg3 (by omega); have hk2y := hk2'.kept hg3 (by omega); clear c0 c1 c2 c3 f0 f1 f2 f3 i0 i1 i2 i3 j0 j1 j2 j3; obtain ⟨c9z, c0, c1, c2, c3, f0, f1, f2, f3⟩ := id HB3.out; obtain ⟨i9z, i0, i1, i2, i3, j0, j1, j2, j3⟩ := id HH3) | (go_at_call 11; refine (p4 _ g1 g2 ⟨tab_len _ _, hk1y.rw (tab_len _ _), tab_len _ _, hk2y.rw (tab_len _ _)⟩).mono ?_; rintro e z4 ⟨rfl, hy4⟩; have HB4 := hid (HB3.out.below hy4); have HG4 := hid (bthen HG3.out hy4 HG3.out.size); have HH4 := HH3.below hy4; have hk1z := hk1y.below hy4; have hk2z := hk2y.below hy4; clear c0 c1 c2 c3 f0 f1 f2 f3 i0 i1 i2 i3 j0 j1 j2 j3; obtain ⟨c8z, c0, c1, c2, c3, f0, f1, f2, f3⟩ := id HB4.out; obtain ⟨i8z, i0, i1, i2, i3, j0, j1, j2, j3⟩ := id HH4))
        obtain ⟨gz', k0, k1, k2, k3, q0, q1', q2, q3⟩ := HB4.out.set (.int .i64 0) (.int .i64 0) (.slice none 0 0) (.slice none 0 0)
        refine bodyPost_ret (v := .tuple #[.agg #[.int .i64 0, .int .i64 0, .slice none 0 0, .slice none 0 0], .int .i64 2]) (by simp [results, Try.results19, go_sem, k0, k1, k2, k3, q0, q1', q2, q3]) rfl ?_
        exact HBD.out _ (bset4 HG4.out w.heap.size _ _ _ _ (Nat.le_refl _))
      · have hok : vhOk xs = true := decide_eq_true ⟨hen2.1, hgm, hen2.2, hin⟩
        have hE : vhE xs = 0 := by unfold vhE; rw [if_neg (by omega), if_pos hok]
        rw [show vhRight (vhC xs) (vhQ xs) (vhF xs) (vhR xs) = true from hin] at p4
        have HO : Hid (oC xs = vhC xs ∧ oQ xs = vhQ xs ∧ oF xs = vhF xs ∧ oR xs = vhR xs ∧ vhE xs = 0) := by
          unfold Hid oC oQ oF oR
          rw [if_pos hok, if_pos hok, if_pos hok, if_pos hok]
          exact ⟨rfl, rfl, rfl, rfl, hE⟩
        clear HBAD2 hok hE hn hv hx hl h40 hgm hen hin hen2
        generalize ((gv xs 0 16 : Nat) : Int) = MG at *
        go_enter Try.func19, Try.ntmps19
        go_wp2_with (first | (go_at_call 30; refine (p1 _ HR0.out).mono ?_; rintro e z1 ⟨rfl, hr1, hg1⟩; have HB1 := hid (B4.grown HA0.out hg1 (by intro e; simp only [Option.some.injEq] at e; omega)); have HG1 := hid (HL0.out.trans (grown_lt hg1 HL0.out.size (by omega))); have hz01 := hg1.size; have hbz := rd_z hr1) | (go_at_call 31; refine (p2 _ hr1).mono ?_; rintro e z2 ⟨g1, g2, rfl, hk1, hk2, hq1, hq2, hr2, hg2⟩; have hz12 := hg2.size; have hk1' := hk1.below (below1 z2 (.cells #[.int .i64 (vhC xs), .int .i64 (vhQ xs), .slice (some ⟨g1, 0, none⟩) 45 45, .slice (some ⟨g2, 0, none⟩) 16 16] 24)); have hk2' := hk2.below (below1 z2 (.cells #[.int .i64 (vhC xs), .int .i64 (vhQ xs), .slice (some ⟨g1, 0, none⟩) 45 45, .slice (some ⟨g2, 0, none⟩) 16 16] 24)); have HB2 := hid ((B4.grown HB1.out hg2 (by intro e; simp only [Option.some.injEq] at e; omega)).below (below1 z2 (.cells #[.int .i64 (vhC xs), .int .i64 (vhQ xs), .slice (some ⟨g1, 0, none⟩) 45 45, .slice (some ⟨g2, 0, none⟩) 16 16] 24))); have HG2 := hid ((HG1.out.trans (grown_lt hg2 HG1.out.size (by omega))).alloc (Nat.le_trans HG1.out.size hz12) (.cells #[.int .i64 (vhC xs), .int .i64 (vhQ xs), .slice (some ⟨g1, 0, none⟩) 45 45, .slice (some ⟨g2, 0, none⟩) 16 16] 24)); have hr2' := hr2.below (below1 z2 (.cells #[.int .i64 (vhC xs), .int .i64 (vhQ xs), .slice (some ⟨g1, 0, none⟩) 45 45, .slice (some ⟨g2, 0, none⟩) 16 16] 24)); have HH2 := B4.new z2 (.int .i64 (vhC xs)) (.int .i64 (vhQ xs)) (.slice (some ⟨g1, 0, none⟩) 45 45) (.slice (some ⟨g2, 0, none⟩) 16 16) 24; obtain ⟨pp, hB3, _⟩ := id hr2'.ex; rw [hf] at hB3; obtain ⟨b3z, d0, d1, d2, e0, e1, e2⟩ := id hB3; obtain ⟨b4z, c0, c1, c2, c3, f0, f1, f2, f3⟩ := id HB2.out; obtain ⟨b5z, i0, i1, i2, i3, j0, j1, j2, j3⟩ := id HH2; clear HB1 hg2 hk1 hk2 hr2) | (go_at_call 32; refine (p3 _ hr2' h41).mono ?_; rintro e z3 ⟨rfl, hg3⟩; have HB3 := hid (B4.grown HB2.out hg3 (by intro e; simp only [Option.some.injEq] at e; omega)); have HG3 := hid (HG2.out.trans (grown_lt hg3 HG2.out.size (by omega))); have HH3 := B4.grown HH2 hg3 (by intro e; simp only [Option.some.injEq] at e; omega); have hk1y := hk1'.kept hg3 (by omega); have hk2y := hk2'.kept hg3 (by omega); clear c0 c1 c2 c3 f0 f1 f2 f3 i0 i1 i2 i3 j0 j1 j2 j3; obtain ⟨c9z, c0, c1, c2, c3, f0, f1, f2, f3⟩ := id HB3.out; obtain ⟨i9z, i0, i1, i2, i3, j0, j1, j2, j3⟩ := id HH3) | (go_at_call 11; refine (p4 _ g1 g2 ⟨tab_len _ _, hk1y.rw (tab_len _ _), tab_len _ _, hk2y.rw (tab_len _ _)⟩).mono ?_; rintro e z4 ⟨rfl, hy4⟩; have HB4 := hid (HB3.out.below hy4); have HG4 := hid (bthen HG3.out hy4 HG3.out.size); have HH4 := HH3.below hy4; have hk1z := hk1y.below hy4; have hk2z := hk2y.below hy4; clear c0 c1 c2 c3 f0 f1 f2 f3 i0 i1 i2 i3 j0 j1 j2 j3; obtain ⟨c8z, c0, c1, c2, c3, f0, f1, f2, f3⟩ := id HB4.out; obtain ⟨i8z, i0, i1, i2, i3, j0, j1, j2, j3⟩ := id HH4))
        obtain ⟨gz', k0, k1, k2, k3, q0, q1', q2, q3⟩ := HB4.out.set (.int .i64 (vhC xs)) (.int .i64 (vhQ xs)) (.slice (some ⟨g1, 0, none⟩) 45 45) (.slice (some ⟨g2, 0, none⟩) 16 16)
        refine bodyPost_ret (v := .tuple #[.agg #[.int .i64 (vhC xs), .int .i64 (vhQ xs), .slice (some ⟨g1, 0, none⟩) 45 45, .slice (some ⟨g2, 0, none⟩) 16 16], .int .i64 0]) (by simp [results, Try.results19, go_sem, k0, k1, k2, k3, q0, q1', q2, q3]) rfl ?_
        obtain ⟨o1, o2, o3, o4, o5⟩ := HO.out
        rw [o1, o2, o3, o4, o5]
        refine ⟨some ⟨g1, 0, none⟩, 45, 45, some ⟨g2, 0, none⟩, 16, 16, rfl, ?_, ?_, bset4 HG4.out w.heap.size _ _ _ _ (Nat.le_refl _)⟩
        · exact RwF.of_row (hk1z.off4 _ _ _ _ _ (by omega)) (tab_len _ _) (by omega)
        · exact RwF.of_row (hk2z.off4 _ _ _ _ _ (by omega)) (tab_len _ _) (by omega)
end Go.Proofs.Ytdgacbelpenmmaa
