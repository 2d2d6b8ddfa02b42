/- Contracts: whether a header is right, by the program and by the document; the document's As and Same; what is looked at. -/
import Derived.Test.YtdgacbelpenmmaaVa
import Derived.Test.YtdgacbelpenmmaaXb
import Derived.Test.YtdgacbelpenmmaaFs
namespace Go.Proofs.Ytdgacbelpenmmaa
open Go.RowKit
set_option linter.unusedVariables false
set_option linter.unusedSimpArgs false

/-- A header's two books in memory. -/
structure Bks (w : World) (af : Option Addr) (nf cf : Nat) (F : List Int) (ar : Option Addr) (nr cr : Nat) (R : List Int) : Prop where
  lf : F.length = nf
  vf : Rw .i64 w (.slice af nf cf) F
  lr : R.length = nr
  vr : Rw .i64 w (.slice ar nr cr) R
theorem Bks.below {w w' : World} {af : Option Addr} {nf cf : Nat} {F : List Int} {ar : Option Addr} {nr cr : Nat} {R : List Int} (h : Bks w af nf cf F ar nr cr R) (hb : Below w.heap.size w w') : Bks w' af nf cf F ar nr cr R :=
  ⟨h.lf, h.vf.below hb, h.lr, h.vr.below hb⟩
def fitB (l : List Int) (n : Nat) : Bool := decide (l.length = n) && rightL l
theorem bookfits_any (a : Option Addr) (n cap : Nat) (l : List Int) (m : Nat) (w : World) (hn : l.length = n) (hv : Rw .i64 w (.slice a n cap) l) :
    Calls Try.prog 21 #[.slice a n cap, .int .i64 m] w fun e w' => e = .returned (.bool (fitB l m)) ∧ w' = w := by
  have hr := fun w hv => hright_any (.slice a n cap) l w hv
  by_cases h : n = m
  · subst h
    have HO : Hid (fitB l n = rightL l) := by unfold Hid fitB; rw [decide_eq_true hn]; rfl
    generalize rightL l = r at *
    clear hn
    cases r
    all_goals
      go_enter Try.func21, Try.ntmps21
      go_wp2_with (go_at_call 34; refine (hr _ hv).mono ?_; rintro e w9 ⟨rfl, h9⟩; have h9 := h9.symm; subst h9)
      go_ret
      exact ⟨ret_bool HO.out.symm, rfl⟩
  · have HO : Hid (fitB l m = false) := by unfold Hid fitB; rw [decide_eq_false (by omega)]; rfl
    have e : ((n : Int) == (m : Int)) = false := by simpa using fun e => h (by omega)
    clear hr h hn hv
    go_enter Try.func21, Try.ntmps21
    go_wp2
    go_ret
    exact ⟨ret_bool HO.out.symm, rfl⟩
theorem vhRight_fit (c q : Int) (F R : List Int) : vhRight c q F R = decide (1 ≤ c ∧ c ≤ 2 ∧ 0 ≤ q ∧ q ≤ 12 ∧ fitB F 45 = true ∧ fitB R 16 = true ∧ 0 < R.getD 15 0) := by
  unfold vhRight
  rw [decide_eq_decide]
  have e1 : fitB F 45 = true ↔ F.length = 45 ∧ rightL F = true := by unfold fitB; rw [Bool.and_eq_true, decide_eq_true_eq]
  have e2 : fitB R 16 = true ↔ R.length = 16 ∧ rightL R = true := by unfold fitB; rw [Bool.and_eq_true, decide_eq_true_eq]
  rw [e1, e2]
  constructor
  · rintro ⟨a, b, c, d, e, f, g, h, i⟩; exact ⟨a, b, c, d, ⟨e, g⟩, ⟨f, h⟩, i⟩
  · rintro ⟨a, b, c, d, ⟨e, g⟩, ⟨f, h⟩, i⟩; exact ⟨a, b, c, d, e, f, g, h, i⟩

set_option maxHeartbeats 4000000 in
theorem vright_any (c q : Int) (af : Option Addr) (nf cf : Nat) (F : List Int) (ar : Option Addr) (nr cr : Nat) (R : List Int) (w : World) (h : Bks w af nf cf F ar nr cr R) :
    Calls Try.prog 11 #[.agg #[.int .i64 c, .int .i64 q, .slice af nf cf, .slice ar nr cr]] w fun e w' => e = .returned (.bool (vhRight c q F R)) ∧ Below w.heap.size w w' := by
  have hW := below1 w (.cells #[.int .i64 c, .int .i64 q, .slice af nf cf, .slice ar nr cr] 24)
  have hB0 := B4.new w (.int .i64 c) (.int .i64 q) (.slice af nf cf) (.slice ar nr cr) 24
  have h1 := h.below hW
  have hf := bookfits_any af nf cf F 45 _ h1.lf h1.vf
  have hr := bookfits_any ar nr cr R 16 _ h1.lr h1.vr
  have hx : fitB R 16 = true → ∃ b off, ar = some ⟨b, off, none⟩ ∧ (w.alloc (.cells #[.int .i64 c, .int .i64 q, .slice af nf cf, .slice ar nr cr] 24)).cell? ⟨b, off + 15, none⟩ = some (.int .i64 (R.getD 15 0)) := fun hb => by
    unfold fitB at hb
    rw [Bool.and_eq_true, decide_eq_true_eq] at hb
    have hv := h1.vr
    rw [← h1.lr] at hv
    obtain ⟨b, off, e, _, hc⟩ := hv.at 15 (by omega)
    rw [h1.lr] at hc
    exact ⟨b, off, e, hc⟩
  have hn16 : fitB R 16 = true → nr = 16 := fun hb => by
    unfold fitB at hb
    rw [Bool.and_eq_true, decide_eq_true_eq] at hb
    have := h1.lr; omega
  rw [vhRight_fit]
  obtain ⟨ez, e0, e1, e2, e3, f0, f1, f2, f3⟩ := hB0
  generalize fitB F 45 = BF at *
  generalize fitB R 16 = BR at *
  generalize R.getD 15 0 = X at *
  clear h1 h
  obtain ⟨Y, hY⟩ : ∃ Y, decide (1 ≤ c ∧ c ≤ 2 ∧ 0 ≤ q ∧ q ≤ 12 ∧ BF = true ∧ BR = true ∧ 0 < X) = Y := ⟨_, rfl⟩
  have HY := hid hY
  rw [hY]
  clear hY
  by_cases c1 : 1 ≤ c
  case neg =>
    have HZ : Hid (Y = false) := by unfold Hid; rw [← HY.out]; exact decide_eq_false (fun k => c1 k.1)
    clear HY hx hn16 hf hr
    have d1 : decide (1 ≤ c) = false := decide_eq_false c1
    go_enter Try.func11, Try.ntmps11
    go_wp2
    go_ret
    exact ⟨ret_bool HZ.out.symm, hW⟩
  by_cases c2 : c ≤ 2
  case neg =>
    have HZ : Hid (Y = false) := by unfold Hid; rw [← HY.out]; exact decide_eq_false (fun k => c2 k.2.1)
    clear HY hx hn16 hf hr
    have d1 : decide (1 ≤ c) = true := decide_eq_true c1
    have d2 : decide (c ≤ 2) = false := decide_eq_false c2
    go_enter Try.func11, Try.ntmps11
    go_wp2
    go_ret
    exact ⟨ret_bool HZ.out.symm, hW⟩
  have d1 : decide (1 ≤ c) = true := decide_eq_true c1
  have d2 : decide (c ≤ 2) = true := decide_eq_true c2
  by_cases c3 : 0 ≤ q
  case neg =>
    have HZ : Hid (Y = false) := by unfold Hid; rw [← HY.out]; exact decide_eq_false (fun k => c3 k.2.2.1)
    clear HY hx hn16 hf hr
    have d3 : decide (0 ≤ q) = false := decide_eq_false c3
    go_enter Try.func11, Try.ntmps11
    go_wp2
    go_ret
    exact ⟨ret_bool HZ.out.symm, hW⟩
  by_cases c4 : q ≤ 12
  case neg =>
    have HZ : Hid (Y = false) := by unfold Hid; rw [← HY.out]; exact decide_eq_false (fun k => c4 k.2.2.2.1)
    clear HY hx hn16 hf hr
    have d3 : decide (0 ≤ q) = true := decide_eq_true c3
    have d4 : decide (q ≤ 12) = false := decide_eq_false c4
    go_enter Try.func11, Try.ntmps11
    go_wp2
    go_ret
    exact ⟨ret_bool HZ.out.symm, hW⟩
  have d3 : decide (0 ≤ q) = true := decide_eq_true c3
  have d4 : decide (q ≤ 12) = true := decide_eq_true c4
  cases BF
  · have HZ : Hid (Y = false) := by unfold Hid; rw [← HY.out]; exact decide_eq_false (fun k => Bool.noConfusion k.2.2.2.2.1)
    clear HY hx hn16 hr
    go_enter Try.func11, Try.ntmps11
    go_wp2_with (go_at_call 21; refine hf.mono ?_; rintro e w9 ⟨rfl, h9⟩; have h9 := h9.symm; subst h9)
    go_ret
    exact ⟨ret_bool HZ.out.symm, hW⟩
  · cases BR
    · have HZ : Hid (Y = false) := by unfold Hid; rw [← HY.out]; exact decide_eq_false (fun k => Bool.noConfusion k.2.2.2.2.2.1)
      clear HY hx hn16
      go_enter Try.func11, Try.ntmps11
      go_wp2_with (first | (go_at_call_of 21 (Value.slice af nf cf); refine hf.mono ?_; rintro e w9 ⟨rfl, h9⟩; have h9 := h9.symm; subst h9) | (go_at_call_of 21 (Value.slice ar nr cr); refine hr.mono ?_; rintro e w9 ⟨rfl, h9⟩; have h9 := h9.symm; subst h9))
      go_ret
      exact ⟨ret_bool HZ.out.symm, hW⟩
    · obtain ⟨b, off, rfl, hc⟩ := hx rfl
      obtain rfl := hn16 rfl
      have HZ : Hid (Y = decide (0 < X)) := by
        unfold Hid; rw [← HY.out, decide_eq_decide]
        exact ⟨fun k => k.2.2.2.2.2.2, fun k => ⟨c1, c2, c3, c4, rfl, rfl, k⟩⟩
      clear HY hx hn16
      go_enter Try.func11, Try.ntmps11
      go_wp2_with (first | (go_at_call_of 21 (Value.slice af nf cf); refine hf.mono ?_; rintro e w9 ⟨rfl, h9⟩; have h9 := h9.symm; subst h9) | (go_at_call_of 21 (Value.slice (some ⟨b, off, none⟩) 16 cr); refine hr.mono ?_; rintro e w9 ⟨rfl, h9⟩; have h9 := h9.symm; subst h9))
      all_goals go_ret
      all_goals exact ⟨ret_bool HZ.out.symm, hW⟩

set_option maxHeartbeats 4000000 in
theorem rvright_any (c q : Int) (af : Option Addr) (nf cf : Nat) (F : List Int) (ar : Option Addr) (nr cr : Nat) (R : List Int) (w : World) (h : Bks w af nf cf F ar nr cr R) :
    Calls Try.prog 12 #[.agg #[.int .i64 c, .int .i64 q, .slice af nf cf, .slice ar nr cr]] w fun e w' => e = .returned (.bool (vhRight c q F R)) ∧ Below w.heap.size w w' := by
  have hW := below1 w (.cells #[.int .i64 c, .int .i64 q, .slice af nf cf, .slice ar nr cr] 28)
  have hB0 := B4.new w (.int .i64 c) (.int .i64 q) (.slice af nf cf) (.slice ar nr cr) 28
  have h1 := h.below hW
  have hf := rright4_any (.slice af nf cf) F _ h1.vf
  have hr := rright4_any (.slice ar nr cr) R _ h1.vr
  have hx : nr = 16 → ∃ b off, ar = some ⟨b, off, none⟩ ∧ (w.alloc (.cells #[.int .i64 c, .int .i64 q, .slice af nf cf, .slice ar nr cr] 28)).cell? ⟨b, off + 15, none⟩ = some (.int .i64 (R.getD 15 0)) := fun hb => by
    have hv := h1.vr
    rw [← h1.lr] at hv hb
    obtain ⟨b, off, e, _, hc⟩ := hv.at 15 (by omega)
    rw [h1.lr] at hc
    exact ⟨b, off, e, hc⟩
  have hpos : rightL R = true → 0 ≤ R.getD 15 0 := fun hR => (five_of_right hR 15).1
  have HY0 : Hid (vhRight c q F R = decide (1 ≤ c ∧ c ≤ 2 ∧ 0 ≤ q ∧ q ≤ 12 ∧ nf = 45 ∧ nr = 16 ∧ rightL F = true ∧ rightL R = true ∧ 0 < R.getD 15 0)) := by
    unfold Hid vhRight; rw [h.lf, h.lr]
  obtain ⟨ez, e0, e1, e2, e3, f0, f1, f2, f3⟩ := hB0
  generalize vhRight c q F R = Y at *
  generalize rightL F = BF at *
  generalize rightL R = BR at *
  generalize R.getD 15 0 = X at *
  clear h1 h
  by_cases c1 : 1 ≤ c ∧ c ≤ 2
  case neg =>
    have HZ : Hid (Y = false) := by unfold Hid; rw [HY0.out]; exact decide_eq_false (fun k => c1 ⟨k.1, k.2.1⟩)
    have d1 : (c != 1) = true := by simp; omega
    have d2 : (c != 2) = true := by simp; omega
    clear HY0 hx hpos hf hr c1
    go_enter Try.func12, Try.ntmps12
    go_wp2
    go_ret
    exact ⟨ret_bool HZ.out.symm, hW⟩
  have hc12 : c = 1 ∨ c = 2 := by omega
  by_cases c3 : 0 ≤ q
  case neg =>
    have HZ : Hid (Y = false) := by unfold Hid; rw [HY0.out]; exact decide_eq_false (fun k => c3 k.2.2.1)
    have d3 : decide (q < 0) = true := decide_eq_true (by omega)
    clear HY0 hx hpos hf hr c1
    rcases hc12 with rfl | rfl
    all_goals
      go_enter Try.func12, Try.ntmps12
      go_wp2
      go_ret
      exact ⟨ret_bool HZ.out.symm, hW⟩
  by_cases c4 : q ≤ 12
  case neg =>
    have HZ : Hid (Y = false) := by unfold Hid; rw [HY0.out]; exact decide_eq_false (fun k => c4 k.2.2.2.1)
    have d3 : decide (q < 0) = false := decide_eq_false (by omega)
    have d4 : decide (12 < q) = true := decide_eq_true (by omega)
    clear HY0 hx hpos hf hr c1
    rcases hc12 with rfl | rfl
    all_goals
      go_enter Try.func12, Try.ntmps12
      go_wp2
      go_ret
      exact ⟨ret_bool HZ.out.symm, hW⟩
  have d3 : decide (q < 0) = false := decide_eq_false (by omega)
  have d4 : decide (12 < q) = false := decide_eq_false (by omega)
  by_cases c5 : nf = 45
  case neg =>
    have HZ : Hid (Y = false) := by unfold Hid; rw [HY0.out]; exact decide_eq_false (fun k => c5 k.2.2.2.2.1)
    have d5 : ((nf : Int) != 45) = true := by simp; omega
    clear HY0 hx hpos hf hr c1
    rcases hc12 with rfl | rfl
    all_goals
      go_enter Try.func12, Try.ntmps12
      go_wp2
      go_ret
      exact ⟨ret_bool HZ.out.symm, hW⟩
  by_cases c6 : nr = 16
  case neg =>
    have HZ : Hid (Y = false) := by unfold Hid; rw [HY0.out]; exact decide_eq_false (fun k => c6 k.2.2.2.2.2.1)
    have d6 : ((nr : Int) != 16) = true := by simp; omega
    obtain rfl := c5
    clear HY0 hx hpos hf hr c1
    rcases hc12 with rfl | rfl
    all_goals
      go_enter Try.func12, Try.ntmps12
      go_wp2
      go_ret
      exact ⟨ret_bool HZ.out.symm, hW⟩
  obtain ⟨b, off, rfl, hc⟩ := hx c6
  subst c5 c6
  clear hx
  cases BF
  · have HZ : Hid (Y = false) := by unfold Hid; rw [HY0.out]; exact decide_eq_false (fun k => Bool.noConfusion k.2.2.2.2.2.2.1)
    clear HY0 hpos hr c1
    rcases hc12 with rfl | rfl
    all_goals
      go_enter Try.func12, Try.ntmps12
      go_wp2_with (go_at_call 22; refine hf.mono ?_; rintro e w9 ⟨rfl, h9⟩; have h9 := h9.symm; subst h9)
      go_ret
      exact ⟨ret_bool HZ.out.symm, hW⟩
  · cases BR
    · have HZ : Hid (Y = false) := by unfold Hid; rw [HY0.out]; exact decide_eq_false (fun k => Bool.noConfusion k.2.2.2.2.2.2.2.1)
      clear HY0 hpos c1
      rcases hc12 with rfl | rfl
      all_goals
        go_enter Try.func12, Try.ntmps12
        go_wp2_with (first | (go_at_call_of 22 (Value.slice af 45 cf); refine hf.mono ?_; rintro e w9 ⟨rfl, h9⟩; have h9 := h9.symm; subst h9) | (go_at_call_of 22 (Value.slice (some ⟨b, off, none⟩) 16 cr); refine hr.mono ?_; rintro e w9 ⟨rfl, h9⟩; have h9 := h9.symm; subst h9))
        go_ret
        exact ⟨ret_bool HZ.out.symm, hW⟩
    · have hx0 := hpos rfl
      have HZ : Hid (Y = (X != 0)) := by
        unfold Hid; rw [HY0.out]
        by_cases e : 0 < X
        · rw [decide_eq_true ⟨c1.1, c1.2, c3, c4, rfl, rfl, rfl, rfl, e⟩]; symm; simp; omega
        · rw [decide_eq_false (fun k => e k.2.2.2.2.2.2.2.2)]; symm; simp; omega
      clear HY0 hpos c1 hx0
      generalize hXB : (X != 0) = XB at *
      rcases hc12 with rfl | rfl
      all_goals
        go_enter Try.func12, Try.ntmps12
        go_wp2_with (first | (go_at_call_of 22 (Value.slice af 45 cf); refine hf.mono ?_; rintro e w9 ⟨rfl, h9⟩; have h9 := h9.symm; subst h9) | (go_at_call_of 22 (Value.slice (some ⟨b, off, none⟩) 16 cr); refine hr.mono ?_; rintro e w9 ⟨rfl, h9⟩; have h9 := h9.symm; subst h9))
        all_goals go_ret
        all_goals exact ⟨ret_bool HZ.out.symm, hW⟩
theorem as16_any (c q : Int) (af : Option Addr) (nf cf : Nat) (ar : Option Addr) (nr cr : Nat) (w : World) :
    Calls Try.prog 13 #[.agg #[.int .i64 c, .int .i64 q, .slice af nf cf, .slice ar nr cr]] w fun e w' => e = .returned (.agg #[.int .i64 c, .int .i64 q, .slice af nf cf, .slice ar nr cr]) ∧ Below w.heap.size w w' := by
  have hB := B4.new2 w (.cells #[.int .i64 c, .int .i64 q, .slice af nf cf, .slice ar nr cr] 24) (.int .i64 c) (.int .i64 q) (.slice af nf cf) (.slice ar nr cr) 28
  have hW := below2 w (.cells #[.int .i64 c, .int .i64 q, .slice af nf cf, .slice ar nr cr] 24) (.cells #[.int .i64 c, .int .i64 q, .slice af nf cf, .slice ar nr cr] 28)
  go_enter Try.func13, Try.ntmps13
  go_wp2
  obtain ⟨gz', g0', g1', g2', g3', k0', k1', k2', k3'⟩ := hB
  refine bodyPost_ret (v := .agg #[.int .i64 c, .int .i64 q, .slice af nf cf, .slice ar nr cr]) (by simp [results, Try.results13, go_sem, g0', g1', g2', g3', k0', k1', k2', k3']) rfl ⟨rfl, hW⟩
theorem great16_any (c q : Int) (af : Option Addr) (nf cf : Nat) (ar : Option Addr) (nr cr : Nat) (w : World) :
    Calls Try.prog 9 #[.agg #[.int .i64 c, .int .i64 q, .slice af nf cf, .slice ar nr cr]] w fun e w' => e = .returned (.bool (decide (200 < nf ∨ 200 < nr))) ∧ Below w.heap.size w w' := by
  have hW := below1 w (.cells #[.int .i64 c, .int .i64 q, .slice af nf cf, .slice ar nr cr] 24)
  by_cases h1 : 200 < nf
  · have d1 : decide (200 < (nf : Int)) = true := decide_eq_true (by omega)
    rw [decide_eq_true (.inl h1)]
    go_enter Try.func9, Try.ntmps9
    go_wp2
    go_ret
    exact ⟨rfl, hW⟩
  · have d1 : decide (200 < (nf : Int)) = false := decide_eq_false (by omega)
    by_cases h2 : 200 < nr
    · have d2 : decide (200 < (nr : Int)) = true := decide_eq_true (by omega)
      rw [decide_eq_true (.inr h2)]
      go_enter Try.func9, Try.ntmps9
      go_wp2
      go_ret
      exact ⟨rfl, hW⟩
    · have d2 : decide (200 < (nr : Int)) = false := decide_eq_false (by omega)
      rw [decide_eq_false (by omega)]
      go_enter Try.func9, Try.ntmps9
      go_wp2
      go_ret
      exact ⟨rfl, hW⟩
set_option maxHeartbeats 2000000 in
theorem same16_yes (c q : Int) (a1 : Option Addr) (n1 k1 : Nat) (b1 : Option Addr) (m1 j1 : Nat) (a2 : Option Addr) (n2 k2 : Nat) (b2 : Option Addr) (m2 j2 : Nat) (F R : List Int) (w : World) (hF : F.length ≤ 100) (hR : R.length ≤ 100) (v1 : Rw .i64 w (.slice a1 n1 k1) F) (v2 : Rw .i64 w (.slice b1 m1 j1) R) (v3 : Rw .i64 w (.slice a2 n2 k2) F) (v4 : Rw .i64 w (.slice b2 m2 j2) R) :
    Calls Try.prog 14 #[.agg #[.int .i64 c, .int .i64 q, .slice a1 n1 k1, .slice b1 m1 j1], .agg #[.int .i64 c, .int .i64 q, .slice a2 n2 k2, .slice b2 m2 j2]] w fun e w' => e = .returned (.bool true) ∧ Below w.heap.size w w' := by
  have hW := below2 w (.cells #[.int .i64 c, .int .i64 q, .slice a1 n1 k1, .slice b1 m1 j1] 28) (.cells #[.int .i64 c, .int .i64 q, .slice a2 n2 k2, .slice b2 m2 j2] 28)
  have hA := (B4.new w (.int .i64 c) (.int .i64 q) (.slice a1 n1 k1) (.slice b1 m1 j1) 28).below (below1 (w.alloc (.cells #[.int .i64 c, .int .i64 q, .slice a1 n1 k1, .slice b1 m1 j1] 28)) (.cells #[.int .i64 c, .int .i64 q, .slice a2 n2 k2, .slice b2 m2 j2] 28))
  have hB := B4.new2 w (.cells #[.int .i64 c, .int .i64 q, .slice a1 n1 k1, .slice b1 m1 j1] 28) (.int .i64 c) (.int .i64 q) (.slice a2 n2 k2) (.slice b2 m2 j2) 28
  have p1 := v1.below hW
  have p2 := v2.below hW
  have p3 := v3.below hW
  have p4 := v4.below hW
  have hs1 := same_yes _ _ F _ p1 p3 hF
  have hs2 := fun w' hb => same_yes _ _ R w' (p2.below hb) (p4.below hb) hR
  have HW := hid hW
  go_enter Try.func14, Try.ntmps14
  clear v1 v2 v3 v4 p1 p2 p3 p4 hF hR hW
  obtain ⟨ez, e0, e1, e2, e3, f0, f1, f2, f3⟩ := id hA
  obtain ⟨gz, g0, g1, g2, g3, i0, i1, i2, i3⟩ := id hB
  go_wp2_with (first | (go_at_call_of 23 (Value.slice a1 n1 k1); refine hs1.mono ?_; rintro e wz ⟨rfl, hz⟩; have hA2 := hA.below hz; have hB2 := hB.below hz; have HZ := hid hz; obtain ⟨ez', e0', e1', e2', e3', f0', f1', f2', f3'⟩ := hA2; obtain ⟨gz', g0', g1', g2', g3', i0', i1', i2', i3'⟩ := hB2; clear hz) | (go_at_call_of 23 (Value.slice b1 m1 j1); refine (hs2 _ (by first | exact HZ.out | exact hz)).mono ?_; rintro e wy ⟨rfl, hy⟩))
  go_ret
  exact ⟨rfl, bthen' HW.out (bthen' HZ.out hy)⟩
end Go.Proofs.Ytdgacbelpenmmaa
