/- Contracts: the program's Turn and Back; the document's Turn, Back and Full. -/
import Derived.Test.YtdfihdkkidekjaaDoorHc
import Derived.Test.YtdfihdkkidekjaaDoorHd
namespace Go.Proofs.YtdfihdkkidekjaaDoor
open Go.RowKit
set_option linter.unusedVariables false
set_option linter.unusedSimpArgs false

theorem below_grown {a b c : World} {g : Nat} (h : Below a.heap.size a b) (k : b.grownBy c (some g)) (hg : a.heap.size ≤ g) : Below a.heap.size a c :=
  h.grown k h.size (fun i hi => by simp at hi; omega)

theorem lturn_no (a : Option Addr) (cap : Nat) (x : List Int) (p : Int) (w : World) (hv : Rw .i64 w (.slice a x.length cap) x) (hf : Fits x) (hn : x.length ≤ 200) (p0 : -9223372036854775808 ≤ p) (p1 : p ≤ 9223372036854775807) (h : (okB 262144 x && bord x.length p) = false) :
    Calls Tryd.prog 12 #[.slice a x.length cap, .int .i64 p] w fun e w' => e = .returned (.tuple #[.slice none 0 0, .int .i64 1]) ∧ w' = w := by
  have hr := fun w hv => lright_any (.slice a x.length cap) x w hv hf hn
  have hb := fun w => isBorder_any x.length p w hn p0 p1
  cases h1 : okB 262144 x
  · rw [h1] at hr
    clear h h1 hb
    go_enter Tryd.func12, Tryd.ntmps12
    go_wp2_with (go_at_call 14; refine (hr _ hv).mono ?_; rintro e w9 ⟨rfl, h9⟩; have h9 := h9.symm; subst h9)
    go_ret2
    exact ⟨rfl, rfl⟩
  · rw [h1] at hr h
    rw [show bord x.length p = false from h] at hb
    clear h h1
    go_enter Tryd.func12, Tryd.ntmps12
    go_wp2_with (first | (go_at_call 14; refine (hr _ hv).mono ?_; rintro e w9 ⟨rfl, h9⟩; have h9 := h9.symm; subst h9) | (go_at_call 28; refine (hb _).mono ?_; rintro e w8 ⟨rfl, h8⟩; have h8 := h8.symm; subst h8))
    go_ret2
    exact ⟨rfl, rfl⟩
set_option maxHeartbeats 1000000 in
theorem lturn_ok (a : Option Addr) (cap : Nat) (x : List Int) (p : Nat) (w : World) (hw : Wt w) (hv : Rw .i64 w (.slice a x.length cap) x) (hf : Fits x) (hn : x.length ≤ 200) (hb : Bd (-262144) 262144 x) (hp : 4 ≤ p) (hl : p + 4 ≤ x.length) :
    Calls Tryd.prog 12 #[.slice a x.length cap, .int .i64 p] w fun e w' => ∃ g c, e = .returned (.tuple #[.slice (some ⟨g, 0, none⟩) x.length c, .int .i64 0]) ∧ x.length ≤ c ∧ w.heap.size ≤ g ∧ Hl .i64 2 w' g (tnL p x) ∧ Below w.heap.size w w' := by
  have hr := fun w hv => lright_any (.slice a x.length cap) x w hv hf hn
  rw [okB_of hb] at hr
  have hbo := fun w => isBorder_any x.length p w hn (by omega) (by omega)
  rw [show bord x.length p = true from decide_eq_true ⟨by omega, by omega⟩] at hbo
  have hcl := fun w hv => clone_any a cap x w hv (by omega) (by omega)
  have hIN : In x (p - 4) (p + 4) 4294967296 := (In.of_bd hb _ _).mono (Nat.le_refl _) (Nat.le_refl _) (by omega)
  have HT : Hid (∀ (w : World) (g c : Nat), Wt w → g ≠ 0 → Hl .i64 2 w g x → Calls Tryd.prog 30 #[.slice (some ⟨g, 0, none⟩) x.length c, .int .i64 p] w fun e w' => e = .returned (.tuple #[]) ∧ Hl .i64 2 w' g (tnL p x) ∧ w.grownBy w' (some g)) := fun w g c h1 h2 h3 => turn_any g c x.length p x w h1 h2 h3 rfl hp hl (by omega) hIN
  have HW := hid hw
  generalize tnL p x = Y at *
  clear hw hIN hb
  go_enter Tryd.func12, Tryd.ntmps12
  go_wp2_with (first | (go_at_call 14; refine (hr _ hv).mono ?_; rintro e w9 ⟨rfl, h9⟩; have h9 := h9.symm; subst h9) | (go_at_call 28; refine (hbo _).mono ?_; rintro e w8 ⟨rfl, h8⟩; have h8 := h8.symm; subst h8) | (go_at_call 29; refine (hcl _ hv).mono ?_; rintro e w1 ⟨g1, c1, rfl, hc1, hg1, hh1, hb1⟩; have HH1 := hid hh1; clear hh1) | (go_at_call 30; refine (HT.out _ g1 c1 (HW.out.below hb1) (by have := HW.out.lt; omega) HH1.out).mono ?_; rintro e w2 ⟨rfl, hh2, hgr2⟩; have HH2 := hid hh2; clear hh2))
  go_ret2
  exact ⟨g1, c1, rfl, hc1, hg1, HH2.out, below_grown hb1 hgr2 hg1⟩
theorem lback_no (a : Option Addr) (cap : Nat) (x : List Int) (p : Int) (w : World) (hv : Rw .i64 w (.slice a x.length cap) x) (hf : Fits x) (hn : x.length ≤ 200) (p0 : -9223372036854775808 ≤ p) (p1 : p ≤ 9223372036854775807) (h : (okB 1048576 x && bord x.length p) = false) :
    Calls Tryd.prog 18 #[.slice a x.length cap, .int .i64 p] w fun e w' => e = .returned (.tuple #[.slice none 0 0, .int .i64 1]) ∧ w' = w := by
  have hr := fun w hv => lfits_any (.slice a x.length cap) x 1048576 w hv hf hn (by omega) (by omega)
  have hb := fun w => isBorder_any x.length p w hn p0 p1
  cases h1 : okB 1048576 x
  · rw [h1] at hr
    clear h h1 hb
    go_enter Tryd.func18, Tryd.ntmps18
    go_wp2_with (go_at_call 31; refine (hr _ hv).mono ?_; rintro e w9 ⟨rfl, h9⟩; have h9 := h9.symm; subst h9)
    go_ret2
    exact ⟨rfl, rfl⟩
  · rw [h1] at hr h
    rw [show bord x.length p = false from h] at hb
    clear h h1
    go_enter Tryd.func18, Tryd.ntmps18
    go_wp2_with (first | (go_at_call 31; refine (hr _ hv).mono ?_; rintro e w9 ⟨rfl, h9⟩; have h9 := h9.symm; subst h9) | (go_at_call 28; refine (hb _).mono ?_; rintro e w8 ⟨rfl, h8⟩; have h8 := h8.symm; subst h8))
    go_ret2
    exact ⟨rfl, rfl⟩
set_option maxHeartbeats 1000000 in
theorem lback_ok (a : Option Addr) (cap : Nat) (x : List Int) (p : Nat) (w : World) (hw : Wt w) (hv : Rw .i64 w (.slice a x.length cap) x) (hf : Fits x) (hn : x.length ≤ 200) (hb : Bd (-1048576) 1048576 x) (hp : 4 ≤ p) (hl : p + 4 ≤ x.length) :
    Calls Tryd.prog 18 #[.slice a x.length cap, .int .i64 p] w fun e w' => ∃ g c, e = .returned (.tuple #[.slice (some ⟨g, 0, none⟩) x.length c, .int .i64 0]) ∧ x.length ≤ c ∧ w.heap.size ≤ g ∧ Hl .i64 2 w' g (bkL p x) ∧ Below w.heap.size w w' := by
  have hr := fun w hv => lfits_any (.slice a x.length cap) x 1048576 w hv hf hn (by omega) (by omega)
  rw [okB_of hb] at hr
  have hbo := fun w => isBorder_any x.length p w hn (by omega) (by omega)
  rw [show bord x.length p = true from decide_eq_true ⟨by omega, by omega⟩] at hbo
  have hcl := fun w hv => clone_any a cap x w hv (by omega) (by omega)
  have hIN : In x (p - 4) (p + 4) 4294967296 := (In.of_bd hb _ _).mono (Nat.le_refl _) (Nat.le_refl _) (by omega)
  have HT : Hid (∀ (w : World) (g c : Nat), Wt w → g ≠ 0 → Hl .i64 2 w g x → Calls Tryd.prog 33 #[.slice (some ⟨g, 0, none⟩) x.length c, .int .i64 p] w fun e w' => e = .returned (.tuple #[]) ∧ Hl .i64 2 w' g (bkL p x) ∧ w.grownBy w' (some g)) := fun w g c h1 h2 h3 => turnBack_any g c x.length p x w h1 h2 h3 rfl hp hl (by omega) hIN
  have HW := hid hw
  generalize bkL p x = Y at *
  clear hw hIN hb
  go_enter Tryd.func18, Tryd.ntmps18
  go_wp2_with (first | (go_at_call 31; refine (hr _ hv).mono ?_; rintro e w9 ⟨rfl, h9⟩; have h9 := h9.symm; subst h9) | (go_at_call 28; refine (hbo _).mono ?_; rintro e w8 ⟨rfl, h8⟩; have h8 := h8.symm; subst h8) | (go_at_call 29; refine (hcl _ hv).mono ?_; rintro e w1 ⟨g1, c1, rfl, hc1, hg1, hh1, hb1⟩; have HH1 := hid hh1; clear hh1) | (go_at_call 33; refine (HT.out _ g1 c1 (HW.out.below hb1) (by have := HW.out.lt; omega) HH1.out).mono ?_; rintro e w2 ⟨rfl, hh2, hgr2⟩; have HH2 := hid hh2; clear hh2))
  go_ret2
  exact ⟨g1, c1, rfl, hc1, hg1, HH2.out, below_grown hb1 hgr2 hg1⟩
set_option maxRecDepth 10000 in
set_option maxHeartbeats 4000000 in
theorem rturn_any (a : Option Addr) (cap : Nat) (x : List Int) (p : Nat) (w : World) (hv : Rw .i64 w (.slice a x.length cap) x) (hp : 4 ≤ p) (hl : p + 4 ≤ x.length) (hn : x.length ≤ 4000) (hB : In x (p - 4) (p + 4) 4294967296) :
    Calls Tryd.prog 17 #[.slice a x.length cap, .int .i64 p] w fun e w' => ∃ g c, e = .returned (.slice (some ⟨g, 0, none⟩) x.length c) ∧ x.length ≤ c ∧ w.heap.size ≤ g ∧ Hl .i64 2 w' g (tnL p x) ∧ Below w.heap.size w w' := by
  obtain ⟨i0, hi, hz0, hz1, hz2⟩ := info_parts info_i64
  have hv0 := hv
  obtain ⟨a', cap', he, ha⟩ := hv0
  simp only [Value.slice.injEq, true_and] at he
  obtain ⟨rfl, rfl⟩ := he
  obtain ⟨b, off, rfl, hlt, hc⟩ := ha.resolve_left (by intro h; subst h; simp at hl)
  clear ha
  have HIN := hid hB
  have HC := hid hc
  have HV := hid hv
  have HL : Hid (p + 4 ≤ x.length) := hl
  obtain ⟨n, hxn⟩ : ∃ n, x.length = n := ⟨_, rfl⟩
  have HX := hid hxn
  rw [hxn] at hl hn HV ⊢
  clear hxn hB hc hv
  go_enter Tryd.func17, Tryd.ntmps17
  go_wp2_with (at_builtin; refine wpList_append_rw rfl _ _ _ rfl w.heap.size 2 i0 (.int .i64 0) 8 Tryd.underlying22 hi hz0 hz1 hz2 rfl .i64 _ 0 [] rfl (own_empty (Nat.le_refl _)) (some ⟨b, off, none⟩) cap x (by rw [HX.out]; rfl) (by rw [HX.out]; exact HV.out.below (below1 _ _)) (by intro h; cases h) (by rw [HX.out]; unfold maxLen; omega) (by rw [HX.out]; omega) (by simp) ?_)
  intro v8 w5 hown8 hgrow8
  have hb8 : Below w.heap.size w w5 := ((Below.refl _ _).alloc (Nat.le_refl _) _).grown hgrow8 (by simp) (fun k hk => by simp [Value.ownBlock] at hk; omega)
  have hown8 : w5.ownsRow w.heap.size 2 1 v8 n (x.map (Value.int .i64)) := by
    have h := hown8
    rw [HX.out] at h
    exact h
  obtain ⟨g, c, rfl, hg, hgc, hhl⟩ := Hl.of_owns hown8 (by omega)
  have HH := hid hhl
  have HGC := hid hgc
  have HB8 := hid hb8
  have hne : b ≠ g := by omega
  clear hown8 hgrow8 hhl hgc hb8
  go_wp2
  go_loopw [6] (fun i wr => ∃ k : Nat, k ≤ 4 ∧ i = .int .i64 k ∧ Hl .i64 2 wr g (twL p k (tu x p) (tv x p) x) ∧ Below w.heap.size w wr) (fun i _ => 4 - (intOf i).toNat)
  case atStart => exact ⟨0, by omega, rfl, by rw [twL_zero]; exact HH.out, HB8.out⟩
  case round =>
    obtain ⟨k, hk, rfl, hhl, hbr⟩ := hrel
    have HR := hid hhl
    have HG := hid hbr
    clear hhl hbr HH HB8
    by_cases hlt4 : k < 4
    · have q1 := ((bcell HG.out).1 _ _ hlt).trans (HC.out (p + k) (by rw [HX.out]; omega))
      have q2 := ((bcell HG.out).1 _ _ hlt).trans (HC.out (p - 1 - k) (by rw [HX.out]; omega))
      have q3 := HR.out.cell (p + k) (by rw [twL_len, HX.out]; omega)
      have q4 := HR.out.free (p + k)
      have q5 := HR.out.cell (p - 1 - k) (by rw [twL_len, HX.out]; omega)
      have q6 := HR.out.free (p - 1 - k)
      have b1 := HIN.out (p + k) (by omega) (by omega) (by rw [HX.out]; omega)
      have b2 := HIN.out (p - 1 - k) (by omega) (by omega) (by rw [HX.out]; omega)
      have b3 := tv_bd HIN.out hp HL.out k hlt4
      have b4 := tu_bd HIN.out hp HL.out k hlt4
      have HN := hid (twL_next' p k (tu x p) (tv x p) x (by omega) (by rw [HX.out]; omega))
      have hc1 := fun w => part_of (x.getD (p - 1 - k) 0) k w (by omega) (by omega) hlt4
      have hc2 := fun w => part_of (tv x p k) k w (by omega) (by omega) hlt4
      have ev : x.getD (p + k) 0 - prt (x.getD (p - 1 - k) 0) k = tv x p k := rfl
      have eu : x.getD (p - 1 - k) 0 + prt (tv x p k) k = tu x p k := rfl
      generalize tv x p k = zv at *
      generalize tu x p k = zu at *
      generalize x.getD (p + k) 0 = xv at *
      generalize x.getD (p - 1 - k) 0 = xu at *
      generalize prt xu k = y1 at *
      generalize prt zv k = y2 at *
      obtain ⟨P, hP⟩ : ∃ P : Nat, P = p + k := ⟨_, rfl⟩
      obtain ⟨Q, hQ⟩ : ∃ Q : Nat, Q = p - 1 - k := ⟨_, rfl⟩
      rw [← hP] at q1 q3 q4 HN
      rw [← hQ] at q2 q5 q6 HN
      generalize (twL p k (tu x p) (tv x p) x).getD P 0 = o1 at q3
      generalize (twL p k (tu x p) (tv x p) x).getD Q 0 = o2 at q5
      have e1 : (p : Int) + (k : Int) = (P : Int) := by omega
      have e2 : (p : Int) - 1 - (k : Int) = (Q : Int) := by omega
      have r1 : IntKind.i64.wrap (P : Int) = P := wraps_i64 _ (by omega) (by omega)
      have r2 : IntKind.i64.wrap (Q : Int) = Q := wraps_i64 _ (by omega) (by omega)
      have r4 : IntKind.i64.wrap (k : Int) = k := wraps_i64 _ (by omega) (by omega)
      have p1 : (P : Int) < (n : Int) := by omega
      have p2 : (Q : Int) < (n : Int) := by omega
      have p5 : (0 : Int) ≤ (P : Int) := by omega
      have p6 : (0 : Int) ≤ (Q : Int) := by omega
      have p8 : (0 : Int) ≤ (k : Int) := by omega
      have r5 : IntKind.i64.wrap ((p : Int) - 1) = (p : Int) - 1 := wraps_i64 _ (by omega) (by omega)
      have n1 : P ≠ Q := by omega
      have n2 : Q ≠ P := by omega
      clear hP hQ
      go_wp2
      go_quiet (fail)
      go_wp2_with (first | (go_at_call_of 32 xu; refine (hc1 _).mono ?_; rintro e w9 ⟨rfl, h9⟩; have h9 := h9.symm; subst h9) | (go_at_call_of 32 zv; refine (hc2 _).mono ?_; rintro e w9 ⟨rfl, h9⟩; have h9 := h9.symm; subst h9))
      refine ⟨⟨k + 1, by omega, by go_num, ?_, ?_⟩, by simp [intOf]; omega⟩
      · rw [HN.out]; exact (Hl.set (w := (wr.drewN _).setCell ⟨g, Q, none⟩ (.int .i64 zu)) (Hl.set (w := wr.drewN _) HR.out Q zu) P zv)
      · exact bset2 (drewN_below HG.out _) _ _ _ _ _ _ hg hg
    · have hke : k = 4 := by omega
      have R1 : Hid (Hl .i64 2 wr g (tnL p x)) := by
        have := HR.out
        rw [hke] at this
        exact this
      clear hke HR
      go_wp2
      go_ret
      exact ⟨g, c, rfl, HGC.out, hg, R1.out, HG.out⟩
set_option maxRecDepth 10000 in
set_option maxHeartbeats 4000000 in
theorem rback_any (a : Option Addr) (cap : Nat) (x : List Int) (p : Nat) (w : World) (hv : Rw .i64 w (.slice a x.length cap) x) (hp : 4 ≤ p) (hl : p + 4 ≤ x.length) (hn : x.length ≤ 4000) (hB : In x (p - 4) (p + 4) 4294967296) :
    Calls Tryd.prog 19 #[.slice a x.length cap, .int .i64 p] w fun e w' => ∃ g c, e = .returned (.slice (some ⟨g, 0, none⟩) x.length c) ∧ x.length ≤ c ∧ w.heap.size ≤ g ∧ Hl .i64 2 w' g (bkL p x) ∧ Below w.heap.size w w' := by
  obtain ⟨i0, hi, hz0, hz1, hz2⟩ := info_parts info_i64
  have hv0 := hv
  obtain ⟨a', cap', he, ha⟩ := hv0
  simp only [Value.slice.injEq, true_and] at he
  obtain ⟨rfl, rfl⟩ := he
  obtain ⟨b, off, rfl, hlt, hc⟩ := ha.resolve_left (by intro h; subst h; simp at hl)
  clear ha
  have HIN := hid hB
  have HC := hid hc
  have HV := hid hv
  have HL : Hid (p + 4 ≤ x.length) := hl
  obtain ⟨n, hxn⟩ : ∃ n, x.length = n := ⟨_, rfl⟩
  have HX := hid hxn
  rw [hxn] at hl hn HV ⊢
  clear hxn hB hc hv
  go_enter Tryd.func19, Tryd.ntmps19
  go_wp2_with (at_builtin; refine wpList_append_rw rfl _ _ _ rfl w.heap.size 2 i0 (.int .i64 0) 8 Tryd.underlying22 hi hz0 hz1 hz2 rfl .i64 _ 0 [] rfl (own_empty (Nat.le_refl _)) (some ⟨b, off, none⟩) cap x (by rw [HX.out]; rfl) (by rw [HX.out]; exact HV.out.below (below1 _ _)) (by intro h; cases h) (by rw [HX.out]; unfold maxLen; omega) (by rw [HX.out]; omega) (by simp) ?_)
  intro v8 w5 hown8 hgrow8
  have hb8 : Below w.heap.size w w5 := ((Below.refl _ _).alloc (Nat.le_refl _) _).grown hgrow8 (by simp) (fun k hk => by simp [Value.ownBlock] at hk; omega)
  have hown8 : w5.ownsRow w.heap.size 2 1 v8 n (x.map (Value.int .i64)) := by
    have h := hown8
    rw [HX.out] at h
    exact h
  obtain ⟨g, c, rfl, hg, hgc, hhl⟩ := Hl.of_owns hown8 (by omega)
  have HH := hid hhl
  have HGC := hid hgc
  have HB8 := hid hb8
  have hne : b ≠ g := by omega
  clear hown8 hgrow8 hhl hgc hb8
  go_wp2
  go_loopw [6] (fun i wr => ∃ k : Nat, k ≤ 4 ∧ i = .int .i64 k ∧ Hl .i64 2 wr g (twL p k (bu x p) (bw x p) x) ∧ Below w.heap.size w wr) (fun i _ => 4 - (intOf i).toNat)
  case atStart => exact ⟨0, by omega, rfl, by rw [twL_zero]; exact HH.out, HB8.out⟩
  case round =>
    obtain ⟨k, hk, rfl, hhl, hbr⟩ := hrel
    have HR := hid hhl
    have HG := hid hbr
    clear hhl hbr HH HB8
    by_cases hlt4 : k < 4
    · have q1 := ((bcell HG.out).1 _ _ hlt).trans (HC.out (p + k) (by rw [HX.out]; omega))
      have q2 := ((bcell HG.out).1 _ _ hlt).trans (HC.out (p - 1 - k) (by rw [HX.out]; omega))
      have q3 := HR.out.cell (p + k) (by rw [twL_len, HX.out]; omega)
      have q4 := HR.out.free (p + k)
      have q5 := HR.out.cell (p - 1 - k) (by rw [twL_len, HX.out]; omega)
      have q6 := HR.out.free (p - 1 - k)
      have b1 := HIN.out (p + k) (by omega) (by omega) (by rw [HX.out]; omega)
      have b2 := HIN.out (p - 1 - k) (by omega) (by omega) (by rw [HX.out]; omega)
      have b3 := bw_bd HIN.out hp HL.out k hlt4
      have b4 := bu_bd HIN.out hp HL.out k hlt4
      have HN := hid (twL_next' p k (bu x p) (bw x p) x (by omega) (by rw [HX.out]; omega))
      have hc1 := fun w => part_of (x.getD (p + k) 0) k w (by omega) (by omega) hlt4
      have hc2 := fun w => part_of (bu x p k) k w (by omega) (by omega) hlt4
      have eu : x.getD (p - 1 - k) 0 - prt (x.getD (p + k) 0) k = bu x p k := rfl
      have ev : x.getD (p + k) 0 + prt (bu x p k) k = bw x p k := rfl
      generalize bu x p k = zu at *
      generalize bw x p k = zv at *
      generalize x.getD (p + k) 0 = xv at *
      generalize x.getD (p - 1 - k) 0 = xu at *
      generalize prt xv k = y1 at *
      generalize prt zu k = y2 at *
      obtain ⟨P, hP⟩ : ∃ P : Nat, P = p + k := ⟨_, rfl⟩
      obtain ⟨Q, hQ⟩ : ∃ Q : Nat, Q = p - 1 - k := ⟨_, rfl⟩
      rw [← hP] at q1 q3 q4 HN
      rw [← hQ] at q2 q5 q6 HN
      generalize (twL p k (bu x p) (bw x p) x).getD P 0 = o1 at q3
      generalize (twL p k (bu x p) (bw x p) x).getD Q 0 = o2 at q5
      have e1 : (p : Int) + (k : Int) = (P : Int) := by omega
      have e2 : (p : Int) - 1 - (k : Int) = (Q : Int) := by omega
      have r1 : IntKind.i64.wrap (P : Int) = P := wraps_i64 _ (by omega) (by omega)
      have r2 : IntKind.i64.wrap (Q : Int) = Q := wraps_i64 _ (by omega) (by omega)
      have r4 : IntKind.i64.wrap (k : Int) = k := wraps_i64 _ (by omega) (by omega)
      have p1 : (P : Int) < (n : Int) := by omega
      have p2 : (Q : Int) < (n : Int) := by omega
      have p5 : (0 : Int) ≤ (P : Int) := by omega
      have p6 : (0 : Int) ≤ (Q : Int) := by omega
      have p8 : (0 : Int) ≤ (k : Int) := by omega
      have r5 : IntKind.i64.wrap ((p : Int) - 1) = (p : Int) - 1 := wraps_i64 _ (by omega) (by omega)
      have n1 : P ≠ Q := by omega
      have n2 : Q ≠ P := by omega
      clear hP hQ
      go_wp2
      go_quiet (fail)
      go_wp2_with (first | (go_at_call_of 32 xv; refine (hc1 _).mono ?_; rintro e w9 ⟨rfl, h9⟩; have h9 := h9.symm; subst h9) | (go_at_call_of 32 zu; refine (hc2 _).mono ?_; rintro e w9 ⟨rfl, h9⟩; have h9 := h9.symm; subst h9))
      refine ⟨⟨k + 1, by omega, by go_num, ?_, ?_⟩, by simp [intOf]; omega⟩
      · rw [HN.out]; exact (Hl.set (w := (wr.drewN _).setCell ⟨g, Q, none⟩ (.int .i64 zu)) (Hl.set (w := wr.drewN _) HR.out Q zu) P zv)
      · exact bset2 (drewN_below HG.out _) _ _ _ _ _ _ hg hg
    · have hke : k = 4 := by omega
      have R1 : Hid (Hl .i64 2 wr g (bkL p x)) := by
        have := HR.out
        rw [hke] at this
        exact this
      clear hke HR
      go_wp2
      go_ret
      exact ⟨g, c, rfl, HGC.out, hg, R1.out, HG.out⟩
end Go.Proofs.YtdfihdkkidekjaaDoor
