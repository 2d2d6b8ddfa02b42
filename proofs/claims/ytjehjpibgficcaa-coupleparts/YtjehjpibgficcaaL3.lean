/- The Go function of the statement CoupleParts returns true at every input, and leaves each argument as it read. No condition. -/
import Derived.Test.YtjehjpibgficcaaSf
import Derived.ProofKit
import Derived.OpenShut
import Derived.ShutString
import Derived.ChangeOld
import Derived.Lib.SmallJoins
namespace Go.Proofs.Ytjehjpibgficcaa.coupleParts
open Go.ChangeShapes Go.WideShapes Go.ChangeAt Go.RowKit Go.Joins
set_option linter.unusedVariables false
set_option linter.unusedSimpArgs false

theorem own : ownKnob Try.prog.godebug = none := by kernel_rfl
theorem laidOut : laidOutB Try.prog = true := by kernel_rfl

set_option maxRecDepth 10000 in
set_option maxHeartbeats 2000000 in
theorem walk (a0 : Option Addr) (len0 cap0 : Nat) (z0 : List Int) (a1 : Option Addr) (len1 cap1 : Nat) (z1 : List Int) (w : World) (w0 : IsRow .i64 w a0 len0 cap0 z0) (w1 : IsRow .i64 w a1 len1 cap1 z1) :
    Calls Try.prog 5 #[.slice a0 len0 cap0, .slice a1 len1 cap1] w fun e w' => e = .returned (.bool true) ∧ Below w.heap.size w w' := by
  have hacc : Below w.heap.size w w := Below.refl _ _
  obtain ⟨x, rfl, hv0, hwf⟩ := row_rw_any w0
  clear hwf w0
  obtain ⟨y, rfl, hv1, hwf⟩ := row_rw_any w1
  clear hwf w1
  by_cases hg0 : 100 < x.length
  · have hg : (100 : Int) < (x.length : Int) := by omega
    generalize x.length = n at *
    go_enter Try.func5, Try.ntmps5
    go_wp2_with (first | (go_at_call 13; refine (knows_any _).mono ?_; rintro e w9 ⟨rfl, hb9⟩; replace hacc := bthen' hacc hb9))
    go_ret
    exact ⟨rfl, hacc⟩
  have hn0 : x.length ≤ 100 := by omega
  have hn1 : ¬ (100 : Int) < (x.length : Int) := by omega
  clear hg0
  by_cases hg1 : 100 < y.length
  · have hg : (100 : Int) < (y.length : Int) := by omega
    generalize x.length = m at *
    generalize y.length = n at *
    go_enter Try.func5, Try.ntmps5
    go_wp2_with (first | (go_at_call 13; refine (knows_any _).mono ?_; rintro e w9 ⟨rfl, hb9⟩; replace hacc := bthen' hacc hb9))
    go_ret
    exact ⟨rfl, hacc⟩
  have hm0 : y.length ≤ 100 := by omega
  have hm1 : ¬ (100 : Int) < (y.length : Int) := by omega
  clear hg1
  obtain ⟨i0, hi, hz0, hz1, hz2⟩ := info_parts info_ci64
  by_cases he : x.length = y.length
  · obtain ⟨n, hn⟩ : ∃ n, x.length = n := ⟨_, rfl⟩
    have HN := hid hn
    have HATX : Hid (∀ i, i < n → ∃ b off, a0 = some ⟨b, off, none⟩ ∧ b < w.heap.size ∧ w.cell? ⟨b, off + i, none⟩ = some (.int .i64 (x.getD i 0))) := by rw [← HN.out]; exact fun i hi => hv0.at i hi
    have HATY : Hid (∀ i, i < n → ∃ b off, a1 = some ⟨b, off, none⟩ ∧ b < w.heap.size ∧ w.cell? ⟨b, off + i, none⟩ = some (.int .i64 (y.getD i 0))) := by rw [← HN.out, he]; exact fun i hi => hv1.at i hi
    have HUA : Hid (pWay.all x y = pWay.upto x y n) := by unfold Hid Way.all; rw [decide_eq_true he, Bool.true_and, hn]
    cases hall : pWay.all x y
    · have h1 := pAll_no _ _ x y w hv0 hv1 he hn0 hall
      rw [← he, hn] at h1 hm1 ⊢
      rw [hn] at hn0 hn1
      have HALL := hid hall
      clear hn he hall hv0 hv1 hm0
      go_enter Try.func5, Try.ntmps5
      go_wp2_with (go_at_call 17; refine h1.mono ?_; rintro e W1 ⟨rfl, hb1⟩; replace hacc := bthen' hacc hb1)
      have HB1 := hid hacc
      clear hacc hb1 h1
      go_loopw [8, 9, 10, 11] (fun o p q i wr => ∃ k : Nat, k ≤ n ∧ i = .int .i64 k ∧ ∃ ok : Bool, o = .bool ok ∧ (ok = true → Hid (pWay.upto x y k = true) ∧ Hid (Duo 2 2 .i64 .i64 W1 wr p q k k (pWay.fk x y k) (pWay.gk x y k))) ∧ (ok = false → Below w.heap.size w wr)) (fun _ _ _ i _ => n - (intOf i).toNat)
      case atStart => exact ⟨0, by omega, rfl, true, rfl, fun _ => ⟨rfl, Duo.nil _ _ _ _ _ _ (Below.refl _ _)⟩, fun h => by cases h⟩
      case round =>
        obtain ⟨k, hk, rfl, ok, rfl, hr1, hr2⟩ := hrel
        cases ok
        · have hacc := hr2 rfl
          clear hr1 hr2
          go_wp2_with (first | (go_at_call 13; refine (knows_any _).mono ?_; rintro e w9 ⟨rfl, hb9⟩; replace hacc := bthen' hacc hb9))
          go_ret
          exact ⟨rfl, hacc⟩
        · obtain ⟨HUP, HDU⟩ := hr1 rfl
          clear hr1 hr2
          have HWR : Hid (Below w.heap.size w wr) := bthen HB1.out HDU.out.b HB1.out.size
          by_cases hlt : k < n
          · obtain ⟨bx, ox, e1, hbx, d1⟩ := HATX.out k hlt
            obtain ⟨by_, oy, e2, hby, d2⟩ := HATY.out k hlt
            subst e1 e2
            have d1 := ((bcell HWR.out).1 _ _ hbx).trans d1
            have d2 := ((bcell HWR.out).1 _ _ hby).trans d2
            have HX1 := hid (pWay.fk_push x y k)
            have HX2 := hid (pWay.gk_push x y k)
            have HU := hid (pWay.upto_succ x y k)
            have HNO : Hid (pWay.ok (x.getD k 0) (y.getD k 0) = false → pWay.upto x y n = false) := fun h => pWay.upto_not hlt h
            have hfa := fun w => fair_any (x.getD k 0) (y.getD k 0) 4398046511104 (by omega) (by omega) w
            have i1 : (0 : Int) ≤ (k : Int) := by omega
            have i2 : (k : Int) < (n : Int) := by omega
            have i3 : IntKind.i64.wrap (k : Int) = k := wraps_i64 _ (by omega) (by omega)
            cases hok : frB (x.getD k 0) (y.getD k 0) 4398046511104
            · rw [hok] at hfa
              clear hok HU HX1 HX2
              generalize x.getD k 0 = A at *
              generalize y.getD k 0 = B at *
              go_wp2
              go_quiet (first | (go_at_call 11; refine Calls.quiet_of_same (hfa _)))
              go_wp2
              exact ⟨⟨k + 1, by omega, by go_num, false, rfl, (fun h => by cases h), fun _ => drewN_below HWR.out _⟩, by simp [intOf]; omega⟩
            · obtain ⟨⟨x0, x1⟩, y0, y1⟩ := frB_iff.1 hok
              have hco := fun w => rpart_any (x.getD k 0) (y.getD k 0) x0 x1 y0 y1 w
              have HUK : Hid (pWay.upto x y (k + 1) = true) := by unfold Hid; rw [HU.out, HUP.out, Bool.true_and]; exact hok
              rw [hok] at hfa
              rw [show pWay.F = pL from rfl] at HX1
              rw [show pWay.G = pR from rfl] at HX2
              clear HNO hok HU x0 x1 y0 y1
              generalize x.getD k 0 = A at *
              generalize y.getD k 0 = B at *
              generalize pL A B = u at *
              generalize pR A B = v at *
              go_wp2
              go_quiet (first | (go_at_call 11; refine Calls.quiet_of_same (hfa _)))
              have hb2 := drewN_below (Below.refl wr.heap.size wr) nq
              have d1 := ((bcell hb2).1 _ _ (block_of_cell d1)).trans d1
              have d2 := ((bcell hb2).1 _ _ (block_of_cell d2)).trans d2
              have HD2 := hid (HDU.out.below hb2)
              generalize wr.drewN nq = w2 at *
              go_wp2
              go_quiet (first | (go_at_call 14; refine Calls.quiet_of_same (hco _)))
              have hb3 := drewN_below (Below.refl w2.heap.size w2) nq
              have HD3 := hid (HD2.out.below hb3)
              generalize w2.drewN nq = w3 at *
              clear hb2 hb3 d1 d2 hfa hco HD2 HDU
              have z3 := HD3.out.b.size
              obtain ⟨pa, pc, rfl, _, _, _⟩ := owns_open HD3.out.m
              obtain ⟨qa, qc, rfl, _, _, _⟩ := owns_open HD3.out.d
              have hownN := HD3.out.m.alloc (.cells #[.int .i64 u] 2)
              have hm1 : k + 1 ≤ maxLen := by unfold maxLen; omega
              have hm2 : (k + 1) * 8 ≤ 140737488355328 := by omega
              go_wp2_with (at_builtin; refine wpList_append_lies _ rfl _ _ 30 rfl W1.heap.size 2 i0 (.int .i64 0) 1 8 Try.underlying30 hi hz0 hz1 hz2 rfl (by decide) _ _ _ rfl hownN ⟨w3.heap.size, 0, none⟩ 1 1 [.int .i64 u] rfl rfl (cell_one_at rfl _ _) (one_cell _ _) (by decide) hm1 hm2 (by simp; omega) (w3.heap.size + 1) (by simp) ?_)
              intro g4 c4 w4 hown4 hgrow4 hat4 hlt4
              have HD4 := hid (HD3.out.push1 hown4 hgrow4 hat4)
              have z4 := HD4.out.b.size
              have hdN := HD4.out.d.alloc (.cells #[.int .i64 v] 2)
              clear hown4 hgrow4 hat4 hownN HD3 z3 hlt4
              go_wp2_with (at_builtin; refine wpList_append_lies _ rfl _ _ 30 rfl W1.heap.size 2 i0 (.int .i64 0) 1 8 Try.underlying30 hi hz0 hz1 hz2 rfl (by decide) _ _ _ rfl hdN ⟨w4.heap.size, 0, none⟩ 1 1 [.int .i64 v] rfl rfl (cell_one_at rfl _ _) (one_cell _ _) (by decide) hm1 hm2 (by simp; omega) (w4.heap.size + 1) (by simp) ?_)
              intro g5 c5 w5 hown5 hgrow5 hat5 hlt5
              have HD5 : Hid (Duo 2 2 .i64 .i64 W1 w5 (.slice (some ⟨g4, 0, none⟩) (k + 1) c4) (.slice (some ⟨g5, 0, none⟩) (k + 1) c5) (k + 1) (k + 1) (pWay.fk x y (k + 1)) (pWay.gk x y (k + 1))) := by
                unfold Hid
                rw [HX1.out, HX2.out]
                exact HD4.out.push2 hown5 hgrow5 hat5
              clear hown5 hgrow5 hat5 hdN HD4 z4 hlt5
              go_wp2
              exact ⟨⟨k + 1, by omega, by go_num, true, rfl, fun _ => ⟨HUK, HD5⟩, (fun h => by cases h)⟩, by simp [intOf]; omega⟩
          · have hke : k = n := by omega
            have := HUP.out
            rw [hke, ← HUA.out, HALL.out] at this
            cases this
    · have h1 := pAll_ok _ _ x y w hv0 hv1 hn0 hall
      have X1 : Hid ((pWay.xs x y).length = n) := by rw [← hn]; exact tab_len _ _
      have X2 : Hid ((pWay.ys x y).length = n) := by rw [← hn]; exact tab_len _ _
      have HF1 : Hid (pWay.fk x y n = pWay.xs x y) := by rw [← hn]; rfl
      have HF2 : Hid (pWay.gk x y n = pWay.ys x y) := by rw [← hn]; rfl
      have HALL : Hid (pWay.upto x y n = true) := HUA.out.symm.trans hall
      rw [← he] at h1 hm1 ⊢
      rw [hn] at h1 hm1 ⊢
      rw [hn] at hn0 hn1
      have HS : Hid (∀ w v1 v2 xs, xs.length = n → Rw .i64 w v1 xs → Rw .i64 w v2 xs → Calls Try.prog 16 #[v1, v2] w fun e w' => e = .returned (.bool true) ∧ Below w.heap.size w w') := fun w v1 v2 xs hl h1 h2 => same64_yes v1 v2 xs w h1 h2 (by omega)
      clear hn he hall hv0 hv1 hm0 HUA
      go_enter Try.func5, Try.ntmps5
      go_wp2_with (go_at_call 17; refine h1.mono ?_; rintro e W1 ⟨g1, g2, rfl, r1, r2, hb1⟩; replace hacc := bthen' hacc hb1)
      have HB1 := hid hacc
      have R1 := hid r1
      have R2 := hid r2
      clear hacc hb1 h1 r1 r2
      go_loopw [8, 9, 10, 11] (fun o p q i wr => ∃ k : Nat, k ≤ n ∧ i = .int .i64 k ∧ o = .bool true ∧ Hid (pWay.upto x y k = true) ∧ Hid (Duo 2 2 .i64 .i64 W1 wr p q k k (pWay.fk x y k) (pWay.gk x y k))) (fun _ _ _ i _ => n - (intOf i).toNat)
      case atStart => exact ⟨0, by omega, rfl, rfl, rfl, Duo.nil _ _ _ _ _ _ (Below.refl _ _)⟩
      case round =>
        obtain ⟨k, hk, rfl, rfl, HUP, HDU⟩ := hrel
        have HWR : Hid (Below w.heap.size w wr) := bthen HB1.out HDU.out.b HB1.out.size
        by_cases hlt : k < n
        · obtain ⟨bx, ox, e1, hbx, d1⟩ := HATX.out k hlt
          obtain ⟨by_, oy, e2, hby, d2⟩ := HATY.out k hlt
          subst e1 e2
          have d1 := ((bcell HWR.out).1 _ _ hbx).trans d1
          have d2 := ((bcell HWR.out).1 _ _ hby).trans d2
          have HX1 := hid (pWay.fk_push x y k)
          have HX2 := hid (pWay.gk_push x y k)
          have HU := hid (pWay.upto_succ x y k)
          have HNO : Hid (pWay.ok (x.getD k 0) (y.getD k 0) = false → pWay.upto x y n = false) := fun h => pWay.upto_not hlt h
          have hfa := fun w => fair_any (x.getD k 0) (y.getD k 0) 4398046511104 (by omega) (by omega) w
          have i1 : (0 : Int) ≤ (k : Int) := by omega
          have i2 : (k : Int) < (n : Int) := by omega
          have i3 : IntKind.i64.wrap (k : Int) = k := wraps_i64 _ (by omega) (by omega)
          cases hok : frB (x.getD k 0) (y.getD k 0) 4398046511104
          · exact absurd ((HNO.out hok).symm.trans HALL.out) (by decide)
          · obtain ⟨⟨x0, x1⟩, y0, y1⟩ := frB_iff.1 hok
            have hco := fun w => rpart_any (x.getD k 0) (y.getD k 0) x0 x1 y0 y1 w
            have HUK : Hid (pWay.upto x y (k + 1) = true) := by unfold Hid; rw [HU.out, HUP.out, Bool.true_and]; exact hok
            rw [hok] at hfa
            rw [show pWay.F = pL from rfl] at HX1
            rw [show pWay.G = pR from rfl] at HX2
            clear HNO hok HU x0 x1 y0 y1
            generalize x.getD k 0 = A at *
            generalize y.getD k 0 = B at *
            generalize pL A B = u at *
            generalize pR A B = v at *
            go_wp2
            go_quiet (first | (go_at_call 11; refine Calls.quiet_of_same (hfa _)))
            have hb2 := drewN_below (Below.refl wr.heap.size wr) nq
            have d1 := ((bcell hb2).1 _ _ (block_of_cell d1)).trans d1
            have d2 := ((bcell hb2).1 _ _ (block_of_cell d2)).trans d2
            have HD2 := hid (HDU.out.below hb2)
            generalize wr.drewN nq = w2 at *
            go_wp2
            go_quiet (first | (go_at_call 14; refine Calls.quiet_of_same (hco _)))
            have hb3 := drewN_below (Below.refl w2.heap.size w2) nq
            have HD3 := hid (HD2.out.below hb3)
            generalize w2.drewN nq = w3 at *
            clear hb2 hb3 d1 d2 hfa hco HD2 HDU
            have z3 := HD3.out.b.size
            obtain ⟨pa, pc, rfl, _, _, _⟩ := owns_open HD3.out.m
            obtain ⟨qa, qc, rfl, _, _, _⟩ := owns_open HD3.out.d
            have hownN := HD3.out.m.alloc (.cells #[.int .i64 u] 2)
            have hm1 : k + 1 ≤ maxLen := by unfold maxLen; omega
            have hm2 : (k + 1) * 8 ≤ 140737488355328 := by omega
            go_wp2_with (at_builtin; refine wpList_append_lies _ rfl _ _ 30 rfl W1.heap.size 2 i0 (.int .i64 0) 1 8 Try.underlying30 hi hz0 hz1 hz2 rfl (by decide) _ _ _ rfl hownN ⟨w3.heap.size, 0, none⟩ 1 1 [.int .i64 u] rfl rfl (cell_one_at rfl _ _) (one_cell _ _) (by decide) hm1 hm2 (by simp; omega) (w3.heap.size + 1) (by simp) ?_)
            intro g4 c4 w4 hown4 hgrow4 hat4 hlt4
            have HD4 := hid (HD3.out.push1 hown4 hgrow4 hat4)
            have z4 := HD4.out.b.size
            have hdN := HD4.out.d.alloc (.cells #[.int .i64 v] 2)
            clear hown4 hgrow4 hat4 hownN HD3 z3 hlt4
            go_wp2_with (at_builtin; refine wpList_append_lies _ rfl _ _ 30 rfl W1.heap.size 2 i0 (.int .i64 0) 1 8 Try.underlying30 hi hz0 hz1 hz2 rfl (by decide) _ _ _ rfl hdN ⟨w4.heap.size, 0, none⟩ 1 1 [.int .i64 v] rfl rfl (cell_one_at rfl _ _) (one_cell _ _) (by decide) hm1 hm2 (by simp; omega) (w4.heap.size + 1) (by simp) ?_)
            intro g5 c5 w5 hown5 hgrow5 hat5 hlt5
            have HD5 : Hid (Duo 2 2 .i64 .i64 W1 w5 (.slice (some ⟨g4, 0, none⟩) (k + 1) c4) (.slice (some ⟨g5, 0, none⟩) (k + 1) c5) (k + 1) (k + 1) (pWay.fk x y (k + 1)) (pWay.gk x y (k + 1))) := by
              unfold Hid
              rw [HX1.out, HX2.out]
              exact HD4.out.push2 hown5 hgrow5 hat5
            clear hown5 hgrow5 hat5 hdN HD4 z4 hlt5
            go_wp2
            exact ⟨⟨k + 1, by omega, by go_num, rfl, HUK, HD5⟩, by simp [intOf]; omega⟩
        · have hke : k = n := by omega
          have i2 : ¬ (k : Int) < (n : Int) := by omega
          have P1 := Rw.of_owns HDU.out.m
          have P2 := Rw.of_owns HDU.out.d
          rw [hke, HF1.out] at P1
          rw [hke, HF2.out] at P2
          have Q1 : Rw .i64 wr (.slice (some ⟨g1, 0, none⟩) n n) (pWay.xs x y) := (R1.out.below HDU.out.b).rw X1.out
          have Q2 : Rw .i64 wr (.slice (some ⟨g2, 0, none⟩) n n) (pWay.ys x y) := (R2.out.below HDU.out.b).rw X2.out
          have HP1 := hid P1
          have HP2 := hid P2
          have HQ1 := hid Q1
          have HQ2 := hid Q2
          have hacc := HWR.out
          clear hke P1 P2 Q1 Q2
          go_wp2_with (first
            | (go_at_call_of 16 (Value.slice (some ⟨g1, 0, none⟩) n n); refine (HS.out _ _ _ _ X1.out HQ1.out HP1.out).mono ?_; rintro e W3 ⟨rfl, hb3⟩; replace hacc := bthen' hacc hb3; have U2 := hid (HQ2.out.below hb3); have V4 := hid (HP2.out.below hb3))
            | (go_at_call_of 16 (Value.slice (some ⟨g2, 0, none⟩) n n); refine (HS.out _ _ _ _ X2.out U2.out V4.out).mono ?_; rintro e W4 ⟨rfl, hb4⟩; replace hacc := bthen' hacc hb4)
            | (go_at_call 13; refine (knows_any _).mono ?_; rintro e w9 ⟨rfl, hb9⟩; replace hacc := bthen' hacc hb9))
          go_ret
          exact ⟨rfl, hacc⟩
  · have h1 := pAll_len _ _ x y w hv0 hv1 he (by omega) (by omega)
    generalize x.length = n at *
    generalize y.length = m at *
    have hne : ((n : Int) == (m : Int)) = false := by simpa using fun e => he (by omega)
    clear he hv0 hv1
    go_enter Try.func5, Try.ntmps5
    go_wp2_with (go_at_call 17; refine h1.mono ?_; rintro e W1 ⟨rfl, hb1⟩; replace hacc := bthen' hacc hb1)
    go_loopw [8, 9, 10, 11] (fun o p q i wr => o = .bool false ∧ i = .int .i64 0 ∧ wr = W1) (fun _ _ _ i _ => 0)
    case atStart => exact ⟨rfl, rfl, rfl⟩
    case round =>
      obtain ⟨rfl, rfl, hwr⟩ := hrel
      subst hwr
      go_wp2_with (first | (go_at_call 13; refine (knows_any _).mono ?_; rintro e w9 ⟨rfl, hb9⟩; replace hacc := bthen' hacc hb9))
      go_ret
      exact ⟨rfl, hacc⟩


set_option maxRecDepth 100000 in
theorem lifted (os : Os) (started : os.Started) (H : Type) (enc : TypeId × Value → H) :
    ReturnsInHanded {} Try.checked os 5 .any (Rows.couplePartsSpec.pre6 enc Try.prog Try.f5 Rows.couplePartsRow.domain false) (Rows.couplePartsSpec.post enc Try.prog Try.f5 false true false false) := by
  refine returnsInHanded_of_change (C := Try.checked) own started (by kernel_rfl) Try.func5
    (ChangeSpec.witness6 (enc := enc) (C := Try.checked) false ⟨#[], #[.slice none 0 0, .slice none 0 0], []⟩ 8 (by kernel_rfl) (by kernel_rfl) (by kernel_rfl) (by kernel_rfl)) ?_
  intro W base args ds gs before hval0 hW hcnd _
  have hval : ∀ (j : Nat) t v, Try.f5.params[j]? = some t → args[j]? = some v → Value.okWide Try.prog W .any base t v := hval0
  have hW' := hW
  obtain ⟨p, q, hA0, hV, rfl, hfz, hnd⟩ := hW
  have hA : DataW.TrodAll enc Try.prog W 0 (fun _ => true) true Try.f5.params.toList args.toList ds p := hA0
  rw [Try.params5] at hA hval
  obtain ⟨v0, vs0, d0, ds0, p0, q0, hargs, rfl, rfl, h0, r0⟩ := trodAll_cons hA
  obtain ⟨v1, vs1, d1, ds1, p1, q1, rfl, rfl, rfl, h1, r1⟩ := trodAll_cons r0
  obtain ⟨rfl, rfl, rfl⟩ := trodAll_nil r1
  obtain rfl : args = #[v0, v1] := by cases args; simp_all
  obtain ⟨rfl, rfl⟩ := trodVars_none hV
  have k0 := h0
  have lt0 : ∀ x ∈ p0, x.block < W.heap.size := by obtain ⟨m, hm⟩ := k0; exact DataW.trod_lt m _ _ _ hm
  obtain ⟨a0, len0, cap0, rfl⟩ := okWide_slice Try.underlying30 (hval 0 30 v0 rfl rfl)
  obtain ⟨z0, w0⟩ : ∃ zs, IsRow .i64 W a0 len0 cap0 zs := by
    obtain ⟨fuel, hf⟩ := h0
    obtain ⟨a', l', c', zs, he, hr⟩ := ints_of_trod Try.underlying30 Try.underlying2 (by kernel_rfl) (show DataW.trod enc Try.prog W 0 (fun _ => true) true fuel 30 [.slice a0 len0 cap0] = _ from hf)
    simp only [Value.slice.injEq] at he
    obtain ⟨rfl, rfl, rfl⟩ := he
    exact ⟨zs, hr⟩
  have k1 := h1
  have lt1 : ∀ x ∈ p1, x.block < W.heap.size := by obtain ⟨m, hm⟩ := k1; exact DataW.trod_lt m _ _ _ hm
  obtain ⟨a1, len1, cap1, rfl⟩ := okWide_slice Try.underlying30 (hval 1 30 v1 rfl rfl)
  obtain ⟨z1, w1⟩ : ∃ zs, IsRow .i64 W a1 len1 cap1 zs := by
    obtain ⟨fuel, hf⟩ := h1
    obtain ⟨a', l', c', zs, he, hr⟩ := ints_of_trod Try.underlying30 Try.underlying2 (by kernel_rfl) (show DataW.trod enc Try.prog W 0 (fun _ => true) true fuel 30 [.slice a1 len1 cap1] = _ from hf)
    simp only [Value.slice.injEq] at he
    obtain ⟨rfl, rfl, rfl⟩ := he
    exact ⟨zs, hr⟩
  clear hA0 hval0
  refine (walk a0 len0 cap0 z0 a1 len1 cap1 z1 W w0 w1).mono fun e W' ⟨he, bel⟩ => ?_
  subst he
  exact ⟨_, rfl, _, _, _, [], _, [], hW', trodAll_mk1 (shut_bool Try.underlying4 _), (trodAll_cons_mk (Below.trod laidOut (by kernel_rfl) (of_decide_eq_true (by kernel_rfl)) k0 bel lt0) (trodAll_cons_mk (Below.trod laidOut (by kernel_rfl) (of_decide_eq_true (by kernel_rfl)) k1 bel lt1) trodAll_mk0)), rfl, bel.frame _, fun h => by cases h⟩

theorem over : Rows.couplePartsRow.holds Try.pinned (OpenSpec.ofChange Rows.couplePartsSpec) :=
  OpenClaim.holds_of_wide 5 Try.f5 rfl rfl rfl rfl rfl rfl rfl ⟨rfl, rfl, rfl, rfl, rfl⟩ rfl rfl rfl rfl rfl (by kernel_rfl) Try.func5 (by kernel_rfl)
    (of_decide_eq_true (by kernel_rfl)) (by unfold Func.isWrapper; first | (rw [if_pos (by decide +kernel)]; kernel_rfl) | (rw [if_neg (by decide +kernel)]; exact ⟨rfl, rfl⟩))
    (fun os started H enc _ => lifted os started H enc)

theorem proved : Rows.CouplePartsSaid := over
#print axioms proved
end Go.Proofs.Ytjehjpibgficcaa.coupleParts
