/- A choice is put, by the program: it fits. -/
import Derived.Test.YtkfpphccpkfenaaCk
namespace Go.Proofs.Ytkfpphccpkfenaa
open Go.RowKit
set_option linter.unusedVariables false
set_option linter.unusedSimpArgs false

theorem andI24 (l : Int) (h0 : 0 ≤ l) (h1 : l < 4294967296) : bits .and .u64 l 16777215 = l % 16777216 := by
  have := bits_mask .u64 64 (by decide) wraps_u64 24 (by decide) l h0 (by omega)
  simpa using this

set_option maxRecDepth 10000 in
set_option maxHeartbeats 2000000 in
theorem put_ok (L R : Int) (a : Option Addr) (n cap : Nat) (e : En) (lo hi tot : Nat) (w : World) (h : EvOf w L R a n cap e) (hf : Fair lo hi tot) (hm : (e.m : Int) < 3996) :
    Calls Try.prog 43 #[.agg #[.int .u64 L, .int .u32 R, .slice a n cap], .int .i64 lo, .int .i64 hi, .int .i64 tot] w fun x w' => ∃ a' cap', x = .returned (.tuple #[encV (.slice a' (e.put lo hi tot).m cap') (e.put lo hi tot), .int .i64 0]) ∧ w'.ownsRow w.heap.size 5 1 (.slice a' (e.put lo hi tot).m cap') (e.put lo hi tot).m ((e.put lo hi tot).out.map (Value.int .u8)) ∧ Below w.heap.size w w' := by
  have hW := below2 w (.cells #[.int .u64 L, .int .u32 R, .slice a n cap] 26) (.cells #[.int .u64 0, .int .u32 0, .slice none 0 0] 26)
  have hd := h.1
  have hmid := hd.rawMid hf (by omega)
  have HMid : Hid ((e.raw lo hi tot).Mid) := hmid
  have hal := ahead_width (R := e.R) hf
  have hr2 := hd.r.2
  have hlow := En.Ok.low_lt e
  have HC1 : Hid (e.low + ahead e.R lo tot < 4294967296 → (e.raw lo hi tot).low = e.low + ahead e.R lo tot ∧ (e.raw lo hi tot).out = e.out) := fun hc => hd.raw_low hc
  have HC2 : Hid (4294967296 ≤ e.low + ahead e.R lo tot → (e.raw lo hi tot).low = e.low + ahead e.R lo tot - 4294967296 ∧ (e.raw lo hi tot).out = carried e.out) := fun hc => hd.raw_carry hc (by omega)
  have hwi := hmid.r0
  have hwi2 := hmid.r1
  rw [En.put_norm]
  obtain ⟨F, hF⟩ : ∃ F, F = (e.raw lo hi tot).norm := ⟨_, rfl⟩
  rw [← hF]
  have HF : Hid (F = (e.raw lo hi tot).norm) := hF
  clear hF hmid
  have hsh0 := fun w => share_any e.R lo hi tot w hd.r hf
  obtain ⟨A, hA⟩ : ∃ A : Int, ((ahead e.R lo tot : Nat) : Int) = A := ⟨_, rfl⟩
  obtain ⟨W, hWi⟩ : ∃ W : Int, ((width e.R lo hi tot : Nat) : Int) = W := ⟨_, rfl⟩
  obtain ⟨l, hl⟩ : ∃ l : Int, (e.low : Int) = l := ⟨_, rfl⟩
  have hsh : ∀ w, Calls Try.prog 53 #[.int .u32 e.R, .int .i64 lo, .int .i64 hi, .int .i64 tot] w fun x w' => x = .returned (.tuple #[.int .u64 A, .int .u32 W]) ∧ w' = w := fun w => by
    have := hsh0 w
    rw [hA, hWi] at this
    exact this
  clear hsh0
  have A0 : 0 ≤ A := by omega
  have A1 : A < 4294967296 := by omega
  have l0 : 0 ≤ l := by omega
  have l1 : l < 4294967296 := by omega
  have HA : Hid (((ahead e.R lo tot : Nat) : Int) = A) := hA
  have HWi : Hid (((width e.R lo hi tot : Nat) : Int) = W) := hWi
  have HL : Hid ((e.low : Int) = l) := hl
  have hRW : Hid ((e.raw lo hi tot).R = width e.R lo hi tot) := rfl
  have hRm : Hid ((e.raw lo hi tot).m = e.m) := rfl
  have hff := fair_nat hf
  have hby : Byts e.out := beL_byts _ _
  clear hA hWi hl hlow hal hr2 hwi hwi2
  obtain ⟨i0, hi0, hz0, hz1, hz2⟩ := info_parts info5
  obtain ⟨M, hM⟩ : ∃ M : Nat, e.m = M := ⟨_, rfl⟩
  have henc : ∀ w', EvOf w' L R a n cap e → Calls Try.prog 42 #[.agg #[.int .u64 L, .int .u32 R, .slice a n cap]] w' fun x w1 => ∃ a' cap', x = .returned (.agg #[.int .u64 l, .int .u32 e.R, .slice a' M cap']) ∧ w1.ownsRow w'.heap.size 5 1 (.slice a' M cap') M (e.out.map (Value.int .u8)) ∧ Below w'.heap.size w' w1 := fun w' hh => by
    have := encFor_any L R a n cap e w' hh
    unfold encV at this
    rw [hM, HL.out] at this
    exact this
  obtain ⟨mi, hmi⟩ : ∃ mi : Int, (M : Int) = mi := ⟨_, rfl⟩
  have hmn : ¬ (3996 : Int) ≤ mi := by omega
  have HMI : Hid ((M : Int) = mi) := hmi
  have hM4 : M ≤ 4000 := by omega
  have HMe : Hid (e.m = M) := hM
  clear hm hM
  by_cases hca : 4294967295 < l + A
  all_goals
    go_enter Try.func43, Try.ntmps43
    go_wp2_with (first | (go_at_call 42; refine (henc _ (h.below hW)).mono ?_; rintro x w1 ⟨a1, cap1, rfl, hown, hb1⟩; have hB3 := ((B3.new w _ _ _ _).below (below1 _ _)).below hb1; have hR3 := (B3.new2 w _ _ _ _ _).below hb1; obtain ⟨z, c0, c1, c2, f0, f1, f2⟩ := id hB3; obtain ⟨rz, r0, r1, r2, p0, p1, p2⟩ := id hR3; have hown1 : w1.ownsRow (w.heap.size + 1 + 1) 5 1 (.slice a1 M cap1) M (e.out.map (Value.int .u8)) := (by simpa using hown); have hown6 : ((((((w1.setCell ⟨w.heap.size, 0, none⟩ (.int .u64 l)).setCell ⟨w.heap.size, 1, none⟩ (.int .u32 e.R)).setCell ⟨w.heap.size, 2, none⟩ (.slice a1 M cap1)).setCell ⟨w.heap.size, 0, none⟩ (.int .u64 (l + A))).setCell ⟨w.heap.size, 1, none⟩ (.int .u32 W)).setCell ⟨w.heap.size, 0, none⟩ (.int .u64 (l + A - 4294967296))).ownsRow (w.heap.size + 1 + 1) 5 1 (.slice a1 M cap1) M (e.out.map (Value.int .u8)) := (owns_other (owns_other (owns_other (owns_other (owns_other (owns_other hown1 _ _ _ (by omega)) _ _ _ (by omega)) _ _ _ (by omega)) _ _ _ (by omega)) _ _ _ (by omega)) _ _ _ (by omega))) | (go_at_call 52; refine (fair_any _ _ _ _).mono ?_; rw [hff]; rintro x w2 ⟨rfl, rfl⟩) | (go_at_call 53; refine (hsh _).mono ?_; rintro x w2 ⟨rfl, rfl⟩) | (go_at_call 54; refine (carry_any _ _ _ e.out (w.heap.size + 1 + 1) _ hown6 hby hM4).mono ?_; rintro x w3 ⟨⟨v3, rfl⟩, hown3, hb3⟩))
  ·
    have hq := HC2.out (by have := HA.out; have := HL.out; omega)
    have HLx : Hid (l + A - 4294967296 = ((e.raw lo hi tot).low : Int)) := by
      unfold Hid; have := HA.out; have := HL.out; rw [hq.1]; omega
    have hbx := (bset1 (bset1 (bset1 (bset3 (bthen hW hb1 hW.size) w.heap.size (.int .u64 l) (.int .u32 e.R) (.slice a1 M cap1) (by omega)) w.heap.size 0 (.int .u64 (l + A)) (by omega)) w.heap.size 1 (.int .u32 W) (by omega)) w.heap.size 0 (.int .u64 (l + A - 4294967296)) (by omega)).trans (hb3.mono (by omega))
    have hBx := ((((hB3.set (.int .u64 l) (.int .u32 e.R) (.slice a1 M cap1)).set0 (.int .u64 (l + A))).set1 (.int .u32 W)).set0 (.int .u64 (l + A - 4294967296))).belowB hb3 (by omega)
    have hRx := ((((((hR3.other w.heap.size 0 (.int .u64 l) (by omega)).other w.heap.size 1 (.int .u32 e.R) (by omega)).other w.heap.size 2 (.slice a1 M cap1) (by omega)).other w.heap.size 0 (.int .u64 (l + A)) (by omega)).other w.heap.size 1 (.int .u32 W) (by omega)).other w.heap.size 0 (.int .u64 (l + A - 4294967296)) (by omega)).belowB hb3 (by omega)
    rw [← hq.2] at hown3
    have hox := hown3
    clear hown3 hown6 hown1 hown hq hB3 hR3 c0 c1 c2 f0 f1 f2 r0 r1 r2 p0 p1 p2 z rz hb1 hb3
    go_loopw [] (fun wr => ∃ (e' : En) (a' : Option Addr) (cap' Mx : Nat) (r lx : Int), Hid (e'.Mid) ∧ Hid (e'.norm = F) ∧ Hid (r = e'.R) ∧ Hid (lx = e'.low) ∧ Hid (e'.m = Mx) ∧ B3 wr w.heap.size (.int .u64 lx) (.int .u32 r) (.slice a' Mx cap') ∧ B3 wr (w.heap.size + 1) (.int .u64 0) (.int .u32 0) (.slice none 0 0) ∧ wr.ownsRow (w.heap.size + 1 + 1) 5 1 (.slice a' Mx cap') Mx (e'.out.map (Value.int .u8)) ∧ Below w.heap.size w wr ∧ w.heap.size + 1 < wr.heap.size) (fun wr => cellSh wr w.heap.size)
    case atStart => exact ⟨e.raw lo hi tot, a1, cap1, M, W, _, HMid.out, HF.out.symm, HWi.out.symm, HLx.out, HMe.out, hBx, hRx, hox, hbx, hRx.z⟩
    case round =>
      clear hmn hmi hca hM4 hBx hRx hox hbx hsh henc h hf hff l0 l1 A0 A1
      obtain ⟨e', a', cap', Mx, r, lx, HMd, HN, HR, HLw, HMx, hb3', hr3', hownx, hbr, hzr⟩ := hrel
      obtain ⟨z, c0, c1, c2, f0, f1, f2⟩ := id hb3'
      have m0 : (256 : Int) ≤ r := by rw [HR.out]; have := HMd.out.r0; omega
      have m1 : r ≤ 4294967295 := by rw [HR.out]; have := HMd.out.r1; omega
      have x0 : 0 ≤ lx := by rw [HLw.out]; omega
      have x1 : lx < 4294967296 := by rw [HLw.out]; have := En.Ok.low_lt e'; omega
      have hsz := hbr.size
      by_cases hlt : r < 16777216
      · have hand := andI24 lx x0 x1
        have k0 : 0 ≤ lx % 16777216 := by omega
        have k1 : lx % 16777216 < 16777216 := by omega
        have HK : Hid (lx % 16777216 * 256 = (e'.step.low : Int)) := by unfold Hid; rw [En.step_low, HLw.out]; omega
        have HO : Hid (e'.step.out.map (Value.int .u8) = e'.out.map (Value.int .u8) ++ [.int .u8 (lx / 16777216)]) := by
          unfold Hid; rw [En.step_out, HLw.out]; simp
        have hR3 : e'.R < 16777216 := by have := HR.out; omega
        have HNs : Hid (e'.step.norm = F) := by unfold Hid; rw [← En.norm_step e' HMd.out.r0 hR3]; exact HN.out
        have HMs : Hid (e'.step.Mid) := HMd.out.step hR3
        have HSh : Hid (sh e'.R = sh (e'.R * 256) + 1) := sh_step e'.R HMd.out.r0 hR3
        have hMb : Hid (Mx ≤ 3998) := by unfold Hid; have := HMd.out.m; have := HMx.out; omega
        clear hR3
        generalize lx % 16777216 = lm at *
        go_wp2_with (at_builtin; refine wpList_append_own _ rfl _ _ 24 rfl (w.heap.size + 1 + 1) 5 i0 (.int .u8 0) 1 1 Try.underlying24 hi0 hz0 hz1 hz2 rfl (by decide) _ _ _ rfl (hownx.alloc _) ⟨wr.heap.size, 0, none⟩ 1 1 [.int .u8 (lx / 16777216)] rfl rfl (cell_one_at rfl _ _) ?c2 ?c3 ?c4 ?c5 ?_)
        case c2 => intro u hu; simp at hu; subst hu; rfl
        case c3 => have := hMb.out; unfold maxLen; omega
        case c4 => have := hMb.out; omega
        case c5 => simp; omega
        intro v' w2 hown' hgrow _
        have hlt2 := hownx.lt
        have nb : (Value.slice a' Mx cap').ownBlock ≠ some w.heap.size := fun hh => by have := (hlt2 _ hh).1; omega
        have nr : (Value.slice a' Mx cap').ownBlock ≠ some (w.heap.size + 1) := fun hh => by have := (hlt2 _ hh).1; omega
        have hb4 := (hb3'.below (below1 _ (.cells #[.int .u8 (lx / 16777216)] 5))).grown hgrow nb
        have hr4 := (hr3'.below (below1 _ (.cells #[.int .u8 (lx / 16777216)] 5))).grown hgrow nr
        have hbw2 : Below w.heap.size w w2 := (hbr.alloc hbr.size _).grown hgrow (by simp; omega) (fun k hk => by have := (hlt2 k hk).1; omega)
        obtain ⟨a2, cap2, rfl, hcap2, hmax2, _⟩ := owns_open hown'
        rw [← HO.out] at hown'
        have hsz2 := hbw2.size
        have hz2' := hr4.z
        clear c0 c1 c2 f0 f1 f2 z hgrow hownx hlt2 nb nr
        obtain ⟨z, c0, c1, c2, f0, f1, f2⟩ := id hb4
        have hs1 := cellSh_of hb3'.c1
        go_wp2
        have hnew := ((hb4.set2 (.slice a2 (Mx + 1) cap2)).set0 (.int .u64 (lm * 256))).set1 (.int .u32 (r * 256))
        have hs2 := cellSh_of hnew.c1
        have hr2 : (r * 256).toNat = e'.R * 256 := by rw [HR.out]; omega
        have hr1 : r.toNat = e'.R := by rw [HR.out]; omega
        go_roundw
        case rel => exact ⟨e'.step, a2, cap2, Mx + 1, r * 256, lm * 256, HMs, HNs, by unfold Hid; rw [HR.out]; show _ = ((e'.R * 256 : Nat) : Int); omega, HK, by unfold Hid; show e'.m + 1 = _; rw [HMx.out], hnew, ((hr4.other _ _ _ (by omega)).other _ _ _ (by omega)).other _ _ _ (by omega), owns_other (owns_other (owns_other hown' _ _ _ (by omega)) _ _ _ (by omega)) _ _ _ (by omega), bset1 (bset1 (bset1 hbw2 _ _ _ (by omega)) _ _ _ (by omega)) _ _ _ (by omega), by simp [World.setCell]; omega⟩
        case measure => rw [hs1, hs2, hr2, hr1, HSh.out]; omega
      · have hFe : Hid (e' = F) := by
          unfold Hid
          rw [← HN.out, En.norm_done _ (by have := HR.out; omega)]
        obtain ⟨rz, r0, r1, r2, p0, p1, p2⟩ := id hr3'
        go_wp2
        refine bodyPost_ret (v := .tuple #[.agg #[.int .u64 lx, .int .u32 r, .slice a' Mx cap'], .int .i64 0]) (by simp [results, Try.results43, go_sem, c0, c1, c2, r0, r1, r2, p0, p1, p2]) rfl ⟨a', cap', ?_, ?_, ?_⟩
        · unfold encV; rw [← hFe.out, HR.out, HLw.out, HMx.out]
        · rw [← hFe.out, HMx.out]; exact owns_base (owns_other (owns_other (owns_other hownx _ _ _ (by omega)) _ _ _ (by omega)) _ _ _ (by omega)) (by omega)
        · exact bset3 hbr _ _ _ _ (by omega)
  ·
    have hq := HC1.out (by have := HA.out; have := HL.out; omega)
    have HLx : Hid (l + A = ((e.raw lo hi tot).low : Int)) := by
      unfold Hid; have := HA.out; have := HL.out; rw [hq.1]; omega
    have hbx := bset1 (bset1 (bset3 (bthen hW hb1 hW.size) w.heap.size (.int .u64 l) (.int .u32 e.R) (.slice a1 M cap1) (by omega)) w.heap.size 0 (.int .u64 (l + A)) (by omega)) w.heap.size 1 (.int .u32 W) (by omega)
    have hBx := ((hB3.set (.int .u64 l) (.int .u32 e.R) (.slice a1 M cap1)).set0 (.int .u64 (l + A))).set1 (.int .u32 W)
    have hRx := ((((hR3.other w.heap.size 0 (.int .u64 l) (by omega)).other w.heap.size 1 (.int .u32 e.R) (by omega)).other w.heap.size 2 (.slice a1 M cap1) (by omega)).other w.heap.size 0 (.int .u64 (l + A)) (by omega)).other w.heap.size 1 (.int .u32 W) (by omega)
    have hox := owns_other (owns_other (owns_other (owns_other (owns_other hown1 w.heap.size 0 (.int .u64 l) (by omega)) w.heap.size 1 (.int .u32 e.R) (by omega)) w.heap.size 2 (.slice a1 M cap1) (by omega)) w.heap.size 0 (.int .u64 (l + A)) (by omega)) w.heap.size 1 (.int .u32 W) (by omega)
    rw [← hq.2] at hox
    clear hown6 hown1 hown hq hB3 hR3 c0 c1 c2 f0 f1 f2 r0 r1 r2 p0 p1 p2 z rz hb1
    go_loopw [] (fun wr => ∃ (e' : En) (a' : Option Addr) (cap' Mx : Nat) (r lx : Int), Hid (e'.Mid) ∧ Hid (e'.norm = F) ∧ Hid (r = e'.R) ∧ Hid (lx = e'.low) ∧ Hid (e'.m = Mx) ∧ B3 wr w.heap.size (.int .u64 lx) (.int .u32 r) (.slice a' Mx cap') ∧ B3 wr (w.heap.size + 1) (.int .u64 0) (.int .u32 0) (.slice none 0 0) ∧ wr.ownsRow (w.heap.size + 1 + 1) 5 1 (.slice a' Mx cap') Mx (e'.out.map (Value.int .u8)) ∧ Below w.heap.size w wr ∧ w.heap.size + 1 < wr.heap.size) (fun wr => cellSh wr w.heap.size)
    case atStart => exact ⟨e.raw lo hi tot, a1, cap1, M, W, _, HMid.out, HF.out.symm, HWi.out.symm, HLx.out, HMe.out, hBx, hRx, hox, hbx, hRx.z⟩
    case round =>
      clear hmn hmi hca hM4 hBx hRx hox hbx hsh henc h hf hff l0 l1 A0 A1
      obtain ⟨e', a', cap', Mx, r, lx, HMd, HN, HR, HLw, HMx, hb3', hr3', hownx, hbr, hzr⟩ := hrel
      obtain ⟨z, c0, c1, c2, f0, f1, f2⟩ := id hb3'
      have m0 : (256 : Int) ≤ r := by rw [HR.out]; have := HMd.out.r0; omega
      have m1 : r ≤ 4294967295 := by rw [HR.out]; have := HMd.out.r1; omega
      have x0 : 0 ≤ lx := by rw [HLw.out]; omega
      have x1 : lx < 4294967296 := by rw [HLw.out]; have := En.Ok.low_lt e'; omega
      have hsz := hbr.size
      by_cases hlt : r < 16777216
      · have hand := andI24 lx x0 x1
        have k0 : 0 ≤ lx % 16777216 := by omega
        have k1 : lx % 16777216 < 16777216 := by omega
        have HK : Hid (lx % 16777216 * 256 = (e'.step.low : Int)) := by unfold Hid; rw [En.step_low, HLw.out]; omega
        have HO : Hid (e'.step.out.map (Value.int .u8) = e'.out.map (Value.int .u8) ++ [.int .u8 (lx / 16777216)]) := by
          unfold Hid; rw [En.step_out, HLw.out]; simp
        have hR3 : e'.R < 16777216 := by have := HR.out; omega
        have HNs : Hid (e'.step.norm = F) := by unfold Hid; rw [← En.norm_step e' HMd.out.r0 hR3]; exact HN.out
        have HMs : Hid (e'.step.Mid) := HMd.out.step hR3
        have HSh : Hid (sh e'.R = sh (e'.R * 256) + 1) := sh_step e'.R HMd.out.r0 hR3
        have hMb : Hid (Mx ≤ 3998) := by unfold Hid; have := HMd.out.m; have := HMx.out; omega
        clear hR3
        generalize lx % 16777216 = lm at *
        go_wp2_with (at_builtin; refine wpList_append_own _ rfl _ _ 24 rfl (w.heap.size + 1 + 1) 5 i0 (.int .u8 0) 1 1 Try.underlying24 hi0 hz0 hz1 hz2 rfl (by decide) _ _ _ rfl (hownx.alloc _) ⟨wr.heap.size, 0, none⟩ 1 1 [.int .u8 (lx / 16777216)] rfl rfl (cell_one_at rfl _ _) ?c2 ?c3 ?c4 ?c5 ?_)
        case c2 => intro u hu; simp at hu; subst hu; rfl
        case c3 => have := hMb.out; unfold maxLen; omega
        case c4 => have := hMb.out; omega
        case c5 => simp; omega
        intro v' w2 hown' hgrow _
        have hlt2 := hownx.lt
        have nb : (Value.slice a' Mx cap').ownBlock ≠ some w.heap.size := fun hh => by have := (hlt2 _ hh).1; omega
        have nr : (Value.slice a' Mx cap').ownBlock ≠ some (w.heap.size + 1) := fun hh => by have := (hlt2 _ hh).1; omega
        have hb4 := (hb3'.below (below1 _ (.cells #[.int .u8 (lx / 16777216)] 5))).grown hgrow nb
        have hr4 := (hr3'.below (below1 _ (.cells #[.int .u8 (lx / 16777216)] 5))).grown hgrow nr
        have hbw2 : Below w.heap.size w w2 := (hbr.alloc hbr.size _).grown hgrow (by simp; omega) (fun k hk => by have := (hlt2 k hk).1; omega)
        obtain ⟨a2, cap2, rfl, hcap2, hmax2, _⟩ := owns_open hown'
        rw [← HO.out] at hown'
        have hsz2 := hbw2.size
        have hz2' := hr4.z
        clear c0 c1 c2 f0 f1 f2 z hgrow hownx hlt2 nb nr
        obtain ⟨z, c0, c1, c2, f0, f1, f2⟩ := id hb4
        have hs1 := cellSh_of hb3'.c1
        go_wp2
        have hnew := ((hb4.set2 (.slice a2 (Mx + 1) cap2)).set0 (.int .u64 (lm * 256))).set1 (.int .u32 (r * 256))
        have hs2 := cellSh_of hnew.c1
        have hr2 : (r * 256).toNat = e'.R * 256 := by rw [HR.out]; omega
        have hr1 : r.toNat = e'.R := by rw [HR.out]; omega
        go_roundw
        case rel => exact ⟨e'.step, a2, cap2, Mx + 1, r * 256, lm * 256, HMs, HNs, by unfold Hid; rw [HR.out]; show _ = ((e'.R * 256 : Nat) : Int); omega, HK, by unfold Hid; show e'.m + 1 = _; rw [HMx.out], hnew, ((hr4.other _ _ _ (by omega)).other _ _ _ (by omega)).other _ _ _ (by omega), owns_other (owns_other (owns_other hown' _ _ _ (by omega)) _ _ _ (by omega)) _ _ _ (by omega), bset1 (bset1 (bset1 hbw2 _ _ _ (by omega)) _ _ _ (by omega)) _ _ _ (by omega), by simp [World.setCell]; omega⟩
        case measure => rw [hs1, hs2, hr2, hr1, HSh.out]; omega
      · have hFe : Hid (e' = F) := by
          unfold Hid
          rw [← HN.out, En.norm_done _ (by have := HR.out; omega)]
        obtain ⟨rz, r0, r1, r2, p0, p1, p2⟩ := id hr3'
        go_wp2
        refine bodyPost_ret (v := .tuple #[.agg #[.int .u64 lx, .int .u32 r, .slice a' Mx cap'], .int .i64 0]) (by simp [results, Try.results43, go_sem, c0, c1, c2, r0, r1, r2, p0, p1, p2]) rfl ⟨a', cap', ?_, ?_, ?_⟩
        · unfold encV; rw [← hFe.out, HR.out, HLw.out, HMx.out]
        · rw [← hFe.out, HMx.out]; exact owns_base (owns_other (owns_other (owns_other hownx _ _ _ (by omega)) _ _ _ (by omega)) _ _ _ (by omega)) (by omega)
        · exact bset3 hbr _ _ _ _ (by omega)
end Go.Proofs.Ytkfpphccpkfenaa
