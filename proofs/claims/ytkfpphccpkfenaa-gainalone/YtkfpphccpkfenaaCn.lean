/- An encoder as the document's. -/
import Derived.Test.YtkfpphccpkfenaaCm
namespace Go.Proofs.Ytkfpphccpkfenaa
open Go.RowKit
set_option linter.unusedVariables false
set_option linter.unusedSimpArgs false

/-! ### AsEnc -/
set_option maxRecDepth 10000 in
set_option maxHeartbeats 2000000 in
theorem asEnc_any (L R : Int) (a : Option Addr) (n cap : Nat) (e : En) (w : World) (h : EvOf w L R a n cap e) :
    Calls Try.prog 13 #[.agg #[.int .u64 L, .int .u32 R, .slice a n cap]] w fun x w' => ∃ a' cap', x = .returned (.agg #[.int .u64 e.R, .slice a' (e.m + 4) cap']) ∧ Rw .i64 w' (.slice a' (e.m + 4) cap') e.all ∧ Below w.heap.size w w' := by
  obtain ⟨h0, h⟩ := h
  have hW := below2 w (.cells #[.int .u64 L, .int .u32 R, .slice a n cap] 26) (.cells #[.int .u64 0, .slice none 0 0] 36)
  rcases h with ⟨h1, rfl, rfl, rfl, h6⟩ | ⟨h1, rfl⟩
  · have hle := h0.le
    have HLe : Hid (e.m ≤ 4000) := hle
    have hr1 := h0.r.2
    have hlow := En.Ok.low_lt e
    have HA : Hid (e.all.map (Value.int .i64) = e.out.map (Value.int .i64) ++ [.int .i64 ((e.low : Int) / 16777216), .int .i64 ((e.low : Int) / 65536 % 256), .int .i64 ((e.low : Int) / 256 % 256), .int .i64 ((e.low : Int) % 256)]) := by
      unfold Hid
      rw [En.all_eq]
      simp only [List.map_append, List.map_cons, List.map_nil]
      rfl
    have hol := En.out_length e
    have hby : Byts e.out := beL_byts _ _
    obtain ⟨l, hl⟩ : ∃ l : Int, (e.low : Int) = l := ⟨_, rfl⟩
    have l0 : 0 ≤ l := by omega
    have l1 : l < 4294967296 := by omega
    rw [hl] at HA h1 ⊢
    obtain ⟨M, hM⟩ : ∃ M : Nat, e.m = M := ⟨_, rfl⟩
    rw [hM] at HLe h1 h6 hol ⊢
    have HOL : Hid (e.out.length = M) := hol
    have HAL : Hid (e.all.length = M + 4) := by unfold Hid; rw [En.all_length, hM]
    rw [hl, hM] at hW
    clear hl hlow hle hM hol h0
    generalize e.out = xs at *
    obtain ⟨i0, hi0, hz0, hz1, hz2⟩ := info_parts info3
    go_enter Try.func13, Try.ntmps13
    go_wp2_with (go_at_call 33; refine (lright_any _ _ _ _ _ _).mono ?_; rw [h1]; rintro x w1 ⟨rfl, hb1⟩; have hB3 := ((B3.new w _ _ _ _).below (below1 _ _)).below hb1; have hR2 := (B2.new2 w _ _ _ _).below hb1; obtain ⟨z, c0, c1, c2, f0, f1, f2⟩ := id hB3)
    have hbw1 := bthen hW hb1 hW.size
    have hsz1 := hR2.z
    clear c0 c1 c2 f0 f1 f2 z hb1
    go_loopw [4] (fun i wr => ∃ (k : Nat) (a' : Option Addr) (cap' : Nat), k ≤ M ∧ i = .int .i64 k ∧ B3 wr w.heap.size (.int .u64 l) (.int .u32 e.R) (.slice a M cap) ∧ B2 wr (w.heap.size + 1) (.int .u64 0) (.slice none 0 0) ∧ B2 wr w1.heap.size (.int .u64 e.R) (.slice a' k cap') ∧ wr.ownsRow (w1.heap.size + 1) 3 1 (.slice a' k cap') k ((xs.take k).map (Value.int .i64)) ∧ Below w1.heap.size w1 wr) (fun i _ => M - (intOf i).toNat)
    case atStart => exact ⟨0, none, 0, by omega, rfl, hB3.below (below1 _ _), hR2.below (below1 _ _), B2.new _ _ _ _, World.ownsRow_nil _ _ _ _, below1 _ _⟩
    case round =>
      obtain ⟨k, a', cap', hk, rfl, hb3, hr2, hg2, hown, hbr⟩ := hrel
      have hsz2 := hbr.size
      have hgz := hg2.z
      obtain ⟨z, c0, c1, c2, f0, f1, f2⟩ := id hb3
      obtain ⟨zg, g0, g1, gf0, gf1⟩ := id hg2
      by_cases hlt : k < M
      · have h7 : Rw .u8 wr (.slice a xs.length cap) xs := by rw [HOL.out]; exact (h6.below hbw1).below hbr
        obtain ⟨bb, off, rfl, hbb, hcell⟩ := h7.at k (by rw [HOL.out]; exact hlt)
        obtain ⟨y, hy1, hy2⟩ := byts_nat hby k
        rw [hy1] at hcell
        have HT : Hid ((xs.take (k + 1)).map (Value.int .i64) = (xs.take k).map (Value.int .i64) ++ [.int .i64 (y : Int)]) := by
          unfold Hid
          rw [List.take_add_one, List.map_append]
          rw [List.getD_eq_getElem?_getD] at hy1
          have hk' : k < xs.length := by rw [HOL.out]; exact hlt
          rw [List.getElem?_eq_getElem hk'] at hy1 ⊢
          simp at hy1 ⊢
          exact hy1
        clear hy1 h7
        have i0' : (0 : Int) ≤ (k : Int) := by omega
        have i1 : (k : Int) < (M : Int) := by omega
        have i2 : IntKind.i64.wrap (k : Int) = k := wraps_i64 _ (by have := HLe.out; omega) (by have := HLe.out; omega)
        have i3 : IntKind.i64.wrap (y : Int) = y := wraps_i64 _ (by omega) (by omega)
        go_wp2
        have hlt2 := hown.lt
        have nb : (Value.slice a' k cap').ownBlock ≠ some w.heap.size := fun hh => by have := (hlt2 _ hh).1; omega
        have nr : (Value.slice a' k cap').ownBlock ≠ some (w.heap.size + 1) := fun hh => by have := (hlt2 _ hh).1; omega
        have ng : (Value.slice a' k cap').ownBlock ≠ some w1.heap.size := fun hh => by have := (hlt2 _ hh).1; omega
        have hm1 : k + 1 ≤ maxLen := by have := HLe.out; unfold maxLen; omega
        have hm2 : (k + 1) * 8 ≤ 140737488355328 := by have := HLe.out; omega
        have hm3 : w1.heap.size + 1 ≤ (wr.alloc (.cells #[.int .i64 (y : Int)] 3)).drew.heap.size := by simp; omega
        have hbn := (below1 wr (.cells #[.int .i64 (y : Int)] 3)).drew
        have hownN := owns_new hown (.cells #[.int .i64 (y : Int)] 3)
        have hg2N := hg2.below hbn
        have hb3N := hb3.below hbn
        have hr2N := hr2.below hbn
        go_region_law (refine step_append_own (by rfl) (.tmp 21) (.tmp 28) 27 (by rfl) (w1.heap.size + 1) 3 i0 (.int .i64 0) 8 Try.underlying27 hi0 hz0 hz1 hz2 rfl (.slice a' k cap') k ((xs.take k).map (Value.int .i64)) (by rfl) hownN ⟨wr.heap.size, 0, none⟩ 1 1 [.int .i64 (y : Int)] (by rfl) rfl (cell_one_drew wr _ _) (one_cell _ _) hm1 hm2 hm3 ?_; intro v2 w2 hown2 hgrow; obtain ⟨a2, cap2, rfl, hc2, hm2, _⟩ := owns_open hown2; have hg3 := hg2N.grown hgrow ng; obtain ⟨zg', g0', g1', gf0', gf1'⟩ := id hg3)
        all_goals rw [← HT.out] at hown2
        all_goals have hbw2 : Below w1.heap.size w1 w2 := ((hbr.alloc hbr.size (.cells #[.int .i64 (y : Int)] 3)).drew).grown hgrow (by simp; omega) (fun q hq => by have := (hlt2 q hq).1; omega)
        all_goals have hb4 := hb3N.grown hgrow nb
        all_goals have hr3 := hr2N.grown hgrow nr
        all_goals clear hgrow hown hlt2 nb nr ng hownN hg2N hb3N hr2N hbn
        all_goals go_wp2
        all_goals exact ⟨⟨k + 1, a2, cap2, by omega, by go_num, hb4.other _ _ _ (by omega), hr3.other _ _ _ (by omega), hg3.set1 _, owns_other hown2 _ _ _ (by omega), bset1 hbw2 _ _ _ (by omega)⟩, by simp [intOf]; omega⟩
      · have hkM : k = M := by omega
        subst hkM
        rw [List.take_of_length_le (by rw [HOL.out]; omega)] at hown
        have hlt2 := hown.lt
        have nr : (Value.slice a' k cap').ownBlock ≠ some (w.heap.size + 1) := fun hh => by have := (hlt2 _ hh).1; omega
        have ng : (Value.slice a' k cap').ownBlock ≠ some w1.heap.size := fun hh => by have := (hlt2 _ hh).1; omega
        go_wp2_with (at_builtin; refine wpList_append_own _ rfl _ _ 27 rfl (w1.heap.size + 1) 3 i0 (.int .i64 0) 1 8 Try.underlying27 hi0 hz0 hz1 hz2 rfl (by decide) _ _ _ rfl (hown.alloc _) ⟨wr.heap.size, 0, none⟩ 4 4 [.int .i64 (l / 16777216), .int .i64 (l / 65536 % 256), .int .i64 (l / 256 % 256), .int .i64 (l % 256)] rfl rfl (cell_four_at rfl _ _ _ _ _) ?c2 ?c3 ?c4 ?c5 ?_)
        case c2 => intro u hu; simp at hu; rcases hu with rfl | rfl | rfl | rfl <;> rfl
        case c3 => have := HLe.out; unfold maxLen; omega
        case c4 => have := HLe.out; omega
        case c5 => simp; omega
        intro v2 w2 hown2 hgrow _
        rw [← HA.out] at hown2
        obtain ⟨a2, cap2, rfl, hc2, hm2, _⟩ := owns_open hown2
        have hg3 := (hg2.below (below1 _ (.cells #[.int .i64 (l / 16777216), .int .i64 (l / 65536 % 256), .int .i64 (l / 256 % 256), .int .i64 (l % 256)] 3))).grown hgrow ng
        have hr3 := (hr2.below (below1 _ (.cells #[.int .i64 (l / 16777216), .int .i64 (l / 65536 % 256), .int .i64 (l / 256 % 256), .int .i64 (l % 256)] 3))).grown hgrow nr
        have hbw2 : Below w1.heap.size w1 w2 := (hbr.alloc hbr.size _).grown hgrow (by simp; omega) (fun q hq => by have := (hlt2 q hq).1; omega)
        clear c0 c1 c2 f0 f1 f2 z g0 g1 gf0 gf1 zg hgrow hown hlt2
        obtain ⟨zg, g0, g1, gf0, gf1⟩ := id hg3
        obtain ⟨rz, r0, r1, p0, p1⟩ := id hr3
        go_wp2
        refine bodyPost_ret (v := .agg #[.int .u64 e.R, .slice a2 (k + 4) cap2]) (by simp [results, Try.results13, go_sem, g0, g1, r0, r1, p0, p1]) rfl ⟨a2, cap2, rfl, ?_, ?_⟩
        · have := Rw.of_owns (owns_other (owns_other (owns_other hown2 w1.heap.size 1 (.slice a2 (k + 4) cap2) (by omega)) (w.heap.size + 1) 0 (.int .u64 e.R) (by omega)) (w.heap.size + 1) 1 (.slice a2 (k + 4) cap2) (by omega))
          exact this
        · exact bset2' (bset1 (bthen hbw1 hbw2 hbw1.size) _ _ _ (by omega)) _ _ _ (by omega)
  · go_enter Try.func13, Try.ntmps13
    go_wp2_with (first | (go_at_call 33; refine (lright_any _ _ _ _ _ _).mono ?_; rw [h1]; rintro x w1 ⟨rfl, hb1⟩) | (go_at_call 34; refine (rnew_any _).mono ?_; rintro x w2 ⟨a2, cap2, rfl, hrw, hb2⟩; have hr3 := ((B2.new2 w _ _ _ _).below hb1).below hb2; obtain ⟨rz, r0, r1, p0, p1⟩ := id hr3))
    have hbb := bthen hW hb1 hW.size
    have hbw := bthen hbb hb2 hbb.size
    refine bodyPost_ret (v := .agg #[.int .u64 4294967295, .slice a2 4 cap2]) (by simp [results, Try.results13, go_sem, r0, r1, p0, p1]) rfl ⟨a2, cap2, rfl, ?_, bset2' hbw _ _ _ (by omega)⟩
    have hz1 := hb1.size
    simp at hz1
    exact (((hrw.mono (show w.heap.size + 2 ≤ w1.heap.size by omega)).set _ _ _ (by omega)).set _ _ _ (by omega)).rw
end Go.Proofs.Ytkfpphccpkfenaa
