/- The contract of gain.Take, intra and against the gains ahead. -/
import Derived.Test.YtkfpphccpkfenaaJf
namespace Go.Proofs.Ytkfpphccpkfenaa
open Go.RowKit
set_option linter.unusedVariables false
set_option linter.unusedSimpArgs false

theorem DvOf.decE {w : World} {C R : Int} {a : Option Addr} {n cap : Nat} {A : Int} {d : De} (h : DvOf w C R a n cap A d) (hb : decB C R A = true) : C = d.C ∧ R = d.R ∧ A = d.A ∧ n = d.B.length ∧ Rw .u8 w (.slice a n cap) d.B := by
  rcases h.2 with ⟨_, h2, h3, h4, h5, hr⟩ | ⟨h1, _⟩
  · exact ⟨h2, h3, h4, h5, hr⟩
  · rw [h1] at hb; cases hb
def vpart (intra : Bool) (d : De) (y : List Int) (i j : Nat) : Int := if j < i then vG intra (dK intra d j) (y.getD j 0) else 0
theorem vpart_next (intra : Bool) (d : De) (y : List Int) (i : Nat) (hi : i < 5) : (tab 5 (vpart intra d y i)).set i (vG intra (dK intra d i) (y.getD i 0)) = tab 5 (vpart intra d y (i + 1)) := by
  rw [tab_set _ _ _ _ hi]
  refine tab_congr fun j hj => ?_
  unfold vpart
  by_cases e : j = i
  · subst e; rw [if_pos rfl, if_pos (by omega)]
  · rw [if_neg e]
    by_cases h : j < i
    · rw [if_pos h, if_pos (by omega)]
    · rw [if_neg h, if_neg (by omega)]
theorem vpart_all (intra : Bool) (d : De) (y : List Int) : tab 5 (vpart intra d y 5) = vK intra d y 5 := tab_congr fun j hj => by unfold vpart; rw [if_pos hj]
theorem vpart_none (intra : Bool) (d : De) (y : List Int) : (tab 5 fun _ => 0) = tab 5 (vpart intra d y 0) := tab_congr fun j hj => by unfold vpart; rw [if_neg (by omega)]
theorem info_int : (Try.prog.info? 3).map (fun i => (i.zero, i.size, i.bytes)) = some (some (.int .i64 0), 1, 8) := by kernel_rfl
/-- What Take answers. -/
def TakeP (w : World) (x : Ending) (w' : World) (C R : Int) (a : Option Addr) (n cap : Nat) (A : Int) (d D : De) (v : List Int) : Prop := ∃ a' cap' g, x = .returned (.tuple #[.agg #[.int .u64 D.C, .int .u32 D.R, .slice a' D.B.length cap', .int .i64 D.A], .slice (some ⟨g, 0, none⟩) 5 5, .int .i64 0]) ∧ RwF w.heap.size .i64 w' (.slice (some ⟨g, 0, none⟩) 5 5) v ∧ OutD w w' C R a n cap A d D a' cap'

set_option maxRecDepth 10000 in
set_option maxHeartbeats 2000000 in
theorem gtake_arg (C R : Int) (a : Option Addr) (n cap : Nat) (A : Int) (ay : Option Addr) (ny cy : Nat) (y : List Int) (hy : ny = y.length) (w : World) (hvy : Rw .i64 w (.slice ay ny cy) y) (hbad : gokB y = false) :
    Calls Try.prog 17 #[.agg #[.int .u64 C, .int .u32 R, .slice a n cap, .int .i64 A], .slice ay ny cy, .bool false] w fun x w' => x = .returned (.tuple #[.agg #[.int .u64 0, .int .u32 0, .slice none 0 0, .int .i64 0], .slice none 0 0, .int .i64 1]) ∧ Below w.heap.size w w' := by
  have hW := below2 w (.cells #[.int .u64 C, .int .u32 R, .slice a n cap, .int .i64 A] 30) (.cells #[.int .u64 0, .int .u32 0, .slice none 0 0, .int .i64 0] 30)
  have hra := fun W h => rightAhead_any ay ny cy y hy false W h
  rw [hbad] at hra
  have h3 := hvy.below hW
  obtain ⟨rz, r0, r1, r2, r3, p0, p1, p2, p3⟩ := B4.new2 w (.cells #[.int .u64 C, .int .u32 R, .slice a n cap, .int .i64 A] 30) (.int .u64 0) (.int .u32 0) (.slice none 0 0) (.int .i64 0) 30
  clear hy hbad
  go_enter Try.func17, Try.ntmps17
  go_wp2_with (go_at_call 27; refine (hra _ h3).mono ?_; rintro x w9 ⟨rfl, h9⟩; have h9 := h9.symm; subst h9)
  exact bodyPost_ret (v := .tuple #[.agg #[.int .u64 0, .int .u32 0, .slice none 0 0, .int .i64 0], .slice none 0 0, .int .i64 1]) (by simp [results, Try.results17, go_sem, r0, r1, r2, r3, p0, p1, p2, p3]) rfl ⟨rfl, by first | exact below2 _ _ _ | exact bset4 hW _ _ _ _ _ (by omega)⟩

set_option maxRecDepth 10000 in
set_option maxHeartbeats 4000000 in
theorem gtake_alone (C R : Int) (a : Option Addr) (n cap : Nat) (A : Int) (d : De) (ay : Option Addr) (ny cy : Nat) (y : List Int) (hy : ny = y.length) (w : World) (h : DvOf w C R a n cap A d) (hvy : Rw .i64 w (.slice ay ny cy) y) :
    Calls Try.prog 17 #[.agg #[.int .u64 C, .int .u32 R, .slice a n cap, .int .i64 A], .slice ay ny cy, .bool true] w fun x w' => TakeP w x w' C R a n cap A d (dK true d 5) (vK true d y 5) := by
  obtain ⟨i1, hi1, hy0, hy1, hy2⟩ := info_parts info_int
  have hW := below2 w (.cells #[.int .u64 C, .int .u32 R, .slice a n cap, .int .i64 A] 30) (.cells #[.int .u64 0, .int .u32 0, .slice none 0 0, .int .i64 0] 30)
  have hra := fun W h => rightAhead_any ay ny cy y hy true W h
  rw [Bool.true_or] at hra
  have h3 := hvy.below hW
  have HVN := hid (vpart_next true d y)
  have HVA := hid (vpart_all true d y)
  have HVO := hid (vpart_none true d y)
  have HOK := hid (dK_ok h.1 true)
  have HDV := hid h
  have Hvy := hid hvy
  have hB3 : B4 ((w.alloc (.cells #[.int .u64 C, .int .u32 R, .slice a n cap, .int .i64 A] 30)).alloc (.cells #[.int .u64 0, .int .u32 0, .slice none 0 0, .int .i64 0] 30)) w.heap.size (.int .u64 C) (.int .u32 R) (.slice a n cap) (.int .i64 A) := (B4.new w _ _ _ _ _).below (below1 _ _)
  have hB6 : B4 ((w.alloc (.cells #[.int .u64 C, .int .u32 R, .slice a n cap, .int .i64 A] 30)).alloc (.cells #[.int .u64 0, .int .u32 0, .slice none 0 0, .int .i64 0] 30)) (w.heap.size + 1) (.int .u64 0) (.int .u32 0) (.slice none 0 0) (.int .i64 0) := B4.new2 w _ _ _ _ _ _
  have hz0 : ((w.alloc (.cells #[.int .u64 C, .int .u32 R, .slice a n cap, .int .i64 A] 30)).alloc (.cells #[.int .u64 0, .int .u32 0, .slice none 0 0, .int .i64 0] 30)).heap.size = w.heap.size + 1 + 1 := by simp
  obtain ⟨D5, hD5⟩ : ∃ D5, dK true d 5 = D5 := ⟨_, rfl⟩
  obtain ⟨V5, hV5⟩ : ∃ V5, vK true d y 5 = V5 := ⟨_, rfl⟩
  have hV5l := vK_len true d y 5
  rw [hD5, hV5]
  rw [hV5] at hV5l
  have HD5 := hid hD5
  have HV5 := hid hV5
  have HV5L := hid hV5l
  unfold TakeP
  clear h hvy hy hD5 hV5 hV5l
  go_enter Try.func17, Try.ntmps17
  go_wp2_with (first | (go_at_call 27; refine (hra _ h3).mono ?_; rintro x w9 ⟨rfl, h9⟩; have h9 := h9.symm; subst h9) | (at_make; refine wpList_make_full _ rfl _ _ 27 rfl ((w.alloc (.cells #[.int .u64 C, .int .u32 R, .slice a n cap, .int .i64 A] 30)).alloc (.cells #[.int .u64 0, .int .u32 0, .slice none 0 0, .int .i64 0] 30)).heap.size 3 i1 (.int .i64 0) 1 Try.underlying27 hi1 hy0 hy1 .i64 .i64 _ _ 5 rfl rfl (by omega) (by omega) (by rw [hy2]; omega) (by unfold maxLen; omega) (by simp) ?_))
  intro w7 hown7 hgrow7
  have hb7 := grown_of_none hgrow7
  have HG0 : Blk .i64 3 w7 (w.heap.size + 1 + 1) (tab 5 (vpart true d y 0)) := by rw [← HVO.out]; exact Blk.made hown7
  have hC3 := hB3.below hb7
  have hC6 := hB6.below hb7
  have hbw7 := bthen hW hb7 hW.size
  clear hown7 hgrow7 hb7 hB3 hB6 hra h3 hW HVO
  clear hz0 hi1 hy0 hy1 hy2 i1
  go_wp2
  go_loopw [17] (fun i wr => ∃ (k : Nat) (C' R' : Int) (a' : Option Addr) (n' c' : Nat) (A' : Int), k ≤ 5 ∧ i = .int .i64 (k : Nat) ∧ Hid (0 < k → decB C' R' A' = true) ∧ Hid (∀ w1, DvOf w1 C R a n cap A d → DvOf w1 C' R' a' n' c' A' (dK true d k)) ∧ B4 wr w.heap.size (.int .u64 C') (.int .u32 R') (.slice a' n' c') (.int .i64 A') ∧ B4 wr (w.heap.size + 1) (.int .u64 0) (.int .u32 0) (.slice none 0 0) (.int .i64 0) ∧ Blk .i64 3 wr (w.heap.size + 1 + 1) (tab 5 (vpart true d y k)) ∧ Below w.heap.size w wr) (fun i _ => 5 - (intOf i).toNat)
  case atStart => exact ⟨0, C, R, a, n, cap, A, by omega, rfl, (fun hh => absurd hh (by decide)), (fun _ hh => hh), hC3, hC6, HG0, hbw7⟩
  case round =>
    clear hC3 hC6 HG0 hbw7
    obtain ⟨k, C', R', a', n', c', A', hk, rfl, Hpos, HIM, hB3, hB6, hbk, hbel⟩ := hrel
    obtain ⟨W1, rfl⟩ : ∃ z, z = wr := ⟨wr, rfl⟩
    by_cases hlt : k < 5
    · have HN := hid (HVN.out k hlt)
      have HDK := hid (HOK.out (k + 1))
      have hdv := (HIM.out _ HDV.out).below hbel
      have htk := fun W h => takeAlone_any C' R' a' n' c' A' (dK true d k) W h
      have hDB := dG_B (dK true d k) true
      rw [← dG_alone] at htk
      have hV := vG_alone (dK true d k) (y.getD k 0)
      rw [hV] at HN
      clear hV
      have hD : dK true d (k + 1) = dG true (dK true d k) := rfl
      rw [← hD] at htk
      generalize hDe : dK true d (k + 1) = D at htk HDK
      have HDE := hid hDe
      clear hDe
      generalize dK true d k = E at *
      generalize ((dK true d k).numV 45 : Int) = V at *
      unfold OneT at htk
      clear hD hDB
      have hfz := hbk.free k (by rw [tab_len]; exact hlt)
      have HBK := hid hbk
      obtain ⟨z3, d0, d1, d2, d3, df0, df1, df2, df3⟩ := id hB3
      have i1 : (0 : Int) ≤ (k : Int) := by omega
      have i2 : (k : Int) < 5 := by omega
      have i3 : IntKind.i64.wrap (k : Int) = k := wraps_i64 _ (by omega) (by omega)
      have hcg := hbk.cell k (by rw [tab_len]; exact hlt)
      go_wp2_with (go_at_call 35; refine (htk _ hdv).mono ?_; rintro xx y1 ⟨a2, c2, rfl, hq, hb2'⟩; have hb2 := hb2'; have hB3y := hB3.below hb2; have hB6y := hB6.below hb2; have hGy := HBK.out.below hb2; have hy1 := bthen hbel hb2 hbel.size; obtain ⟨y3, e0, e1, e2, e3, ef0, ef1, ef2, ef3⟩ := id hB3y; have hcgy := hGy.cell k (by rw [tab_len]; exact hlt); have hfzy := hGy.free k (by rw [tab_len]; exact hlt))
      go_roundw
      case rel => exact ⟨k + 1, D.C, D.R, a2, D.B.length, c2, D.A, by omega, by go_num, (fun _ => HDK.out.decB), (fun w1 hh => by rw [HDE.out]; exact HDK.out.dv (hq w1 (HIM.out w1 hh))), (hB3y.set _ _ _ _).other _ _ _ (by omega), ((((hB6y.other _ _ _ (by omega)).other _ _ _ (by omega)).other _ _ _ (by omega)).other _ _ _ (by omega)).other _ _ _ (by omega), by rw [← HN.out]; exact ((((hGy.other _ _ _ (by omega)).other _ _ _ (by omega)).other _ _ _ (by omega)).other _ _ _ (by omega)).set _ _, bset1 (bset4 hy1 _ _ _ _ _ (by omega)) _ _ _ (by omega)⟩
      case measure => simp [intOf]; omega
    · obtain rfl : k = 5 := by omega
      have hdec := Hpos.out (by decide)
      have HIM5 : ∀ w1, DvOf w1 C R a n cap A d → DvOf w1 C' R' a' n' c' A' D5 := fun w1 hh => by rw [← HD5.out]; exact HIM.out w1 hh
      obtain ⟨rfl, rfl, rfl, rfl, -⟩ := (HIM5 _ HDV.out).decE hdec
      have HR := hid (fun w1 hh => (HIM5 w1 hh).row hdec)
      obtain ⟨z3, d0, d1, d2, d3, df0, df1, df2, df3⟩ := id hB3
      obtain ⟨rz, r0, r1, r2, r3, p0, p1, p2, p3⟩ := id hB6
      have hgo : Blk .i64 3 W1 (w.heap.size + 1 + 1) V5 := by rw [← HV5.out, ← HVA.out]; exact hbk
      clear hbk hlt hdec Hpos HIM HIM5
      go_wp2
      refine bodyPost_ret (v := .tuple #[.agg #[.int .u64 D5.C, .int .u32 D5.R, .slice a' D5.B.length c', .int .i64 D5.A], .slice (some ⟨w.heap.size + 1 + 1, 0, none⟩) 5 5, .int .i64 0]) (by simp [results, Try.results17, go_sem, r0, r1, r2, r3, p0, p1, p2, p3]) rfl ⟨a', c', _, rfl, ?_, fun w1 hh => HR.out w1 hh, bset4 hbel _ _ _ _ _ (by omega)⟩
      exact RwF.of_row ((((hgo.other _ _ _ (by omega)).other _ _ _ (by omega)).other _ _ _ (by omega)).other _ _ _ (by omega)) HV5L.out (by omega)

set_option maxRecDepth 10000 in
set_option maxHeartbeats 4000000 in
theorem gtake_against (C R : Int) (a : Option Addr) (n cap : Nat) (A : Int) (d : De) (ay : Option Addr) (ny cy : Nat) (y : List Int) (hy : ny = y.length) (w : World) (h : DvOf w C R a n cap A d) (hvy : Rw .i64 w (.slice ay ny cy) y) (hgy : gokB y = true) :
    Calls Try.prog 17 #[.agg #[.int .u64 C, .int .u32 R, .slice a n cap, .int .i64 A], .slice ay ny cy, .bool false] w fun x w' => TakeP w x w' C R a n cap A d (dK false d 5) (vK false d y 5) := by
  obtain ⟨i1, hi1, hy0, hy1, hy2⟩ := info_parts info_int
  have hW := below2 w (.cells #[.int .u64 C, .int .u32 R, .slice a n cap, .int .i64 A] 30) (.cells #[.int .u64 0, .int .u32 0, .slice none 0 0, .int .i64 0] 30)
  have hra := fun W h => rightAhead_any ay ny cy y hy false W h
  rw [hgy] at hra
  have Hgy := hid hgy
  obtain rfl : ny = 5 := hy.trans (gok_len hgy)
  clear hgy
  have h3 := hvy.below hW
  have HVN := hid (vpart_next false d y)
  have HVA := hid (vpart_all false d y)
  have HVO := hid (vpart_none false d y)
  have HOK := hid (dK_ok h.1 false)
  have HDV := hid h
  have Hvy := hid hvy
  have hB3 : B4 ((w.alloc (.cells #[.int .u64 C, .int .u32 R, .slice a n cap, .int .i64 A] 30)).alloc (.cells #[.int .u64 0, .int .u32 0, .slice none 0 0, .int .i64 0] 30)) w.heap.size (.int .u64 C) (.int .u32 R) (.slice a n cap) (.int .i64 A) := (B4.new w _ _ _ _ _).below (below1 _ _)
  have hB6 : B4 ((w.alloc (.cells #[.int .u64 C, .int .u32 R, .slice a n cap, .int .i64 A] 30)).alloc (.cells #[.int .u64 0, .int .u32 0, .slice none 0 0, .int .i64 0] 30)) (w.heap.size + 1) (.int .u64 0) (.int .u32 0) (.slice none 0 0) (.int .i64 0) := B4.new2 w _ _ _ _ _ _
  have hz0 : ((w.alloc (.cells #[.int .u64 C, .int .u32 R, .slice a n cap, .int .i64 A] 30)).alloc (.cells #[.int .u64 0, .int .u32 0, .slice none 0 0, .int .i64 0] 30)).heap.size = w.heap.size + 1 + 1 := by simp
  obtain ⟨D5, hD5⟩ : ∃ D5, dK false d 5 = D5 := ⟨_, rfl⟩
  obtain ⟨V5, hV5⟩ : ∃ V5, vK false d y 5 = V5 := ⟨_, rfl⟩
  have hV5l := vK_len false d y 5
  rw [hD5, hV5]
  rw [hV5] at hV5l
  have HD5 := hid hD5
  have HV5 := hid hV5
  have HV5L := hid hV5l
  unfold TakeP
  clear h hvy hy hD5 hV5 hV5l
  go_enter Try.func17, Try.ntmps17
  go_wp2_with (first | (go_at_call 27; refine (hra _ h3).mono ?_; rintro x w9 ⟨rfl, h9⟩; have h9 := h9.symm; subst h9) | (at_make; refine wpList_make_full _ rfl _ _ 27 rfl ((w.alloc (.cells #[.int .u64 C, .int .u32 R, .slice a n cap, .int .i64 A] 30)).alloc (.cells #[.int .u64 0, .int .u32 0, .slice none 0 0, .int .i64 0] 30)).heap.size 3 i1 (.int .i64 0) 1 Try.underlying27 hi1 hy0 hy1 .i64 .i64 _ _ 5 rfl rfl (by omega) (by omega) (by rw [hy2]; omega) (by unfold maxLen; omega) (by simp) ?_))
  intro w7 hown7 hgrow7
  have hb7 := grown_of_none hgrow7
  have HG0 : Blk .i64 3 w7 (w.heap.size + 1 + 1) (tab 5 (vpart false d y 0)) := by rw [← HVO.out]; exact Blk.made hown7
  have hC3 := hB3.below hb7
  have hC6 := hB6.below hb7
  have hbw7 := bthen hW hb7 hW.size
  clear hown7 hgrow7 hb7 hB3 hB6 hra h3 hW HVO
  clear hz0 hi1 hy0 hy1 hy2 i1
  go_wp2
  go_loopw [17] (fun i wr => ∃ (k : Nat) (C' R' : Int) (a' : Option Addr) (n' c' : Nat) (A' : Int), k ≤ 5 ∧ i = .int .i64 (k : Nat) ∧ Hid (0 < k → decB C' R' A' = true) ∧ Hid (∀ w1, DvOf w1 C R a n cap A d → DvOf w1 C' R' a' n' c' A' (dK false d k)) ∧ B4 wr w.heap.size (.int .u64 C') (.int .u32 R') (.slice a' n' c') (.int .i64 A') ∧ B4 wr (w.heap.size + 1) (.int .u64 0) (.int .u32 0) (.slice none 0 0) (.int .i64 0) ∧ Blk .i64 3 wr (w.heap.size + 1 + 1) (tab 5 (vpart false d y k)) ∧ Below w.heap.size w wr) (fun i _ => 5 - (intOf i).toNat)
  case atStart => exact ⟨0, C, R, a, n, cap, A, by omega, rfl, (fun hh => absurd hh (by decide)), (fun _ hh => hh), hC3, hC6, HG0, hbw7⟩
  case round =>
    clear hC3 hC6 HG0 hbw7
    obtain ⟨k, C', R', a', n', c', A', hk, rfl, Hpos, HIM, hB3, hB6, hbk, hbel⟩ := hrel
    obtain ⟨W1, rfl⟩ : ∃ z, z = wr := ⟨wr, rfl⟩
    by_cases hlt : k < 5
    · have HN := hid (HVN.out k hlt)
      have HDK := hid (HOK.out (k + 1))
      have hdv := (HIM.out _ HDV.out).below hbel
      obtain ⟨G, hG, hG4⟩ := gok_at Hgy.out k hlt
      obtain ⟨b', off', rfl, hb', hcy⟩ := Hvy.out.atn k hlt
      rw [hG] at hcy HN
      have hbr' : b' < W1.heap.size := Nat.lt_of_lt_of_le hb' hbel.size
      have dy := (hbel.cell (p := ⟨b', off' + k, none⟩) hb').trans hcy
      clear hcy hb'
      have htk := fun W h => takeAgainst_any C' R' a' n' c' A' (dK false d k) G hG4 W h
      have hDB := dG_B (dK false d k) false
      have hD : dK false d (k + 1) = dG false (dK false d k) := rfl
      rw [← hD] at htk
      generalize hDe : dK false d (k + 1) = D at htk HDK
      have HDE := hid hDe
      clear hDe
      generalize dK false d k = E at *
      generalize vG false (dK false d k) (G : Int) = V at *
      unfold OneT at htk
      clear hD hDB
      have hfz := hbk.free k (by rw [tab_len]; exact hlt)
      have HBK := hid hbk
      obtain ⟨z3, d0, d1, d2, d3, df0, df1, df2, df3⟩ := id hB3
      have i1 : (0 : Int) ≤ (k : Int) := by omega
      have i2 : (k : Int) < 5 := by omega
      have i3 : IntKind.i64.wrap (k : Int) = k := wraps_i64 _ (by omega) (by omega)
      have hcg := hbk.cell k (by rw [tab_len]; exact hlt)
      go_wp2
      go_region_with (go_at_call 36; refine (htk _ (hdv.below (Below.refl _ _).drew)).mono ?_; rintro xx y1 ⟨a2, c2, rfl, hq, hb2'⟩; have hb2 := drew_below hb2'; have hB3y := hB3.below hb2; have hB6y := hB6.below hb2; have hGy := HBK.out.below hb2; have hy1 := bthen hbel hb2 hbel.size; obtain ⟨y3, e0, e1, e2, e3, ef0, ef1, ef2, ef3⟩ := id hB3y; have hcgy := hGy.cell k (by rw [tab_len]; exact hlt); have hfzy := hGy.free k (by rw [tab_len]; exact hlt))
      all_goals go_wp2
      all_goals go_roundw
      all_goals first
        | (exact ⟨k + 1, D.C, D.R, a2, D.B.length, c2, D.A, by omega, by go_num, (fun _ => HDK.out.decB), (fun w1 hh => by rw [HDE.out]; exact HDK.out.dv (hq w1 (HIM.out w1 hh))), (hB3y.set _ _ _ _).other _ _ _ (by omega), ((((hB6y.other _ _ _ (by omega)).other _ _ _ (by omega)).other _ _ _ (by omega)).other _ _ _ (by omega)).other _ _ _ (by omega), by rw [← HN.out]; exact ((((hGy.other _ _ _ (by omega)).other _ _ _ (by omega)).other _ _ _ (by omega)).other _ _ _ (by omega)).set _ _, bset1 (bset4 hy1 _ _ _ _ _ (by omega)) _ _ _ (by omega)⟩)
        | (simp [intOf]; omega)
    · obtain rfl : k = 5 := by omega
      have hdec := Hpos.out (by decide)
      have HIM5 : ∀ w1, DvOf w1 C R a n cap A d → DvOf w1 C' R' a' n' c' A' D5 := fun w1 hh => by rw [← HD5.out]; exact HIM.out w1 hh
      obtain ⟨rfl, rfl, rfl, rfl, -⟩ := (HIM5 _ HDV.out).decE hdec
      have HR := hid (fun w1 hh => (HIM5 w1 hh).row hdec)
      obtain ⟨z3, d0, d1, d2, d3, df0, df1, df2, df3⟩ := id hB3
      obtain ⟨rz, r0, r1, r2, r3, p0, p1, p2, p3⟩ := id hB6
      have hgo : Blk .i64 3 W1 (w.heap.size + 1 + 1) V5 := by rw [← HV5.out, ← HVA.out]; exact hbk
      clear hbk hlt hdec Hpos HIM HIM5
      go_wp2
      refine bodyPost_ret (v := .tuple #[.agg #[.int .u64 D5.C, .int .u32 D5.R, .slice a' D5.B.length c', .int .i64 D5.A], .slice (some ⟨w.heap.size + 1 + 1, 0, none⟩) 5 5, .int .i64 0]) (by simp [results, Try.results17, go_sem, r0, r1, r2, r3, p0, p1, p2, p3]) rfl ⟨a', c', _, rfl, ?_, fun w1 hh => HR.out w1 hh, bset4 hbel _ _ _ _ _ (by omega)⟩
      exact RwF.of_row ((((hgo.other _ _ _ (by omega)).other _ _ _ (by omega)).other _ _ _ (by omega)).other _ _ _ (by omega)) HV5L.out (by omega)

end Go.Proofs.Ytkfpphccpkfenaa
