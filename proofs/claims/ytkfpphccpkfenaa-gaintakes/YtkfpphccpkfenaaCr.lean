/- A choice is put, by the document. -/
import Derived.Test.YtkfpphccpkfenaaCq
namespace Go.Proofs.Ytkfpphccpkfenaa
open Go.RowKit
set_option linter.unusedVariables false
set_option linter.unusedSimpArgs false

theorem En.Ok.all_be {e : En} (h : e.Ok) : be e.all = e.N := by
  unfold En.all
  rw [be_beL, Nat.mod_eq_of_lt h.lt]
theorem En.Ok.raw_all {e : En} (h : e.Ok) (lo hi tot : Nat) : added e.all (ahead e.R lo tot) = (e.raw lo hi tot).all := by
  unfold added
  rw [h.all_be, En.all_length]
  rfl
theorem En.step_all (e : En) : e.step.all = e.all ++ [0] := by
  show beL (e.N * 256) (e.m + 1 + 4) = beL e.N (e.m + 4) ++ [0]
  rw [show e.m + 1 + 4 = (e.m + 4) + 1 by omega, beL, Nat.mul_div_cancel _ (by decide), Nat.mul_mod_left]
  rfl
theorem En.all_byts (e : En) : Byts e.all := beL_byts _ _
/-- A row of the call's own is not the struct whose first cell is of another kind. -/
theorem owns_ne {w : World} {base : Nat} {e : TypeId} {a : Option Addr} {n cap b : Nat} {xs : List Int} {r : Int} (h : w.ownsRow base e 1 (.slice a n cap) n (xs.map (Value.int .i64))) (hn : 0 < n) (hc : w.cell? ⟨b, 0, none⟩ = some (.int .u64 r)) : (Value.slice a n cap).ownBlock ≠ some b := by
  obtain ⟨g, rfl, _, _, hcell, _⟩ := owns_at h 0 hn
  intro hh
  simp [Value.ownBlock] at hh
  subst hh
  rw [hcell] at hc
  simp at hc
/-- How often a range is still to be moved on, of the document's struct. -/
def cellSh0 (w : World) (b : Nat) : Nat := match w.cell? ⟨b, 0, none⟩ with
  | some (.int _ r) => sh r.toNat
  | _ => 0
theorem cellSh0_of {w : World} {b : Nat} {k : IntKind} {r : Int} (h : w.cell? ⟨b, 0, none⟩ = some (.int k r)) : cellSh0 w b = sh r.toNat := by
  unfold cellSh0; rw [h]

/-- The value of an encoder, the document's. -/
def rEv (w : World) (R : Int) (a : Option Addr) (n cap : Nat) (e : En) : Prop := e.Ok ∧ R = e.R ∧ n = e.m + 4 ∧ Rw .i64 w (.slice a n cap) e.all
theorem rEv.below {w w' : World} {R : Int} {a : Option Addr} {n cap : Nat} {e : En} (h : rEv w R a n cap e) (hb : Below w.heap.size w w') : rEv w' R a n cap e := ⟨h.1, h.2.1, h.2.2.1, h.2.2.2.below hb⟩

set_option maxRecDepth 10000 in
set_option maxHeartbeats 2000000 in
theorem rput_arg (R : Int) (a : Option Addr) (n cap : Nat) (e : En) (lo hi tot : Int) (w : World) (h : rEv w R a n cap e) (hf : fairB lo hi tot = false) :
    Calls Try.prog 31 #[.agg #[.int .u64 R, .slice a n cap], .int .i64 lo, .int .i64 hi, .int .i64 tot] w fun x w' => x = .returned (.tuple #[.agg #[.int .u64 R, .slice a n cap], .int .i64 1]) ∧ Below w.heap.size w w' := by
  go_enter Try.func31, Try.ntmps31
  go_wp2_with (go_at_call 45; refine (rfair_any _ _ _ _).mono ?_; rw [hf]; rintro x w2 ⟨rfl, rfl⟩)
  exact bodyPost_ret (v := .tuple #[.agg #[.int .u64 R, .slice a n cap], .int .i64 1]) (by simp [results, Try.results31, go_sem]) rfl ⟨rfl, below2 _ _ _⟩
set_option maxRecDepth 10000 in
set_option maxHeartbeats 2000000 in
theorem rput_full (R : Int) (a : Option Addr) (n cap : Nat) (e : En) (lo hi tot : Int) (w : World) (h : rEv w R a n cap e) (hf : fairB lo hi tot = true) (hm : (4000 : Int) ≤ (n : Int)) :
    Calls Try.prog 31 #[.agg #[.int .u64 R, .slice a n cap], .int .i64 lo, .int .i64 hi, .int .i64 tot] w fun x w' => x = .returned (.tuple #[.agg #[.int .u64 R, .slice a n cap], .int .i64 3]) ∧ Below w.heap.size w w' := by
  go_enter Try.func31, Try.ntmps31
  go_wp2_with (go_at_call 45; refine (rfair_any _ _ _ _).mono ?_; rw [hf]; rintro x w2 ⟨rfl, rfl⟩)
  exact bodyPost_ret (v := .tuple #[.agg #[.int .u64 R, .slice a n cap], .int .i64 3]) (by simp [results, Try.results31, go_sem]) rfl ⟨rfl, below2 _ _ _⟩

set_option maxRecDepth 10000 in
set_option maxHeartbeats 2000000 in
theorem rput_ok (R : Int) (a : Option Addr) (n cap : Nat) (e : En) (lo hi tot : Nat) (w : World) (h : rEv w R a n cap e) (hf : Fair lo hi tot) (hm : (n : Int) < 4000) :
    Calls Try.prog 31 #[.agg #[.int .u64 R, .slice a n cap], .int .i64 lo, .int .i64 hi, .int .i64 tot] w fun x w' => ∃ R' a' n' cap', x = .returned (.tuple #[.agg #[.int .u64 R', .slice a' n' cap'], .int .i64 0]) ∧ rEv w' R' a' n' cap' (e.put lo hi tot) ∧ Below w.heap.size w w' := by
  obtain ⟨hok, rfl, hn, hrw⟩ := h
  have hm2 : e.m < 3996 := by omega
  have hpok := En.put_ok hok hf hm2
  have hmid := hok.rawMid hf hm2
  have HMid : Hid ((e.raw lo hi tot).Mid) := hmid
  have hal := ahead_width (R := e.R) hf
  have hr2 := hok.r.2
  have hA1 : ahead e.R lo tot < 4294967296 := by omega
  have hrw2 := hrw
  rw [hn, ← En.all_length] at hrw2
  have hadd : ∀ w', Rw .i64 w' (.slice a n cap) e.all → Calls Try.prog 47 #[.slice a n cap, .int .u64 (ahead e.R lo tot)] w' fun x w1 => ∃ a' cap', x = .returned (.slice a' n cap') ∧ w1.ownsRow w'.heap.size 3 1 (.slice a' n cap') n ((e.raw lo hi tot).all.map (Value.int .i64)) ∧ Below w'.heap.size w' w1 := fun w' hh => by
    rw [hn, ← En.all_length] at hh
    have := radd_any a cap (ahead e.R lo tot) e.all w' hh e.all_byts (by rw [En.all_length]; omega) (by rw [En.all_length]; omega) hA1
    rw [hok.raw_all lo hi tot, En.all_length] at this
    rw [hn]
    exact this
  have hpart := fun w => part_any e.R lo hi tot w hok.r hf
  have HPok : Hid ((e.put lo hi tot).Ok) := hpok
  rw [En.put_norm] at HPok ⊢
  obtain ⟨F, hF⟩ : ∃ F, F = (e.raw lo hi tot).norm := ⟨_, rfl⟩
  rw [← hF] at HPok ⊢
  have HF : Hid (F = (e.raw lo hi tot).norm) := hF
  have HRW : Hid ((e.raw lo hi tot).R = width e.R lo hi tot) := rfl
  have HRM : Hid ((e.raw lo hi tot).m + 4 = n) := hn.symm
  clear hF hmid hrw2 hal hA1 hpok
  generalize ahead e.R lo tot = A at *
  obtain ⟨W, hWi⟩ : ∃ W : Int, ((width e.R lo hi tot : Nat) : Int) = W := ⟨_, rfl⟩
  rw [hWi] at hpart
  have HWi : Hid (((width e.R lo hi tot : Nat) : Int) = W) := hWi
  have hff := fair_nat hf
  obtain ⟨i0, hi0, hz0, hz1, hz2⟩ := info_parts info3
  have hW := below2 w (.cells #[.int .u64 e.R, .slice a n cap] 36) (.cells #[.int .u64 0, .slice none 0 0] 36)
  generalize e.raw lo hi tot = E0 at *
  obtain ⟨ni, hni⟩ : ∃ ni : Int, (n : Int) = ni := ⟨_, rfl⟩
  have hnn : ¬ (4000 : Int) ≤ ni := by omega
  clear hWi hn hm2 hm
  go_enter Try.func31, Try.ntmps31
  go_wp2_with (first | (go_at_call 45; refine (rfair_any _ _ _ _).mono ?_; rw [hff]; rintro x w2 ⟨rfl, rfl⟩) | (go_at_call 46; refine (hpart _).mono ?_; rintro x w2 ⟨rfl, rfl⟩) | (go_at_call 47; refine (hadd _ (hrw.below hW)).mono ?_; rintro x w3 ⟨a3, cap3, rfl, hown, hb3⟩))
  have hown1 : w3.ownsRow (w.heap.size + 2) 3 1 (.slice a3 n cap3) n (E0.all.map (Value.int .i64)) := by simpa using hown
  have hbw3 := bthen hW hb3 hW.size
  have hR3 := ((B2.new2 w (.cells #[.int .u64 e.R, .slice a n cap] 36) (.int .u64 0) (.slice none 0 0) 36).below hb3).below (below1 w3 (.cells #[.int .u64 W, .slice a3 n cap3] 36))
  have hz3 := hb3.size
  simp at hz3
  have hB3 := B2.new w3 (.int .u64 W) (.slice a3 n cap3) 36
  have hbx := hbw3.alloc hbw3.size (.cells #[.int .u64 W, .slice a3 n cap3] 36)
  have hox := hown1.alloc (.cells #[.int .u64 W, .slice a3 n cap3] 36)
  clear hown hown1 hb3 hadd hpart hrw
  go_loopw [] (fun wr => ∃ (e' : En) (a' : Option Addr) (cap' Mx : Nat) (r : Int), Hid (e'.Mid) ∧ Hid (e'.norm = F) ∧ Hid (r = e'.R) ∧ Hid (e'.m + 4 = Mx) ∧ B2 wr w3.heap.size (.int .u64 r) (.slice a' Mx cap') ∧ B2 wr (w.heap.size + 1) (.int .u64 0) (.slice none 0 0) ∧ wr.ownsRow (w.heap.size + 2) 3 1 (.slice a' Mx cap') Mx (e'.all.map (Value.int .i64)) ∧ Below w.heap.size w wr) (fun wr => cellSh0 wr w3.heap.size)
  case atStart => exact ⟨E0, a3, cap3, n, W, HMid.out, HF.out.symm, by unfold Hid; rw [HRW.out]; exact HWi.out.symm, HRM.out, hB3, hR3, hox, hbx⟩
  case round =>
    clear hB3 hR3 hox hbx hff hni hnn
    obtain ⟨e', a', cap', Mx, r, HMd, HN, HR, HMx, hb3, hr3, hownx, hbr⟩ := hrel
    obtain ⟨z, c0, c1, f0, f1⟩ := id hb3
    have m0 : (256 : Int) ≤ r := by rw [HR.out]; have := HMd.out.r0; omega
    have m1 : r ≤ 4294967295 := by rw [HR.out]; have := HMd.out.r1; omega
    have hsz := hbr.size
    by_cases hlt : r < 16777216
    · have hR3 : e'.R < 16777216 := by have := HR.out; omega
      have HNs : Hid (e'.step.norm = F) := by unfold Hid; rw [← En.norm_step e' HMd.out.r0 hR3]; exact HN.out
      have HMs : Hid (e'.step.Mid) := HMd.out.step hR3
      have HSh : Hid (sh e'.R = sh (e'.R * 256) + 1) := sh_step e'.R HMd.out.r0 hR3
      have hMb : Hid (Mx ≤ 4002) := by unfold Hid; have := HMd.out.m; have := HMx.out; omega
      have hMp : Hid (0 < Mx) := by unfold Hid; have := HMx.out; omega
      have HO : Hid (e'.step.all.map (Value.int .i64) = e'.all.map (Value.int .i64) ++ [.int .i64 0]) := by
        unfold Hid; rw [En.step_all]; simp
      clear hR3
      have nb := owns_ne hownx hMp.out c0
      have hlt2 := hownx.lt
      have nr : (Value.slice a' Mx cap').ownBlock ≠ some (w.heap.size + 1) := fun hh => by have := (hlt2 _ hh).1; omega
      have hw1 := owns_off hownx w3.heap.size 0 nb (.int .u64 (r * 256))
      have hb3a := hb3.set0 (.int .u64 (r * 256))
      have hr3a := hr3.other w3.heap.size 0 (.int .u64 (r * 256)) (by omega)
      have hbra := bset1 hbr w3.heap.size 0 (.int .u64 (r * 256)) (by omega)
      have hs1 := cellSh0_of hb3.c0
      have hzz : (wr.setCell ⟨w3.heap.size, 0, none⟩ (.int .u64 (r * 256))).heap.size = wr.heap.size := by simp [World.setCell]
      go_wp2_with (at_builtin; refine wpList_append_own _ rfl _ _ 27 rfl (w.heap.size + 2) 3 i0 (.int .i64 0) 1 8 Try.underlying27 hi0 hz0 hz1 hz2 rfl (by decide) _ _ _ rfl (hw1.alloc _) ⟨wr.heap.size, 0, none⟩ 1 1 [.int .i64 0] rfl rfl (cell_one_at hzz _ _) ?c2 ?c3 ?c4 ?c5 ?_)
      case c2 => intro u hu; simp at hu; subst hu; rfl
      case c3 => have := hMb.out; unfold maxLen; omega
      case c4 => have := hMb.out; omega
      case c5 => simp [hzz]; omega
      intro v' w2 hown' hgrow _
      have hb4 := (hb3a.below (below1 _ (.cells #[.int .i64 0] 3))).grown hgrow nb
      have hr4 := (hr3a.below (below1 _ (.cells #[.int .i64 0] 3))).grown hgrow nr
      have hbw2 : Below w.heap.size w w2 := (hbra.alloc hbra.size _).grown hgrow (by simp [hzz]; omega) (fun k hk => by have := (hlt2 k hk).1; omega)
      obtain ⟨a2, cap2, rfl, hcap2, hmax2, _⟩ := owns_open hown'
      rw [← HO.out] at hown'
      have nb2 := owns_ne hown' (by omega) hb4.c0
      clear c0 c1 f0 f1 z hgrow hownx hlt2 nb nr hw1 hzz
      obtain ⟨z, c0, c1, f0, f1⟩ := id hb4
      go_wp2
      have hnew := hb4.set1 (.slice a2 (Mx + 1) cap2)
      have hs2 := cellSh0_of hnew.c0
      have hr2 : (r * 256).toNat = e'.R * 256 := by rw [HR.out]; omega
      have hr1 : r.toNat = e'.R := by rw [HR.out]; omega
      go_roundw
      case rel => exact ⟨e'.step, a2, cap2, Mx + 1, r * 256, HMs, HNs, by unfold Hid; rw [HR.out]; show _ = ((e'.R * 256 : Nat) : Int); omega, by unfold Hid; show e'.m + 1 + 4 = _; have := HMx.out; omega, hnew, hr4.other _ _ _ (by omega), owns_off hown' _ _ nb2 _, bset1 hbw2 _ _ _ (by omega)⟩
      case measure => rw [hs1, hs2, hr2, hr1, HSh.out]; omega
    · have hFe : Hid (e' = F) := by
        unfold Hid
        rw [← HN.out, En.norm_done _ (by have := HR.out; omega)]
      obtain ⟨rz, r0, r1, p0, p1⟩ := id hr3
      go_wp2
      refine bodyPost_ret (v := .tuple #[.agg #[.int .u64 r, .slice a' Mx cap'], .int .i64 0]) (by simp [results, Try.results31, go_sem, c0, c1, r0, r1, p0, p1]) rfl ⟨r, a', Mx, cap', rfl, ⟨HPok.out, ?_, ?_, ?_⟩, ?_⟩
      · rw [← hFe.out]; exact HR.out
      · rw [← hFe.out]; exact HMx.out.symm
      · rw [← hFe.out]
        exact Rw.of_owns (owns_other (owns_other hownx _ _ _ (by omega)) _ _ _ (by omega))
      · exact bset2' hbr _ _ _ (by omega)
end Go.Proofs.Ytkfpphccpkfenaa
