/- Contract of the document's Search. -/
import Derived.Test.YtiiiejhdeooabaaFe
namespace Go.Proofs.Ytiiiejhdeooabaa
open Go.RowKit
set_option linter.unusedVariables false
set_option linter.unusedSimpArgs false

theorem hid {p : Prop} (h : p) : Hid p := h
theorem bs_step (a y : List Int) (n j : Nat) (h : 1 ≤ j) : bs a y n (j + 1 - 1) = if bt a y n j (bs a y n (j - 1)) then j else bs a y n (j - 1) := by
  obtain ⟨i, rfl⟩ : ∃ i, j = i + 1 := ⟨j - 1, by omega⟩
  rfl
theorem Rw.setoff {k : IntKind} {w : World} {g n cap b : Nat} {xs : List Int} (h : Rw k w (.slice (some ⟨g, 0, none⟩) n cap) xs) (hne : g ≠ b) (o : Nat) (y : Value) : Rw k (w.setCell ⟨b, o, none⟩ y) (.slice (some ⟨g, 0, none⟩) n cap) xs :=
  h.off (fun b' off e => by simp only [Option.some.injEq, Addr.mk.injEq] at e; obtain ⟨rfl, _⟩ := e; exact hne) o y
/-- Signs, up to place j. -/
def sgnTo (x y : List Int) (j i : Nat) : Int := if i < j then sgn x y i else y.getD i 0
theorem sgnTo_neg (x y : List Int) (n j : Nat) (hj : j < n) (h : x.getD j 0 < 0) : (tab n (sgnTo x y j)).set j (-(y.getD j 0)) = tab n (sgnTo x y (j + 1)) := by
  rw [tab_set _ _ _ _ hj]
  refine tab_congr fun i hi => ?_
  unfold sgnTo
  by_cases e : i = j
  · subst e; rw [if_pos rfl, if_pos (by omega)]; unfold sgn; rw [if_pos h]
  · rw [if_neg e]
    by_cases e2 : i < j
    · rw [if_pos e2, if_pos (by omega)]
    · rw [if_neg e2, if_neg (by omega)]
theorem sgnTo_pos (x y : List Int) (n j : Nat) (hj : j < n) (h : ¬ x.getD j 0 < 0) : tab n (sgnTo x y j) = tab n (sgnTo x y (j + 1)) := by
  refine tab_congr fun i hi => ?_
  unfold sgnTo
  by_cases e : i = j
  · subst e; rw [if_neg (by omega), if_pos (by omega)]; unfold sgn; rw [if_neg h]
  · by_cases e2 : i < j
    · rw [if_pos e2, if_pos (by omega)]
    · rw [if_neg e2, if_neg (by omega)]

set_option maxHeartbeats 4000000 in
theorem rsearch_any (v : Value) (x : List Int) (k : Nat) (w : World) (hv : Rw .i64 w v x) (h : fairX x = true) (hk : k ≤ 12) : Calls Try.prog 15 #[v, .int .i64 k] w fun e w' => ∃ g : Nat, e = .returned (.slice (some ⟨g, 0, none⟩) x.length x.length) ∧ w.heap.size ≤ g ∧ Blk .i64 3 w' g (fnd x k) ∧ Below w.heap.size w w' := by
  obtain ⟨i0, hi, hz0, hz1, hz2⟩ := info_parts info_int
  obtain ⟨h1, h2, h3⟩ := fairX_parts h
  have hsz := fun w hv => rsizes_any v x w hv h
  have HS : Hid (∀ m, St (szs x) (itr (szs x) x.length m) x.length m) := fun m => St.of h m
  have hv0 := hv
  obtain ⟨a, cap, rfl, ha⟩ := hv
  obtain ⟨b, off, rfl, hlt, hc⟩ := ha.resolve_left (by intro h; subst h; simp at h1)
  clear ha
  have HC : Hid (∀ i, i < x.length → w.cell? ⟨b, off + i, none⟩ = some (.int .i64 (x.getD i 0))) := hc
  clear hc h3 h
  have i1 : (x.length : Int) ≤ 16 := by omega
  have i2 : (1 : Int) ≤ x.length := by omega
  obtain ⟨A, hA⟩ : ∃ A, szs x = A := ⟨_, rfl⟩
  rw [hA] at hsz HS
  have HF : Hid (fnd x k = tab x.length (sgn x (itr A x.length k))) := by unfold Hid fnd; rw [hA]
  clear hA
  go_enter Try.func15, Try.ntmps15
  go_wp2_with (first | (go_at_call 28; refine (hsz _ hv0).mono ?_; rintro e w1 ⟨g1, c1, rfl, hg1, hg2, hrow1, hb1⟩; have HR1 := hid hrow1; clear hrow1) | (at_make; refine wpList_make_full _ rfl _ _ 30 rfl w1.heap.size 3 i0 (.int .i64 0) 1 Try.underlying30 hi hz0 hz1 .i64 .i64 _ _ x.length rfl rfl (by omega) (by omega) (by rw [hz2]; omega) (by unfold maxLen; omega) (by simp) ?_))
  intro w5 hown5 hgrow5
  have hb5 := grown_of_none hgrow5
  have HB5 : Hid (Blk .i64 3 w5 w1.heap.size (itr A x.length 0)) := Blk.made hown5
  have HR5 := hid (HR1.out.below hb5)
  have hB5 := bthen' hb1 hb5
  have hws := hb1.size
  clear hown5 hgrow5 hsz HR1 hb5
  go_wp2
  go_loopw [7] (fun c wr => ∃ m : Nat, m ≤ k ∧ c = .int .i64 m ∧ Hid (Blk .i64 3 wr w1.heap.size (itr A x.length m)) ∧ Hid (Rw .i64 wr (.slice (some ⟨g1, 0, none⟩) x.length c1) A) ∧ Below w.heap.size w wr) (fun c _ => k - (intOf c).toNat)
  case atStart => exact ⟨0, by omega, rfl, HB5, HR5, hB5⟩
  case round =>
    clear HB5 HR5 hB5
    obtain ⟨m, hm, rfl, HB, HR, hbr⟩ := hrel
    by_cases hl : m < k
    · have hS := HS.out m
      have HNX : Hid (itr A x.length (m + 1) = inc (itr A x.length m) (bs A (itr A x.length m) x.length (x.length - 1))) := rfl
      generalize hY : itr A x.length m = Y at *
      have hly := hS.ly
      have hT := fun (i : Nat) (hi : i < x.length) => tried_any (.slice (some ⟨g1, 0, none⟩) x.length c1) (.slice (some ⟨w1.heap.size, 0, none⟩) x.length x.length) A Y x.length m i wr HR.out (HB.out.rw hly) hS (by omega) hi h2
      have HT := hid (hT)
      have HSt := hid (hS)
      have HLY := hid (hly)
      clear hT hS hY hly
      go_wp2
      go_loop [8, 9] (fun p c => ∃ j q : Nat, 1 ≤ j ∧ j ≤ x.length ∧ q < x.length ∧ c = .int .i64 j ∧ p = .int .i64 q ∧ Hid (q = bs A Y x.length (j - 1))) (fun _ c => x.length - (intOf c).toNat)
      case atStart => exact ⟨1, 0, by omega, by omega, by omega, rfl, rfl, rfl⟩
      case round =>
        obtain ⟨j, q, hj1, hj, hq, rfl, rfl, HQ⟩ := hrel
        by_cases hl2 : j < x.length
        · have t1 := HT.out j hl2
          have t2 := HT.out q hq
          obtain ⟨s1, s2, s3, s4⟩ := HSt.out.scores (by omega) j q hl2 hq
          obtain ⟨s5, s6, s7, s8⟩ := HSt.out.scores (by omega) q j hq hl2
          have HBS := hid (bs_step A Y x.length j hj1)
          rw [← HQ.out] at HBS
          by_cases hbt : bt A Y x.length j q
          · rw [if_pos hbt] at HBS
            unfold bt at hbt
            generalize dI A Y x.length j = d1 at *
            generalize dI A Y x.length q = d2 at *
            generalize nI Y x.length j = n1 at *
            generalize nI Y x.length q = n2 at *
            obtain ⟨e1, he1⟩ : ∃ e, d1 * d1 = e := ⟨_, rfl⟩
            obtain ⟨e2, he2⟩ : ∃ e, d2 * d2 = e := ⟨_, rfl⟩
            rw [he1] at s1 s2 s3 s4 hbt
            rw [he2] at s5 s6 s7 s8 hbt
            obtain ⟨f1, hf1⟩ : ∃ e, e1 * n2 = e := ⟨_, rfl⟩
            obtain ⟨f2, hf2⟩ : ∃ e, e2 * n1 = e := ⟨_, rfl⟩
            rw [hf1] at s3 s4 hbt
            rw [hf2] at s7 s8 hbt
            clear HT HSt HB HR HNX
            go_wp2_with (first | (go_at_call_of 29 (Value.int .i64 (j : Int)); refine t1.mono ?_; rintro e w9 ⟨rfl, h9⟩; have h9 := h9.symm; subst h9) | (go_at_call_of 29 (Value.int .i64 (q : Int)); refine t2.mono ?_; rintro e w9 ⟨rfl, h9⟩; have h9 := h9.symm; subst h9))
            exact ⟨⟨j + 1, j, by omega, by omega, by omega, by go_num, rfl, HBS.out.symm⟩, by simp [intOf]; omega⟩
          · rw [if_neg hbt] at HBS
            unfold bt at hbt
            generalize dI A Y x.length j = d1 at *
            generalize dI A Y x.length q = d2 at *
            generalize nI Y x.length j = n1 at *
            generalize nI Y x.length q = n2 at *
            obtain ⟨e1, he1⟩ : ∃ e, d1 * d1 = e := ⟨_, rfl⟩
            obtain ⟨e2, he2⟩ : ∃ e, d2 * d2 = e := ⟨_, rfl⟩
            rw [he1] at s1 s2 s3 s4 hbt
            rw [he2] at s5 s6 s7 s8 hbt
            obtain ⟨f1, hf1⟩ : ∃ e, e1 * n2 = e := ⟨_, rfl⟩
            obtain ⟨f2, hf2⟩ : ∃ e, e2 * n1 = e := ⟨_, rfl⟩
            rw [hf1] at s3 s4 hbt
            rw [hf2] at s7 s8 hbt
            clear HT HSt HB HR HNX
            go_wp2_with (first | (go_at_call_of 29 (Value.int .i64 (j : Int)); refine t1.mono ?_; rintro e w9 ⟨rfl, h9⟩; have h9 := h9.symm; subst h9) | (go_at_call_of 29 (Value.int .i64 (q : Int)); refine t2.mono ?_; rintro e w9 ⟨rfl, h9⟩; have h9 := h9.symm; subst h9))
            exact ⟨⟨j + 1, q, by omega, by omega, by omega, by go_num, rfl, HBS.out.symm⟩, by simp [intOf]; omega⟩
        · have hje : j = x.length := by omega
          have HI : Hid (itr A x.length (m + 1) = Y.set q (Y.getD q 0 + 1)) := by
            unfold Hid; rw [HNX.out, show x.length - 1 = j - 1 by omega, ← HQ.out]; rfl
          have c1 := HB.out.cell q (by rw [HLY.out]; exact hq)
          have c2 := HB.out.free q (by rw [HLY.out]; exact hq)
          have R := hid (HB.out.set q (Y.getD q 0 + 1))
          rw [← HI.out] at R
          have R2 := hid (HR.out.setoff (show g1 ≠ w1.heap.size by omega) q (.int .i64 (Y.getD q 0 + 1)))
          obtain ⟨_, _, _, _, y1, y2, _⟩ := HSt.out.small (by omega) q hq
          generalize Y.getD q 0 = u at *
          clear hje HT HSt HB HR HNX HI HQ
          go_wp2
          exact ⟨⟨m + 1, by omega, by go_num, R, R2, hbr.setCell (p := ⟨w1.heap.size, q, none⟩) hws _⟩, by simp [intOf]; omega⟩
    · have hme : m = k := by omega
      rw [hme] at HB
      have HST : Hid (St A (itr A x.length k) x.length k) := HS.out k
      generalize itr A x.length k = Y at *
      have HB0 : Hid (Blk .i64 3 wr w1.heap.size (tab x.length (sgnTo x Y 0))) := by
        unfold Hid
        rw [show tab x.length (sgnTo x Y 0) = Y from (tab_eq HST.out.ly fun i _ => by unfold sgnTo; rw [if_neg (by omega)]).symm]
        exact HB.out
      clear hme HB HR HS
      obtain ⟨W1, rfl⟩ : ∃ x, x = wr := ⟨wr, rfl⟩
      go_wp2
      go_loopw [14] (fun c wr => ∃ j : Nat, j ≤ x.length ∧ c = .int .i64 j ∧ Hid (Blk .i64 3 wr w1.heap.size (tab x.length (sgnTo x Y j))) ∧ Below w.heap.size w wr) (fun c _ => x.length - (intOf c).toNat)
      case atStart => exact ⟨0, by omega, rfl, HB0, hbr⟩
      case round =>
        clear HB0 hbr
        obtain ⟨j, hj, rfl, HB, hbr⟩ := hrel
        by_cases hl2 : j < x.length
        · have g := (hbr.cell (p := ⟨b, off + j, none⟩) hlt).trans (HC.out j hl2)
          have c1 := HB.out.cell j (by rw [tab_len]; exact hl2)
          have c2 := HB.out.free j (by rw [tab_len]; exact hl2)
          rw [tab_at _ _ _ hl2] at c1
          unfold sgnTo at c1
          rw [if_neg (by omega)] at c1
          by_cases hn : x.getD j 0 < 0
          · have R := hid (HB.out.set j (-(Y.getD j 0)))
            rw [sgnTo_neg x Y x.length j hl2 hn] at R
            have y1 := HST.out.hy j
            have y2 := sms_at HST.out.hy j x.length hl2
            rw [HST.out.hs] at y2
            have y3 : Y.getD j 0 ≤ 12 := by omega
            generalize Y.getD j 0 = u at *
            generalize x.getD j 0 = z at *
            clear HB y2
            go_wp2
            exact ⟨⟨j + 1, by omega, by go_num, R, hbr.setCell (p := ⟨w1.heap.size, j, none⟩) hws _⟩, by simp [intOf]; omega⟩
          · have R : Hid (Blk .i64 3 wr w1.heap.size (tab x.length (sgnTo x Y (j + 1)))) := by unfold Hid; rw [← sgnTo_pos x Y x.length j hl2 hn]; exact HB.out
            generalize Y.getD j 0 = u at *
            generalize x.getD j 0 = z at *
            clear HB
            go_wp2
            exact ⟨⟨j + 1, by omega, by go_num, R, hbr⟩, by simp [intOf]; omega⟩
        · have R : Hid (Blk .i64 3 wr w1.heap.size (fnd x k)) := by
            unfold Hid
            rw [HF.out, show tab x.length (sgn x Y) = tab x.length (sgnTo x Y j) from tab_congr fun i hi => by unfold sgnTo; rw [if_pos (by omega)]]
            exact HB.out
          clear HB
          go_wp2
          go_ret
          exact ⟨w1.heap.size, rfl, hws, R.out, hbr⟩
end Go.Proofs.Ytiiiejhdeooabaa
