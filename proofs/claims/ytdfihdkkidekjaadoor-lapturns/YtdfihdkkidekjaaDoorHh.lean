/- Contract: the program's Frames. -/
import Derived.Test.YtdfihdkkidekjaaDoorHg
import Derived.Laws.CopyOwn
namespace Go.Proofs.YtdfihdkkidekjaaDoor
open Go.RowKit
set_option linter.unusedVariables false
set_option linter.unusedSimpArgs false

/-- Rows that the call lays into a block that it made, one behind the other. -/
structure Fg (w : World) (G c : Nat) (L : Nat → List Int) (i : Nat) : Prop where
  cells : ∃ cur : Array Value, w.heap[G]? = some (.cells cur 22 (0, 0)) ∧ cur.size = c
  rows : ∀ j, j < i → ∃ r, w.cell? ⟨G, j, none⟩ = some r ∧ Rx true (some G) w r (L j)
theorem Fg.lt {w : World} {G c i : Nat} {L : Nat → List Int} (h : Fg w G c L i) : G < w.heap.size := by
  obtain ⟨cur, h, _⟩ := h.cells
  exact block_in h
theorem Fg.cell {w : World} {G c i : Nat} {L : Nat → List Int} (h : Fg w G c L i) (j : Nat) (hj : j < c) : ∃ r, w.cell? ⟨G, j, none⟩ = some r ∧ w.frozen? ⟨G, j, none⟩ = false := by
  obtain ⟨cur, h, hc⟩ := h.cells
  refine ⟨cur[j]'(by omega), ?_, ?_⟩
  · simp [World.cell?, h, hc, hj]
  · simp [World.frozen?, h]
theorem Fg.below {w w' : World} {G c i : Nat} {L : Nat → List Int} (h : Fg w G c L i) (hb : Below w.heap.size w w') : Fg w' G c L i := by
  have hlt := h.lt
  obtain ⟨⟨cur, h1, h2⟩, h3⟩ := h
  refine ⟨⟨cur, (hb.block _ hlt).trans h1, h2⟩, fun j hj => ?_⟩
  obtain ⟨r, e1, e2⟩ := h3 j hj
  exact ⟨r, ((bcell hb).1 _ _ hlt).trans e1, e2.below hb⟩
theorem Fg.put {w : World} {G c i : Nat} {L : Nat → List Int} {r : Value} (h : Fg w G c L i) (hi : i < c) (hr : Rx true (some G) w r (L i)) : Fg (w.setCell ⟨G, i, none⟩ r) G c L (i + 1) := by
  obtain ⟨⟨cur, h1, h2⟩, h3⟩ := h
  refine ⟨⟨cur.setIfInBounds i r, ?_, by simp [h2]⟩, fun j hj => ?_⟩
  · simp [World.setCell, Array.getElem?_modify, h1]
  · by_cases e : j = i
    · subst e
      refine ⟨r, ?_, hr.set _ _⟩
      simp [World.cell?, World.setCell, Array.getElem?_modify, h1, h2, hi]
    · obtain ⟨r2, e1, e2⟩ := h3 j (by omega)
      refine ⟨r2, ?_, e2.set _ _⟩
      simp [World.cell?, h1] at e1
      simp [World.cell?, World.setCell, Array.getElem?_modify, h1, Array.getElem?_setIfInBounds, Ne.symm e]
      exact e1
theorem Fg.fr {w : World} {G c cc : Nat} {L : Nat → List Int} (h : Fg w G c L c) : Fr true w (.slice (some ⟨G, 0, none⟩) c cc) ((List.range c).map L) := by
  refine ⟨_, cc, by simp, .inr ⟨G, 0, rfl, h.lt, fun j hj => ?_⟩⟩
  have hj : j < c := by simpa using hj
  obtain ⟨r, e1, e2⟩ := h.rows j hj
  refine ⟨r, by rw [Nat.zero_add]; exact e1, ?_⟩
  have := e2.any
  simpa [List.getD_eq_getElem?_getD, hj] using this
theorem Fg.made {w : World} {G c base : Nat} {L : Nat → List Int} (h : w.ownsRow base 22 1 (.slice (some ⟨G, 0, none⟩) c c) c (madeCells #[.slice none 0 0] c).toList) : Fg w G c L 0 := by
  obtain ⟨h1, _, _⟩ := owns_full h
  refine ⟨⟨_, h1, ?_⟩, fun j hj => by omega⟩
  rw [made_one]
  simp
theorem splice_full (x : List Int) (N : Nat) (h : x.length ≤ N) : splice (List.replicate N (Value.int .i64 0)) 0 (x.map (Value.int .i64)) = (fulN x N).map (Value.int .i64) := by
  unfold splice fulN
  simp

theorem lframes_no (a : Option Addr) (cap : Nat) (x : List Int) (n : Int) (w : World) (hv : Rw .i64 w (.slice a x.length cap) x) (hf : Fits x) (hn : x.length ≤ 200) (h : (okB 262144 x && isSz n) = false) :
    Calls Tryd.prog 20 #[.slice a x.length cap, .int .i64 n] w fun e w' => e = .returned (.tuple #[.slice none 0 0, .int .i64 1]) ∧ w' = w := by
  have hr := fun w hv => lright_any (.slice a x.length cap) x w hv hf hn
  have hb := fun w => isSize_any n w
  cases h1 : okB 262144 x
  · rw [h1] at hr
    clear h h1 hb
    go_enter Tryd.func20, Tryd.ntmps20
    go_wp2_with (go_at_call 14; refine (hr _ hv).mono ?_; rintro e w9 ⟨rfl, h9⟩; have h9 := h9.symm; subst h9)
    go_ret2
    exact ⟨rfl, rfl⟩
  · rw [h1] at hr h
    rw [show isSz n = false from h] at hb
    clear h h1
    go_enter Tryd.func20, Tryd.ntmps20
    go_wp2_with (first | (go_at_call 14; refine (hr _ hv).mono ?_; rintro e w9 ⟨rfl, h9⟩; have h9 := h9.symm; subst h9) | (go_at_call 34; refine (hb _).mono ?_; rintro e w8 ⟨rfl, h8⟩; have h8 := h8.symm; subst h8))
    go_ret2
    exact ⟨rfl, rfl⟩
set_option maxRecDepth 10000 in
set_option maxHeartbeats 4000000 in
theorem lframes_ok (a : Option Addr) (cap s K : Nat) (x : List Int) (w : World) (hw : Wt w) (hv : Rw .i64 w (.slice a x.length cap) x) (hf : Fits x) (hS : Sz s K) (hn : x.length ≤ 200) (hb : Bd (-262144) 262144 x) :
    Calls Tryd.prog 20 #[.slice a x.length cap, .int .i64 s] w fun e w' => ∃ v, e = .returned (.tuple #[v, .int .i64 0]) ∧ Fr true w' v (frames s K x) ∧ Below w.heap.size w w' := by
  obtain ⟨i0, hi, hz0, hz1, hz2⟩ := info_parts info_i64
  obtain ⟨i1, hi1, hy0, hy1, hy2⟩ := info_parts (show (Tryd.prog.info? 22).map (fun i => (i.zero, i.size, i.bytes)) = some (some (.slice none 0 0), 1, 24) by kernel_rfl)
  obtain ⟨q1, q2, _, _, q5⟩ := cnt_parts hS x.length
  have hr := fun w hv => lright_any (.slice a x.length cap) x w hv hf hn
  rw [okB_of hb] at hr
  have hsz := fun w => isSize_any s w
  rw [isSz_of hS] at hsz
  have s0 : 8 ≤ s := hS.le.1
  have s1 : s ≤ 32 := hS.le.2.1
  have HFL := hid (full_len hS x)
  have HFB := hid (full_bd (s := s) (by omega) hb)
  have HAL := hid (all_len hS x)
  have HAB := hid ((all_bd hS (by omega) hb).mono (lo' := -16777216) (hi' := 16777216) (by omega) (by omega))
  have HPW := hid hS.pow
  have HK5 := hid hS.le.2.2
  have HALL : Hid (all s x = tnN s (cnt s x.length - 1) (full s x)) := rfl
  have HFM : Hid (∀ i, frm s K x i = fw K (blk s (all s x) i)) := fun _ => rfl
  have HFRM : Hid (frames s K x = (List.range (cnt s x.length)).map (frm s K x)) := rfl
  have HFUL := hid (full_fulN s x)
  have HSPL := hid (splice_full x)
  have HCNT : Hid ((x.length + s - 1) / s = cnt s x.length) := rfl
  have HW := hid hw
  have hv0 := hv
  obtain ⟨n, hxn⟩ : ∃ n, x.length = n := ⟨_, rfl⟩
  have HX := hid hxn
  rw [hxn] at q1 q2 q5 hn hv hr HFL HAL HALL HFRM HCNT HFUL HSPL ⊢
  obtain ⟨c, hc⟩ : ∃ c, cnt s n = c := ⟨_, rfl⟩
  rw [hc] at q1 q2 q5 HFL HAL HALL HFRM HCNT HFUL
  obtain ⟨N, hN⟩ : ∃ N, c * s = N := ⟨_, rfl⟩
  have HNN : Hid (c * s = N) := hN
  rw [hN] at q1 q2 HFL HAL HFUL
  have t1 : ((n : Int) + (s : Int) - 1).tdiv (s : Int) = (c : Int) := by
    rw [← HCNT.out, show (n : Int) + (s : Int) - 1 = ((n + s - 1 : Nat) : Int) by omega]
    rfl
  have t2 : (c : Int) * (s : Int) = (N : Int) := by rw [← hN]; simp
  have t3 : ((s : Int) == 0) = false := by simp; omega
  have HVV := hid hv
  generalize full s x = fx at *
  generalize all s x = ax at *
  generalize frm s K x = fr at *
  generalize frames s K x = FS at *
  clear hc hN hxn hb hw hv0 hf
  go_enter Tryd.func20, Tryd.ntmps20
  go_wp2_with (first | (go_at_call 14; refine (hr _ hv).mono ?_; rintro e w9 ⟨rfl, h9⟩; have h9 := h9.symm; subst h9) | (go_at_call 34; refine (hsz _).mono ?_; rintro e w8 ⟨rfl, h8⟩; have h8 := h8.symm; subst h8) | (at_make; refine wpList_make_full _ rfl _ _ 22 rfl w.heap.size 2 i0 (.int .i64 0) 1 Tryd.underlying22 hi hz0 hz1 .i64 .i64 _ _ N rfl rfl (by omega) (by omega) (by rw [hz2]; omega) (by unfold maxLen; omega) (by simp) ?_))
  intro w5 hown5 hgrow5
  have hb5 := grown_of_none hgrow5
  have HB5 := hid hb5
  have hv5 := HVV.out.below hb5
  have hfull := owns_full hown5
  rw [made_one] at hfull
  have hfull1 := hfull.1
  clear hown5 hgrow5 hfull hr hsz hv
  go_wp2_with (refine wpList_copy_splice rfl (.tmp 30) (.tmp 31) 22 22 rfl 2 Tryd.underlying22 (by kernel_rfl) _ _ _ _ _ _ rfl rfl w.heap.size 0 (List.replicate N (.int .i64 0)) 2 hfull1 (x.map (Value.int .i64)) ?c1 ?c2 ?c3 ?c4 w.heap.size w5 (Below.refl _ _) (Nat.le_refl _) ?_)
  case c1 => simp only [List.length_map]; rw [HX.out]; exact (Nat.min_eq_left q1).symm
  case c2 =>
    intro hpos
    obtain ⟨a', cap', he, ha⟩ := hv5
    simp only [Value.slice.injEq] at he
    obtain ⟨rfl, _, rfl⟩ := he
    obtain ⟨b, off, rfl, hb, hc⟩ := ha.resolve_left (by intro h; subst h; simp at hpos)
    refine ⟨_, rfl, fun j y hj => ?_⟩
    have hjl : j < x.length := by
      have := (List.getElem?_eq_some_iff.1 hj).1
      simpa using this
    rw [Addr.add_lit, hc j hjl, show x.getD j 0 = y by simp [List.getD_eq_getElem?_getD, hj]]
  case c3 => simp; rw [HX.out]; exact q1
  case c4 => exact ints_oneCell _ _
  intro w6 HG6 hb6
  have HB6 := hid (HB5.out.trans hb6)
  have HH : Hid (Hl .i64 2 w6 w.heap.size fx) := by
    refine Hl.of_blk ?_
    unfold Blk
    rw [← HFUL.out, ← HSPL.out N q1]
    exact HG6.out
  have hg0 : w.heap.size ≠ 0 := by have := HW.out.lt; omega
  clear hb5 hb6 HG6 hv5 hfull1 HB5
  go_wp2
  go_loopw [8] (fun p wr => ∃ (j P : Nat), P = (j + 1) * s ∧ p = .int .i64 P ∧ (j = 0 ∨ j + 1 ≤ c) ∧ Hl .i64 2 wr w.heap.size (tnN s j fx) ∧ Below w.heap.size w wr) (fun p _ => N - (intOf p).toNat)
  case atStart => exact ⟨0, s, by omega, rfl, .inl rfl, HH.out, HB6.out⟩
  case round =>
    obtain ⟨j, P, hP, rfl, hj, hhl, hbr⟩ := hrel
    have HP := hid hP
    have HR := hid hhl
    have HBR := hid hbr
    have HJ := hid hj
    clear hP hhl hbr hj HH HB6
    by_cases hl : P < N
    · have hjc : j + 1 < c := by
        have h1 := hl
        rw [HP.out, ← HNN.out] at h1
        exact (Nat.mul_lt_mul_right (by omega)).1 h1
      have hle : P + s ≤ N := by rw [HP.out, ← HNN.out]; exact mul_next hjc
      have hlen : (tnN s j fx).length = N := by rw [tnN_len]; exact HFL.out
      have hbd := (tnN_bd s s0 262144 (by omega) fx HFB.out j (by
        rcases HJ.out with h | h
        · exact .inl h
        · have h2 := HP.out; rw [mul_s] at h2; exact .inr (by rw [HFL.out]; omega))).2
      have hP2 : P = j * s + s := by rw [HP.out, mul_s]
      have hIN : In (tnN s j fx) (P - 4) (P + 4) 4294967296 := hbd.mono (by omega) (by rw [HFL.out]; omega) (by omega)
      have hrt := turn_any w.heap.size N N P (tnN s j fx) wr (HW.out.below HBR.out) hg0 HR.out hlen (by omega) (by omega) (by omega) hIN
      have hst : Hid (tnL P (tnN s j fx) = tnN s (j + 1) fx) := by unfold Hid; rw [HP.out]; rfl
      rw [hst.out] at hrt
      clear hlen hbd hIN hP2
      go_wp2_with (go_at_call 30; refine hrt.mono ?_; rintro e w2 ⟨rfl, hh2, hgr2⟩; have HH2 := hid hh2; have HB2 := hid (below_grown HBR.out hgr2 (Nat.le_refl _)); clear hh2 hgr2)
      exact ⟨⟨j + 1, P + s, by rw [mul_s (j + 1) s, HP.out], by go_num, .inr (by omega), HH2.out, HB2.out⟩, by simp [intOf]; omega⟩
    · have hax : Hid (ax = tnN s j fx) := by
        unfold Hid
        have h1 := mul_over (j := j) (c := c) (s := s) (by omega) (by rw [← HP.out, HNN.out]; exact hl)
        rw [HALL.out, show c - 1 = j by rcases HJ.out with h | h <;> omega]
      rw [← hax.out] at HR
      have HRW : Hid (Rw .i64 wr (.slice (some ⟨w.heap.size, 0, none⟩) N N) ax) := HR.out.rw HAL.out
      have hglt := HR.out.lt
      obtain ⟨W, hW⟩ : ∃ W, W = wr := ⟨_, rfl⟩
      rw [← hW] at HRW HBR hglt ⊢
      have zB := HBR.out.size
      clear hW hax HALL HJ HP HR
      go_wp2_with (at_make; refine wpList_make_full _ rfl _ _ 32 rfl W.heap.size 22 i1 (.slice none 0 0) 1 Tryd.underlying32 hi1 hy0 hy1 .i64 .i64 _ _ c rfl rfl (by omega) (by omega) (by rw [hy2]; omega) (by unfold maxLen; omega) (by simp) ?_)
      intro w7 hown7 hgrow7
      have hb7 := grown_of_none hgrow7
      have HF0 : Hid (Fg w7 W.heap.size c fr 0) := Fg.made hown7
      have HB7 := hid hb7
      clear hown7 hgrow7 hb7
      go_wp2
      go_loopw [48] (fun p wr => ∃ i : Nat, i ≤ c ∧ p = .int .i64 i ∧ Fg wr W.heap.size c fr i ∧ Below W.heap.size W wr) (fun p _ => c - (intOf p).toNat)
      case atStart => exact ⟨0, by omega, rfl, HF0.out, HB7.out⟩
      case round =>
        obtain ⟨i, hi2, rfl, hfg, hbw⟩ := hrel
        have HFG := hid hfg
        have HBW := hid hbw
        clear hfg hbw HF0 HB7
        by_cases hl : i < c
        · obtain ⟨P, hP⟩ : ∃ P : Nat, P = i * s := ⟨_, rfl⟩
          obtain ⟨Q, hQ⟩ : ∃ Q : Nat, Q = P + s := ⟨_, rfl⟩
          have hQ2 : Q = (i + 1) * s := by rw [mul_s, hQ, hP]
          have hQN : Q ≤ N := by rw [hQ2, ← HNN.out]; exact room hl
          have z1 : (i : Int) * (s : Int) = (P : Int) := by rw [hP]; simp
          have z2 : ((i : Int) + 1) * (s : Int) = (Q : Int) := by rw [hQ2]; simp
          have z3 : Q - P = s := by omega
          have hlb : (blk s ax i).length = s := blk_len _ _ _ (by rw [HAL.out, ← hQ2]; exact hQN)
          have hrwp : ∀ c', Rw .i64 wr (.slice (some ⟨w.heap.size, P, none⟩) s c') (blk s ax i) := fun c' => by
            have := rw_part (HRW.out.below HBW.out) s i P c' hP (by rw [HAL.out, ← hQ2]; exact hQN) (by omega)
            rw [Nat.zero_add] at this
            exact this
          have hbb := blk_bd (s := s) HAB.out i
          have hfw : ∀ c', Calls Tryd.prog 35 #[.slice (some ⟨w.heap.size, P, none⟩) s c'] wr fun e w' => ∃ g : Nat, e = .returned (.tuple #[.slice (some ⟨g, 0, none⟩) s s, .int .i64 0]) ∧ wr.heap.size ≤ g ∧ Blk .i64 2 w' g (fr i) ∧ Below wr.heap.size wr w' := fun c' => by
            have h := forward_ok (.slice (some ⟨w.heap.size, P, none⟩) s c') (blk s ax i) (K - 1) wr (hrwp c') (by have := HK5.out; omega) (by rw [hlb, show K - 1 + 1 = K by have := HK5.out; omega]; exact HPW.out.symm) hbb (fits_bd hbb (by omega) (by omega))
            rw [hlb, show K - 1 + 1 = K by have := HK5.out; omega, ← HFM.out] at h
            exact h
          have hfl : Hid ((fr i).length = s) := by
            unfold Hid
            rw [HFM.out, fw_len K _ (by rw [hlb]; exact HPW.out.symm)]
            exact HPW.out
          have HIC : Hid (i < c) := hl
          have p1 : P ≤ Q := by omega
          have p2 : P < N := by omega
          have zW := HBW.out.size
          clear hlb hrwp hbb hP hQ2 hQ
          go_wp2_with (first | (go_at_call 35; refine (hfw _).mono ?_; rintro e w2 ⟨g2, rfl, hg2, hbk2, hb2⟩; have hfg2 := HFG.out.below hb2; obtain ⟨r2, hc2, hf2⟩ := hfg2.cell i HIC.out; have HFG2 := hid hfg2; have HBK2 := hid hbk2; have HB2 := hid hb2; clear hfg2 hbk2 hb2))
          have HF3 := hid (HFG2.out.put HIC.out (Rx.of_blk HBK2.out hfl.out (Nat.le_refl _) (fun e => by have e2 := Option.some.inj e; have e3 := HFG.out.lt; omega)))
          have HB3 := hid (bset1 (bthen' HBW.out HB2.out) W.heap.size i (.slice (some ⟨g2, 0, none⟩) s s) (Nat.le_refl _))
          exact ⟨⟨i + 1, by omega, by go_num, HF3.out, HB3.out⟩, by simp [intOf]; omega⟩
        · have hie : i = c := by omega
          have R : Hid (Fr true wr (.slice (some ⟨W.heap.size, 0, none⟩) c c) FS) := by
            have h := HFG.out
            rw [hie] at h
            unfold Hid
            rw [HFRM.out]
            exact h.fr
          have HB := hid (bthen' HBR.out HBW.out)
          clear hie HFG
          go_wp2
          go_ret2
          exact ⟨_, rfl, R.out, HB.out⟩
end Go.Proofs.YtdfihdkkidekjaaDoor
