/- Contract: the document's Forward. -/
import Derived.Test.YtdfihdkkidekjaaDoorGd
import Derived.Deep.AppendLies
import Derived.ChangeSlices
namespace Go.Proofs.YtdfihdkkidekjaaDoor
open Go.RowKit
set_option linter.unusedVariables false
set_option linter.unusedSimpArgs false

theorem shiftR1 (d : Int) (w : World) (h : I64 d) : Calls Tryd.prog 41 #[.int .i64 d, .int .i64 1] w fun e w' => e = .returned (.int .i64 (d / 2)) ∧ w' = w := by
  have hs := shiftR_any d 1 h (by omega) w
  have hp : d / 2 ^ 1 = d / 2 := by simp
  rw [hp] at hs
  exact hs
def slen : Value → Nat
  | .slice _ n _ => n
  | _ => 0
theorem mns_push (j : Nat) (x : List Int) : mns (j + 1) x = mns j x ++ [x.getD (2 * j) 0 + (x.getD (2 * j + 1) 0 - x.getD (2 * j) 0) / 2] := tab_push _ _
theorem dfs_push (j : Nat) (x : List Int) : dfs (j + 1) x = dfs j x ++ [x.getD (2 * j + 1) 0 - x.getD (2 * j) 0] := tab_push _ _
/-- Two rows that grow side by side. -/
structure Two (W wr : World) (vm vd : Value) (jm jd : Nat) (ms ds : List Int) : Prop where
  m : wr.ownsRow W.heap.size 2 1 vm jm (ms.map (Value.int .i64))
  d : wr.ownsRow W.heap.size 2 1 vd jd (ds.map (Value.int .i64))
  ne : vm.ownBlock = none ∨ vm.ownBlock ≠ vd.ownBlock
  b : Below W.heap.size W wr
theorem Two.below {W wr w' : World} {vm vd : Value} {jm jd : Nat} {ms ds : List Int} (h : Two W wr vm vd jm jd ms ds) (hb : Below wr.heap.size wr w') : Two W w' vm vd jm jd ms ds :=
  ⟨owns_below h.m hb, owns_below h.d hb, h.ne, bthen' h.b hb⟩
theorem Two.push1 {W w1 w2 : World} {vm vd : Value} {jm jd g c : Nat} {ms ds : List Int} {y : Int} {o : Obj} (h : Two W w1 vm vd jm jd ms ds) (hown : w2.ownsRow W.heap.size 2 1 (.slice (some ⟨g, 0, none⟩) (jm + 1) c) (jm + 1) (ms.map (Value.int .i64) ++ [.int .i64 y])) (hgrow : (w1.alloc o).drew.grownBy w2 vm.ownBlock) (hat : vm.ownBlock = some g ∨ g = w1.heap.size + 1) :
    Two W w2 (.slice (some ⟨g, 0, none⟩) (jm + 1) c) vd (jm + 1) jd (ms ++ [y]) ds := by
  have hd := owns_new h.d o
  have hlt := h.d.lt
  refine ⟨by rw [List.map_append]; exact hown, hd.kept hgrow ?_, .inr ?_, ?_⟩
  · rcases h.ne with e | e
    · rw [e]
      cases hq : vd.ownBlock with
      | none => exact .inl rfl
      | some q => exact .inr (by simp)
    · exact .inr (Ne.symm e)
  · rcases hat with e | e
    · rcases h.ne with e2 | e2
      · rw [e2] at e; cases e
      · rw [e] at e2; exact e2
    · intro e3
      have := (hlt g e3.symm).2
      omega
  · exact ((h.b.alloc h.b.size o).drew).grown hgrow (by have := h.b.size; simp; omega) (fun q hq => (h.m.lt q hq).1)
theorem Two.push2 {W w1 w2 : World} {vm vd : Value} {jm jd g c : Nat} {ms ds : List Int} {y : Int} {o : Obj} (h : Two W w1 vm vd jm jd ms ds) (hown : w2.ownsRow W.heap.size 2 1 (.slice (some ⟨g, 0, none⟩) (jd + 1) c) (jd + 1) (ds.map (Value.int .i64) ++ [.int .i64 y])) (hgrow : (w1.alloc o).grownBy w2 vd.ownBlock) (hat : vd.ownBlock = some g ∨ g = w1.heap.size + 1) :
    Two W w2 vm (.slice (some ⟨g, 0, none⟩) (jd + 1) c) jm (jd + 1) ms (ds ++ [y]) := by
  have hm := h.m.alloc o
  have hlt := h.m.lt
  refine ⟨hm.kept hgrow h.ne, by rw [List.map_append]; exact hown, ?_, ?_⟩
  · cases hq : vm.ownBlock with
    | none => exact .inl rfl
    | some q =>
      refine .inr fun e3 => ?_
      have e4 : q = g := by simpa [Value.ownBlock] using e3
      subst e4
      rcases hat with e | e
      · rcases h.ne with e2 | e2
        · rw [e2] at hq; cases hq
        · exact e2 (hq.trans e.symm)
      · have := (hlt q hq).2
        omega
  · exact (h.b.alloc h.b.size o).grown hgrow (by have := h.b.size; simp; omega) (fun q hq => (h.d.lt q hq).1)

set_option maxHeartbeats 4000000 in
theorem rforward_any (v : Value) (x : List Int) (K : Nat) (w : World) (hv : Rw .i64 w v x) (hK : K ≤ 5) (hl : x.length = 2 ^ K) (hb : Bd (-16777216) 16777216 x) : Calls Tryd.prog 36 #[v] w fun e w' => ∃ v', e = .returned v' ∧ RwF w.heap.size .i64 w' v' (fw K x) ∧ Below w.heap.size w w' := by
  obtain ⟨i0, hi, hz0, hz1, hz2⟩ := info_parts info_i64
  obtain ⟨Y, hY⟩ : ∃ Y, fw K x = Y := ⟨_, rfl⟩
  rw [hY]
  have HY : Hid (∃ q ls outs, q ≤ 5 ∧ ls.length = 2 ^ q ∧ Bd (-16777216) 16777216 ls ∧ fw q ls ++ outs = Y ∧ Rw .i64 w v ls ∧ outs = []) := ⟨K, x, [], hK, hl, hb, by rw [List.append_nil]; exact hY, hv, rfl⟩
  clear hY hv hK hl hb
  go_enter Tryd.func36, Tryd.ntmps36
  go_wp2
  go_loopw [3, 4] (fun o l wr => ∃ (q : Nat) (ls outs : List Int), q ≤ 5 ∧ ls.length = 2 ^ q ∧ outs.length ≤ 32 - 2 ^ q ∧ Bd (-16777216) 16777216 ls ∧ fw q ls ++ outs = Y ∧ Rw .i64 wr l ls ∧ wr.ownsRow w.heap.size 2 1 o outs.length (outs.map (Value.int .i64)) ∧ Below w.heap.size w wr) (fun _ l _ => slen l)
  case atStart =>
    obtain ⟨q, ls, outs, h1, h2, h3, h4, h5, rfl⟩ := HY.out
    exact ⟨q, ls, [], h1, h2, by simp, h3, h4, h5, World.ownsRow_nil _ _ _ _, Below.refl _ _⟩
  case round =>
    clear HY
    obtain ⟨q, ls, outs, hq5, hll, hol, hbd, hfw, hrw, hown, hbr⟩ := hrel
    obtain ⟨a, cap, rfl, ha⟩ := hrw
    have hp : 0 < 2 ^ q := Nat.pow_pos (by decide)
    have hp5 : 2 ^ q ≤ 2 ^ 5 := Nat.pow_le_pow_right (by decide) hq5
    obtain ⟨b, off, rfl, hlt, hc⟩ := ha.resolve_left (by intro h; subst h; simp at hll; omega)
    obtain ⟨oa, oc, rfl, hoc, hom, hon⟩ := owns_open hown
    clear ha
    cases q with
    | zero =>
      have g0 := hc 0 (by omega)
      have hfw2 : Hid ([ls.getD 0 0] ++ outs = Y) := by
        have e : ls = [ls.getD 0 0] := by
          match ls, hll with
          | [z], _ => rfl
        unfold Hid
        rw [← hfw, ← e]
        rfl
      have hl1 : ls.length = 1 := hll
      rw [hl1]
      have hor := Rw.of_owns hown
      have HBR := hid hbr
      have hol2 : outs.length ≤ 31 := by omega
      generalize ls.getD 0 0 = z at *
      clear hfw hll hl1 hc hol hbd hp hp5
      rw [Nat.add_zero] at g0
      go_wp2_with (at_builtin; refine wpList_append_rw rfl _ _ _ rfl w.heap.size 2 i0 (.int .i64 0) 8 Tryd.underlying22 hi hz0 hz1 hz2 rfl .i64 _ 1 [.int .i64 z] rfl (owns_of_full (heap_alloc_last wr _) HBR.out.size rfl (by unfold maxLen; omega)) oa oc outs rfl (hor.below (below1 _ _)) hon (by unfold maxLen; omega) (by omega) (by have := HBR.out.size; simp; omega) ?_)
      intro v8 w5 hown8 hgrow8
      have hb8 : Below w.heap.size w w5 := (HBR.out.alloc HBR.out.size _).grown hgrow8 (by have := HBR.out.size; simp; omega) (fun k hk => by have := HBR.out.size; simp [Value.ownBlock] at hk; omega)
      have R : Hid (RwF w.heap.size .i64 w5 v8 Y) := by
        have h9 : w5.ownsRow w.heap.size 2 1 v8 (1 + outs.length) (([z] ++ outs).map (Value.int .i64)) := hown8
        rw [hfw2.out] at h9
        exact RwF.of_owns h9
      clear hgrow8 hown8 hown hor
      go_wp2
      go_ret
      exact ⟨_, rfl, R.out, hb8⟩
    | succ q =>
      obtain ⟨h, hh⟩ : ∃ h, 2 ^ q = h := ⟨_, rfl⟩
      have hL : 2 ^ (q + 1) = 2 * h := by rw [Nat.pow_succ, hh]; omega
      rw [hL] at hll hp hp5 hol
      obtain ⟨L, hLL⟩ : ∃ L, ls.length = L := ⟨_, rfl⟩
      have HL : Hid (2 * h = L) := by unfold Hid; omega
      have HC : Hid (∀ i, i < L → wr.cell? ⟨b, off + i, none⟩ = some (.int .i64 (ls.getD i 0))) := by rw [← hLL]; exact hc
      have HXL : Hid (ls.length = L) := hLL
      have HBD := hid hbd
      have HH := hid hh
      have HF : Hid (fw q (mns h ls) ++ (dfs h ls ++ outs) = Y) := by
        unfold Hid
        rw [← hfw]
        simp only [fw]
        rw [hh, List.append_assoc]
      have hL32 : L ≤ 32 := by omega
      have hL1 : (1 : Int) < (L : Int) := by omega
      have hh16 : h ≤ 16 := by omega
      rw [hLL]
      have hmm := HBD.out.means (h := h) (by rw [hLL]; exact HL.out.symm)
      have HMB := hid hmm
      have HOWN := hid hown
      have HBR := hid hbr
      have HOL : Hid (outs.length ≤ 32 - 2 * h) := hol
      have Hq5 : Hid (q + 1 ≤ 5) := hq5
      clear hL hLL hll hc hbd hh hfw hmm hown hbr hol hp hp5 hq5
      obtain ⟨W, hW⟩ : ∃ W, W = wr := ⟨_, rfl⟩
      rw [← hW] at HC hlt HOWN HBR ⊢
      clear hW
      go_wp2
      go_loopw [5, 6, 7] (fun m d i wr => ∃ j P : Nat, j ≤ h ∧ P = 2 * j ∧ i = .int .i64 P ∧ Two W wr m d j j (mns j ls) (dfs j ls)) (fun _ _ i _ => L - (intOf i).toNat)
      case atStart => exact ⟨0, 0, by omega, rfl, rfl, ⟨World.ownsRow_nil _ _ _ _, World.ownsRow_nil _ _ _ _, .inl rfl, Below.refl _ _⟩⟩
      case round =>
        obtain ⟨j, P, hj, hP, rfl, HT⟩ := hrel
        have HTT := hid HT
        obtain ⟨ma, mc, rfl, _, _, _⟩ := owns_open HT.m
        obtain ⟨da, dc, rfl, _, _, _⟩ := owns_open HT.d
        clear HT
        have HP := hid hP
        obtain ⟨P1, hP1⟩ : ∃ P1 : Nat, P1 = 2 * j + 1 := ⟨_, rfl⟩
        have e2 : (P : Int) + 1 = (P1 : Int) := by omega
        have p5 : (0 : Int) ≤ (P : Int) := by omega
        have p6 : (0 : Int) ≤ (P1 : Int) := by omega
        by_cases hl : j < h
        · have hbd1 := HBD.out (2 * j) (by rw [HXL.out]; have := HL.out; omega)
          have hbd2 := HBD.out (2 * j + 1) (by rw [HXL.out]; have := HL.out; omega)
          have q1 := ((bcell HTT.out.b).1 _ _ hlt).trans (HC.out (2 * j) (by have := HL.out; omega))
          have q2 := ((bcell HTT.out.b).1 _ _ hlt).trans (HC.out (2 * j + 1) (by have := HL.out; omega))
          have HM1 := hid (mns_push j ls)
          have HD1 := hid (dfs_push j ls)
          have hsh := fun w => shiftR1 (ls.getD (2 * j + 1) 0 - ls.getD (2 * j) 0) w (by unfold I64; omega)
          generalize hxa : ls.getD (2 * j) 0 = xa at *
          generalize ls.getD (2 * j + 1) 0 = xb at *
          rw [← hP] at q1
          rw [← hP1] at q2
          have p1 : (P : Int) < (L : Int) := by have := HL.out; omega
          have p2 : (P1 : Int) < (L : Int) := by have := HL.out; omega
          have r1 : IntKind.i64.wrap (P : Int) = P := wraps_i64 _ (by omega) (by omega)
          have r2 : IntKind.i64.wrap (P1 : Int) = P1 := wraps_i64 _ (by omega) (by omega)
          have k1 : -16777216 ≤ xa + (xb - xa) / 2 := by omega
          have k2 : xa + (xb - xa) / 2 ≤ 16777216 := by omega
          obtain ⟨d, hd⟩ : ∃ d, xb - xa = d := ⟨_, rfl⟩
          rw [hd] at hsh HM1 HD1 k1 k2
          obtain ⟨e, he⟩ : ∃ e, d / 2 = e := ⟨_, rfl⟩
          rw [he] at hsh HM1 k1 k2
          have d1 : -33554432 ≤ d := by omega
          have d2 : d ≤ 33554432 := by omega
          have s1 : IntKind.i64.wrap d = d := wraps_i64 _ (by omega) (by omega)
          have s2 : IntKind.i64.wrap (xa + e) = xa + e := wraps_i64 _ (by omega) (by omega)
          have hPL : P < L := by omega
          have HXA : Hid (ls.getD P 0 = xa) := by unfold Hid; rw [hP]; exact hxa
          clear hP hP1 he hxa
          go_wp2
          go_quiet (fail)
          clear hd
          obtain ⟨m, hm⟩ : ∃ m, xa + e = m := ⟨_, rfl⟩
          rw [hm] at HM1 k1 k2 s2
          go_wp2
          have hT1 := HTT.out.below (drewN_below (Below.refl _ wr) nq)
          have q1 := ((bcell (drewN_below (Below.refl _ wr) nq)).1 _ _ (Nat.lt_of_lt_of_le hlt HTT.out.b.size)).trans q1
          generalize wr.drewN nq = w1 at *
          clear q2
          have HT1 := hid hT1
          have z1 := hT1.b.size
          have hownN := owns_new hT1.m (.cells #[.int .i64 m] 2)
          have hm1 : j + 1 ≤ maxLen := by unfold maxLen; omega
          have hm2 : (j + 1) * 8 ≤ 140737488355328 := by omega
          have hm3 : W.heap.size ≤ (w1.alloc (.cells #[.int .i64 m] 2)).drew.heap.size := by simp; omega
          clear hT1 HTT
          go_region_held3 (fun w' => w'.cell? ⟨b, off + P, none⟩ = some (.int .i64 xa)) (first | exact q1 | exact ((bcell (below1 _ _)).1 _ _ (Nat.lt_of_lt_of_le hlt z1)).trans q1 | exact q9) (first | (go_at_call 41; refine (hsh _).mono ?_; rintro e9 y1 ⟨rfl, hy1⟩; have hy1 := hy1.symm; subst hy1) | (refine step_append_lies _ (by rfl) (.tmp 30) (.tmp 38) 22 (by rfl) W.heap.size 2 i0 (.int .i64 0) 1 8 Tryd.underlying22 hi hz0 hz1 hz2 rfl (by decide) (.slice ma j mc) j ((mns j ls).map (Value.int .i64)) (by rfl) hownN ⟨w1.heap.size, 0, none⟩ 1 1 [.int .i64 m] (by rfl) rfl (cell_one_drew w1 _ _) (one_cell _ _) (by decide) hm1 hm2 hm3 (w1.heap.size + 1) (by simp) ?_; intro g2 c2 w2 hown2 hgrow2 hat2 hlt2; have hT2 := HT1.out.push1 hown2 hgrow2 hat2; have q9 := ((bcell hT2.b).1 _ _ hlt).trans (HC.out P hPL); rw [HXA.out] at q9))
          have HT2 := hid hT2
          have z2 := hT2.b.size
          have hdN := hT2.d.alloc (.cells #[.int .i64 d] 2)
          clear hT2 HT1 q1 q9 hown2 hgrow2 hat2 hownN hm3 z1
          go_wp2_with (at_builtin; refine wpList_append_lies _ rfl _ _ 22 rfl W.heap.size 2 i0 (.int .i64 0) 1 8 Tryd.underlying22 hi hz0 hz1 hz2 rfl (by decide) _ _ _ rfl hdN ⟨w2.heap.size, 0, none⟩ 1 1 [.int .i64 d] rfl rfl (cell_one_at rfl _ _) (one_cell _ _) (by decide) hm1 hm2 (by simp; omega) (w2.heap.size + 1) (by simp) ?_)
          intro g3 c3 w3 hown3 hgrow3 hat3 hlt3
          have HT3 : Hid (Two W w3 (.slice (some ⟨g2, 0, none⟩) (j + 1) c2) (.slice (some ⟨g3, 0, none⟩) (j + 1) c3) (j + 1) (j + 1) (mns (j + 1) ls) (dfs (j + 1) ls)) := by
            unfold Hid
            rw [HM1.out, HD1.out]
            exact HT2.out.push2 hown3 hgrow3 hat3
          clear hown3 hgrow3 hat3 hdN HT2
          go_wp2
          exact ⟨⟨j + 1, P + 2, by omega, by rw [HP.out]; omega, by go_num, HT3.out⟩, by simp [intOf]; have := HP.out; have := HL.out; omega⟩
        · have hje : j = h := by omega
          have HT2 : Hid (Two W wr (.slice ma h mc) (.slice da h dc) h h (mns h ls) (dfs h ls)) := by have := HTT.out; rw [hje] at this; exact this
          have p2 : ¬ (P1 : Int) < (L : Int) := by have := HL.out; omega
          have p7 : (P1 : Int) ≤ 33 := by have := HL.out; omega
          have r2 : IntKind.i64.wrap (P1 : Int) = P1 := wraps_i64 _ (by omega) (by omega)
          rw [hje]
          have hdo := owns_base HT2.out.d HBR.out.size
          have hor := (Rw.of_owns HOWN.out).below HT2.out.b
          have hB := bthen' HBR.out HT2.out.b
          have HB := hid hB
          have hom2 : h + outs.length ≤ 32 := by have := HOL.out; omega
          clear hP hP1 hje HTT hB
          go_wp2_with (at_builtin; refine wpList_append_rw rfl _ _ _ rfl w.heap.size 2 i0 (.int .i64 0) 8 Tryd.underlying22 hi hz0 hz1 hz2 rfl .i64 _ h _ rfl hdo oa oc outs rfl hor hon (by unfold maxLen; omega) (by omega) HB.out.size ?_)
          intro v8 w5 hown8 hgrow8
          have HB5 : Hid (Below w.heap.size w w5) := HB.out.grown hgrow8 HB.out.size (fun k hk => (hdo.lt k hk).1)
          have HM5 : Hid (Rw .i64 w5 (.slice ma h mc) (mns h ls)) := Rw.of_owns (HT2.out.m.kept hgrow8 HT2.out.ne)
          have HO5 : Hid (w5.ownsRow w.heap.size 2 1 v8 (dfs h ls ++ outs).length ((dfs h ls ++ outs).map (Value.int .i64))) := by
            unfold Hid
            rw [List.length_append, dfs_len, List.map_append]
            exact hown8
          clear hgrow8 hown8 hor hdo
          go_wp2
          refine ⟨⟨q, mns h ls, dfs h ls ++ outs, by have := Hq5.out; omega, by rw [mns_len]; exact HH.out.symm, ?_, HMB.out, HF.out, HM5.out, HO5.out, HB5.out⟩, ?_⟩
          · rw [List.length_append, dfs_len, HH.out]; have := HOL.out; have := HL.out; omega
          · simp [slen]; have := HL.out; omega
end Go.Proofs.YtdfihdkkidekjaaDoor
