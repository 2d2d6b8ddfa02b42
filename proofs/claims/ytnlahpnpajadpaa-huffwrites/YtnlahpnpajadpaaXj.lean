/- The contract of Write, at a symbol that is used. -/
import Derived.Test.YtnlahpnpajadpaaXi
import Derived.Deep.RegionWith
import Derived.Deep.CutRange
import Derived.Deep.DeepCutAuto
namespace Go.Proofs.Ytnlahpnpajadpaa
open Go.RowKit Go.Maps
set_option linter.unusedVariables false
set_option linter.unusedSimpArgs false

/-- What Write's loop has: the writer that was handed in, its answer's cells, the writer that it makes, the symbol's code. -/
structure WrSt (B A gc s : Nat) (sv : Value) (M : Int) (ov : Value) (M' : Int) (C : Nat) (wr : World) : Prop where
  r0 : wr.cell? ⟨B, 0, none⟩ = some sv
  r1 : wr.cell? ⟨B, 1, none⟩ = some (.int .i64 M)
  s0 : wr.cell? ⟨B + 1, 0, none⟩ = some (.slice none 0 0)
  s1 : wr.cell? ⟨B + 1, 1, none⟩ = some (.int .i64 0)
  t0 : wr.frozen? ⟨B + 1, 0, none⟩ = false
  t1 : wr.frozen? ⟨B + 1, 1, none⟩ = false
  a0 : wr.cell? ⟨A, 0, none⟩ = some ov
  a1 : wr.cell? ⟨A, 1, none⟩ = some (.int .i64 M')
  b0 : wr.frozen? ⟨A, 0, none⟩ = false
  b1 : wr.frozen? ⟨A, 1, none⟩ = false
  c0 : wr.cell? ⟨gc, s, none⟩ = some (.int .u32 (C : Int))
  hg : gc < A
  hB : B + 1 < A
  hA : A < wr.heap.size
theorem WrSt.below {B A gc s : Nat} {sv : Value} {M : Int} {ov : Value} {M' : Int} {C : Nat} {wr w1 : World} (H : WrSt B A gc s sv M ov M' C wr) (hb : Below wr.heap.size wr w1) : WrSt B A gc s sv M ov M' C w1 := by
  obtain ⟨hc, hf⟩ := bcell hb
  have h0 := H.hg
  have h1 := H.hB
  have h2 := H.hA
  have h3 := hb.size
  exact ⟨(hc _ _ (by omega)).trans H.r0, (hc _ _ (by omega)).trans H.r1, (hc _ _ (by omega)).trans H.s0, (hc _ _ (by omega)).trans H.s1, (hf _ _ (by omega)).trans H.t0, (hf _ _ (by omega)).trans H.t1, (hc _ _ (by omega)).trans H.a0, (hc _ _ (by omega)).trans H.a1, (hf _ _ (by omega)).trans H.b0, (hf _ _ (by omega)).trans H.b1, (hc _ _ (by omega)).trans H.c0, h0, h1, by omega⟩
theorem WrSt.step {B A gc s : Nat} {sv : Value} {M : Int} {ov : Value} {M' : Int} {C : Nat} {wr : World} (H : WrSt B A gc s sv M ov M' C wr) (hne : gc ≠ B) (hne1 : gc ≠ B + 1) (ov' : Value) (M2 : Int) :
    WrSt B A gc s sv M ov' M2 C ((wr.setCell ⟨A, 0, none⟩ ov').setCell ⟨A, 1, none⟩ (.int .i64 M2)) := by
  obtain ⟨r0, r1, s0, s1, t0, t1, a0, a1, b0, b1, c0, hg, hB, hA⟩ := H
  have n1 : B ≠ A := by omega
  have n3 : B + 1 ≠ A := by omega
  have n5 : gc ≠ A := by omega
  refine ⟨?_, ?_, ?_, ?_, ?_, ?_, ?_, ?_, ?_, ?_, ?_, hg, hB, ?_⟩
  all_goals simp [go_sem, r0, r1, s0, s1, t0, t1, a0, a1, b0, b1, c0, n1, n3, n5, frozen_set, hA]
theorem Rw.set2 {k : IntKind} {w0 w : World} {x : Option Addr} {cap : Nat} {xs : List Int} {A : Nat} (h : RwF w0.heap.size k w (.slice x xs.length cap) xs) (hA : A < w0.heap.size) (u v : Value) : Rw k ((w.setCell ⟨A, 0, none⟩ u).setCell ⟨A, 1, none⟩ v) (.slice x xs.length cap) xs :=
  ((h.set A 0 u hA).set A 1 v hA).rw
theorem RwF.set2 {k : IntKind} {B : Nat} {w0 w : World} {x : Option Addr} {cap : Nat} {xs : List Int} {A : Nat} (h : RwF w0.heap.size k w (.slice x xs.length cap) xs) (hA : A < w0.heap.size) (hB : B ≤ w0.heap.size) (u v : Value) : RwF B k ((w.setCell ⟨A, 0, none⟩ u).setCell ⟨A, 1, none⟩ v) (.slice x xs.length cap) xs :=
  ((h.set A 0 u hA).set A 1 v hA).mono hB
theorem put1_ok (x : Option Addr) (c : Nat) (cur : List Int) (M' : Int) (V X N : Nat) (w : World) (hv : Rw .u8 w (.slice x cur.length c) cur) (hx : Byts cur) (hS : Stands cur M' X N) (hV : V < 2) (hN : N + 1 ≤ 32000) :
    Calls Try.prog 26 #[.agg #[.slice x cur.length c, .int .i64 M'], .int .u64 V, .int .i64 1] w fun e w' => ∃ x' c' ys, Hid (ys = byL (X + V * 2 ^ N) ((N + 1 + 7) / 8)) ∧ e = .returned (.tuple #[.agg #[.slice x' ys.length c', .int .i64 ((N + 1 : Nat) : Int)], .int .i64 0]) ∧ RwF w.heap.size .u8 w' (.slice x' ys.length c') ys ∧ Below w.heap.size w w' := by
  obtain ⟨e1, e2, e3, e4⟩ := hS.put_ok hV hN
  refine (put_any _ cur M' V 1 w hv hx (by omega)).mono ?_
  rintro e w' ⟨v', rfl, hr, hb⟩
  rw [e3] at hr
  obtain ⟨x', c', rfl, h⟩ := hr
  exact ⟨x', c', _, rfl, by rw [e1, e2], ⟨x', c', rfl, h⟩, hb⟩
theorem put1_full (x : Option Addr) (c : Nat) (cur : List Int) (M' : Int) (V X N : Nat) (w : World) (hv : Rw .u8 w (.slice x cur.length c) cur) (hx : Byts cur) (hS : Stands cur M' X N) (hV : V < 2) (hN : 32000 < N + 1) :
    Calls Try.prog 26 #[.agg #[.slice x cur.length c, .int .i64 M'], .int .u64 V, .int .i64 1] w fun e w' => ∃ x' n' c' M2, e = .returned (.tuple #[.agg #[.slice x' n' c', .int .i64 M2], .int .i64 3]) ∧ Below w.heap.size w w' := by
  have e1 := hS.put_full hV hN
  refine (put_any _ cur M' V 1 w hv hx (by omega)).mono ?_
  rintro e w' ⟨v', rfl, hr, hb⟩
  obtain ⟨x', c', rfl, h⟩ := hr
  exact ⟨x', _, c', _, by rw [e1], hb⟩
theorem held3 {W y : World} {A gc s : Nat} {ov cv : Value} {M' : Int} (hb : Below W.heap.size W y) (hA : A < W.heap.size) (hg : gc < W.heap.size) (a0 : W.cell? ⟨A, 0, none⟩ = some ov) (a1 : W.cell? ⟨A, 1, none⟩ = some (.int .i64 M')) (c0 : W.cell? ⟨gc, s, none⟩ = some cv) :
    y.cell? ⟨A, 0, none⟩ = some ov ∧ y.cell? ⟨A, 1, none⟩ = some (.int .i64 M') ∧ y.cell? ⟨gc, s, none⟩ = some cv :=
  ⟨((bcell hb).1 _ _ hA).trans a0, ((bcell hb).1 _ _ hA).trans a1, ((bcell hb).1 _ _ hg).trans c0⟩
/-- What has been written. -/
structure Wrote (X N C n j : Nat) (cur : List Int) (M' : Int) : Prop where
  st : Stands cur M' (X + rvb C n j * 2 ^ N) (N + j)
  by_ : Byts cur
  is : 1 ≤ j → cur = byL (X + rvb C n j * 2 ^ N) ((N + j + 7) / 8) ∧ M' = ((N + j : Nat) : Int)
theorem Wrote.next {X N C n j V : Nat} {cur : List Int} {M' : Int} (h : Wrote X N C n j cur M') (hV : V = C / 2 ^ (n - 1 - j) % 2) (hN : N + j + 1 ≤ 32000) : Wrote X N C n (j + 1) (byL (X + rvb C n j * 2 ^ N + V * 2 ^ (N + j)) ((N + j + 1 + 7) / 8)) ((N + j + 1 : Nat) : Int) := by
  have e : X + rvb C n (j + 1) * 2 ^ N = X + rvb C n j * 2 ^ N + V * 2 ^ (N + j) := by
    rw [hV]
    simp only [rvb]
    rw [Nat.add_mul, Nat.pow_add, Nat.mul_assoc (C / 2 ^ (n - 1 - j) % 2), Nat.mul_comm (2 ^ j), Nat.add_assoc]
  obtain ⟨_, _, _, e4⟩ := h.st.put_ok (V := V) (by omega) hN
  refine ⟨by rw [e]; exact e4, byL_byts _ _, fun _ => ⟨by rw [e]; rfl, rfl⟩⟩

set_option maxHeartbeats 4000000 in
set_option maxRecDepth 10000 in
theorem write_used (a : Option Addr) (cap : Nat) (vl : Value) (xs l : List Int) (M : Int) (s X N : Nat) (w : World) (hv : Rw .u8 w (.slice a xs.length cap) xs) (hx : Byts xs) (hl : xs.length ≤ 100000) (hvl : Rw .i64 w vl l) (hr : rightL l = true) (hs : s < l.length) (h0 : 0 < l.getD s 0) (hst : Stands xs M X N) :
    Calls Try.prog 17 #[.agg #[.slice a xs.length cap, .int .i64 M], vl, .int .i64 s] w fun e w' =>
      (N + (l.getD s 0).toNat ≤ 32000 ∧ ∃ x c ys, ys = byL (X + rvb (cd l s) (l.getD s 0).toNat (l.getD s 0).toNat * 2 ^ N) ((N + (l.getD s 0).toNat + 7) / 8) ∧ e = .returned (.tuple #[.agg #[.slice x ys.length c, .int .i64 ((N + (l.getD s 0).toNat : Nat) : Int)], .int .i64 0]) ∧ RwF w.heap.size .u8 w' (.slice x ys.length c) ys ∧ Below w.heap.size w w') ∨
      (32000 < N + (l.getD s 0).toNat ∧ ∃ x c ys G, Hid (ys = goodX xs M) ∧ Hid (G = goodN xs M) ∧ e = .returned (.tuple #[.agg #[.slice x ys.length c, .int .i64 G], .int .i64 3]) ∧ RwF w.heap.size .u8 w' (.slice x ys.length c) ys ∧ Below w.heap.size w w') := by
  have hl1 := (right_parts hr).1
  have hb16 := inB_at (right_parts hr).2.2.1 s
  have hW := below2 w (.cells #[.slice a xs.length cap, .int .i64 M] 34) (.cells #[.slice none 0 0, .int .i64 0] 34)
  have hvl1 := hvl.below hW
  have hsmall := cd_small l (right_parts hr).2.1 (right_parts hr).2.2.1 s
  obtain ⟨al, cl, rfl, hal⟩ := hvl
  obtain ⟨bl_, ol, rfl, hbl, hcl⟩ := hal.resolve_left (by intro h0; subst h0; simp at hl1)
  have g0 := hcl s hs
  have hcod : (codesL l).getD s 0 = (cd l s : Int) := by rw [codes_at l s hs]; unfold codeAt; rw [if_pos h0]
  have HST : Hid (Stands xs M X N) := hst
  clear hal hcl hst
  generalize l.getD s 0 = z at h0 hb16 g0 ⊢
  obtain ⟨n, rfl⟩ := Int.eq_ofNat_of_zero_le hb16.1
  rw [Int.toNat_natCast]
  generalize cd l s = C at hcod hsmall ⊢
  have HC : Hid _ := hcod
  clear hcod
  have hn0 : (((n : Int)) == 0) = false := by simp; omega
  have i1 : (0 : Int) ≤ (s : Int) := by omega
  have i2 : (s : Int) < (l.length : Int) := by omega
  have i3 : IntKind.i64.wrap (s : Int) = s := wraps_i64 _ (by omega) (by have := (right_parts hr).2.1; omega)
  go_enter Try.func17, Try.ntmps17
  go_wp2_with (first | (go_at_call 13; refine (codes_ok _ l _ hvl1 hr).mono ?_; rintro e w1 ⟨gc, rfl, hrow1, hb1⟩; obtain ⟨k0, k1, k2, k3, f0, f1, f2, f3, hz⟩ := two_boxes hb1; have hBw := bthen hW hb1 hW.size; have g1 := (hBw.cell (p := ⟨bl_, ol + s, none⟩) hbl).trans g0; have g2 := ((bcell (below1 w1 (.cells #[.slice a xs.length cap, .int .i64 M] 34))).1 bl_ (ol + s) (Nat.lt_of_lt_of_le hbl hBw.size)).trans g1) | go_in)
  simp only [show decide (l.length ≤ s) = false from decide_eq_false (by omega), Bool.or_false]
  obtain ⟨ga, gcap, gv, grow⟩ := hrow1
  obtain ⟨gb, goff, ge, gB, gsz, gcell⟩ := grow.resolve_left (by intro h; have := codes_len l; rw [h] at this; simp at this; omega)
  simp only [Value.slice.injEq] at gv
  obtain ⟨rfl, ge1, ge2⟩ := gv
  clear ge1 ge2
  simp only [Option.some.injEq, Addr.mk.injEq] at ge
  obtain ⟨rfl, rfl, _⟩ := ge
  have gcod := gcell s (by rw [codes_len]; exact hs)
  rw [HC.out, Nat.zero_add] at gcod
  simp at gB
  have q := (bcell (below1 w1 (.cells #[.slice a xs.length cap, .int .i64 M] 34))).1
  have q' := (bcell (below1 w1 (.cells #[.slice a xs.length cap, .int .i64 M] 34))).2
  have hSt : WrSt w.heap.size w1.heap.size gc s (.slice a xs.length cap) M (.slice a xs.length cap) M C (w1.alloc (.cells #[.slice a xs.length cap, .int .i64 M] 34)) := by
    refine ⟨(q _ _ (by omega)).trans k0, (q _ _ (by omega)).trans k1, (q _ _ (by omega)).trans k2, (q _ _ (by omega)).trans k3, (q' _ _ (by omega)).trans f2, (q' _ _ (by omega)).trans f3, ?_, ?_, ?_, ?_, (q _ _ gsz).trans gcod, gsz, hz, by simp⟩ <;> simp [go_sem]
  have hBW := hBw.alloc hBw.size (.cells #[.slice a xs.length cap, .int .i64 M] 34)
  have hrow := hv.below hBW
  have hW0 : Wrote X N C n 0 xs M := ⟨by simpa [rvb] using HST.out, hx, fun h => by omega⟩
  have HW0 : Hid _ := hW0
  have hrw0 := hv
  clear g0 g1 g2 q q' k0 k1 k2 k3 f0 f1 f2 f3 gcell gcod grow hW0 hvl1 hb1 hBw hW
  generalize (w1.alloc (.cells #[.slice a xs.length cap, .int .i64 M] 34)) = W4 at *
  go_loopw [11, 9] (fun lf er wr => ∃ L j : Nat, ∃ cur : List Int, ∃ M' : Int, ∃ x : Option Addr, ∃ c : Nat, L ≤ n ∧ Hid (L + j = n) ∧ lf = .int .i64 L ∧ er = .int .i64 0 ∧ Hid (Wrote X N C n j cur M') ∧ Hid (Rw .u8 wr (.slice x cur.length c) cur) ∧ Hid (1 ≤ j → RwF w1.heap.size .u8 wr (.slice x cur.length c) cur) ∧ Hid (WrSt w.heap.size w1.heap.size gc s (.slice a xs.length cap) M (.slice x cur.length c) M' C wr) ∧ Below w.heap.size w wr) (fun lf _ _ => (intOf lf).toNat)
  case atStart => exact ⟨n, 0, xs, M, a, cap, by omega, by unfold Hid; rfl, rfl, rfl, HW0, hrow, fun h => by omega, hSt, hBW⟩
  case round =>
    obtain ⟨L, j, cur, M', x, c, hL, HL, rfl, rfl, HWr, HRw, HRF, HS, hnx⟩ := hrel
    clear hSt hrow hBW HW0
    by_cases hL0 : 0 < L
    · obtain ⟨Q, rfl⟩ : ∃ Q, L = Q + 1 := ⟨L - 1, by omega⟩
      rw [show ((Q + 1 : Nat) : Int) = (Q : Int) + 1 by omega]
      have hj : j = n - (Q + 1) := by have := HL.out; omega
      have hV : C / 2 ^ Q % 2 < 2 := Nat.mod_lt _ (by decide)
      have hVj : Hid (C / 2 ^ Q % 2 = C / 2 ^ (n - 1 - j) % 2) := by unfold Hid; rw [show n - 1 - j = Q by omega]
      have hand : bits .and .u32 ((C : Int) / 2 ^ Q) 1 = ((C / 2 ^ Q % 2 : Nat) : Int) := by
        rw [nat_shr, and1_u32 _ (Int.natCast_nonneg _) (by have : C / 2 ^ Q ≤ C := Nat.div_le_self _ _; omega)]
        simp
      generalize C / 2 ^ Q % 2 = V at hV hVj hand
      have hA := HS.out.hA
      have hg := HS.out.hg
      have a0 := HS.out.a0
      have a1 := HS.out.a1
      have c0 := HS.out.c0
      have i5 : IntKind.i64.wrap (Q : Int) = Q := wraps_i64 _ (by omega) (by omega)
      have i6 : (0 : Int) ≤ (Q : Int) := by omega
      have i4 : IntKind.u64.wrap (V : Int) = V := wraps_u64 _ (by omega) (by omega)
      by_cases hfit : N + j + 1 ≤ 32000
      · clear hj
        go_wp2
        go_cut [9] (fun er wz => ∃ x' c' ys, er = .int .i64 0 ∧ Hid (ys = byL (X + rvb C n j * 2 ^ N + V * 2 ^ (N + j)) ((N + j + 1 + 7) / 8)) ∧ RwF w1.heap.size .u8 wz (.slice x' ys.length c') ys ∧ WrSt w.heap.size w1.heap.size gc s (.slice a xs.length cap) M (.slice x' ys.length c') ((N : Int) + (j : Int) + 1) C wz ∧ Below w.heap.size w wz)
        case first =>
          go_region_with (go_at_call 26; refine (put1_ok x c cur M' V _ _ _ (HRw.out.below (Below.refl _ _).drew) HWr.out.by_ HWr.out.st hV hfit).mono ?_; rintro e y1 ⟨x', c', ys, HY, rfl, hrw1, hy1'⟩; have hy1 := drew_below hy1'; have z2 := ((bcell hy1).2 w1.heap.size 0 hA).trans HS.out.b0; have z3 := ((bcell hy1).2 w1.heap.size 1 hA).trans HS.out.b1; have z0 := ((bcell hy1).1 w1.heap.size 0 hA).trans a0; have z1 := ((bcell hy1).1 w1.heap.size 1 hA).trans a1)
          all_goals go_wp2
          all_goals go_meet
          all_goals exact ⟨x', c', ys, rfl, HY, RwF.set2 hrw1 hA (show w1.heap.size ≤ wr.heap.size by omega) _ _, (HS.out.below hy1).step (by omega) (by omega) _ _, bset2 (bthen hnx hy1 hnx.size) _ _ _ _ _ _ (by omega) (by omega)⟩
        case rest =>
          obtain ⟨x', c', ys, rfl, HY, hrw2, HS2, hnx2⟩ := hcut
          have hW2 : Wrote X N C n (j + 1) ys ((N + j + 1 : Nat) : Int) := by rw [HY.out]; exact HWr.out.next hVj.out hfit
          have HW2 : Hid _ := hW2
          have HS3 : Hid (WrSt w.heap.size w1.heap.size gc s (.slice a xs.length cap) M (.slice x' ys.length c') ((N + j + 1 : Nat) : Int) C wc) := by
            have e : ((N + j + 1 : Nat) : Int) = (N : Int) + (j : Int) + 1 := by omega
            rw [e]; exact HS2
          clear hW2 HS2 HWr HRw HS a0 a1 c0
          go_wp2
          exact ⟨⟨Q, j + 1, ys, _, x', c', by omega, by have := HL.out; unfold Hid; omega, by go_num, rfl, HW2, hrw2.rw, fun _ => hrw2, HS3, hnx2⟩, by simp [intOf]⟩
      · -- there is no room
        clear hj
        go_wp2
        go_cut [9] (fun er wz => er = .int .i64 3 ∧ ∃ x' n' c' M2, WrSt w.heap.size w1.heap.size gc s (.slice a xs.length cap) M (.slice x' n' c') M2 C wz ∧ Below w.heap.size w wz)
        case first =>
          go_region_with (go_at_call 26; refine (put1_full x c cur M' V _ _ _ (HRw.out.below (Below.refl _ _).drew) HWr.out.by_ HWr.out.st hV (by omega)).mono ?_; rintro e y1 ⟨x', n', c', M2, rfl, hy1'⟩; have hy1 := drew_below hy1'; have z2 := ((bcell hy1).2 w1.heap.size 0 hA).trans HS.out.b0; have z3 := ((bcell hy1).2 w1.heap.size 1 hA).trans HS.out.b1; have z0 := ((bcell hy1).1 w1.heap.size 0 hA).trans a0; have z1 := ((bcell hy1).1 w1.heap.size 1 hA).trans a1)
          all_goals go_wp2
          all_goals go_meet
          all_goals exact ⟨rfl, x', n', c', M2, (HS.out.below hy1).step (by omega) (by omega) _ _, bset2 (bthen hnx hy1 hnx.size) _ _ _ _ _ _ (by omega) (by omega)⟩
        case rest =>
          obtain ⟨rfl, x', n', c', M2, HS2, hnx2⟩ := hcut
          have HS3 : Hid _ := HS2
          have r0 := HS2.r0
          have r1 := HS2.r1
          clear HS2 HWr HRw HS a0 a1 c0
          go_wp2_with (first | (go_at_call 25; refine (asitwas_any _ _ xs M _ (hrw0.below hnx2) hx).mono ?_; rintro e w5 ⟨xw, cw, yw, G, HYw, HG, rfl, hrow5, hb5⟩; clear r0 r1; obtain ⟨r0, r1, s0, s1, t0, t1, a0, a1, b0, b1, c0, hg5, hB5, hA5⟩ := HS3.out.below hb5) | go_in)
          have hz5 := hb5.size
          have hA3 := HS3.out.hA
          have hL2 := HL.out
          refine bodyPost_ret (v := .tuple #[.agg #[.slice xw yw.length cw, .int .i64 G], .int .i64 3]) (by simp [results, Try.results17, go_sem, s0, s1, t0, t1]) rfl (.inr ⟨by omega, xw, cw, yw, G, HYw, HG, rfl, ?_, ?_⟩)
          · exact ((hrow5.set _ _ _ (by omega)).set _ _ _ (by omega)).mono (by omega)
          · exact bset2 (bthen hnx2 hb5 hnx2.size) _ _ _ _ _ _ (by omega) (by omega)
    · have hL00 : L = 0 := by omega
      subst hL00
      have hjn : j = n := by have := HL.out; omega
      subst hjn
      have his := HWr.out.is (by omega)
      have hstN := HWr.out.st.2.2.2
      have HIS : Hid _ := his.1
      have hM : M' = ((N + j : Nat) : Int) := his.2
      subst hM
      have HN : Hid _ := hstN
      obtain ⟨r0, r1, s0, s1, t0, t1, a0, a1, b0, b1, c0, hg5, hB5, hA5⟩ := HS.out
      clear his hstN hL0 HWr HST
      go_wp2
      refine bodyPost_ret (v := .tuple #[.agg #[.slice x cur.length c, .int .i64 ((N : Int) + (j : Int))], .int .i64 0]) (by simp [results, Try.results17, go_sem, s0, s1, t0, t1]) rfl (.inl ⟨HN.out, x, c, cur, HIS.out, by simp, ?_, ?_⟩)
      · exact RwF.mono (RwF.set (RwF.set (HRF.out (by omega)) _ _ _ (by omega)) _ _ _ (by omega)) (by omega)
      · exact bset2 hnx _ _ _ _ _ _ (by omega) (by omega)
end Go.Proofs.Ytnlahpnpajadpaa
