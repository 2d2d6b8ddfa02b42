/- Contracts: the document's Inverse; two lists the same. -/
import Derived.Test.YtdfihdkkidekjaaDoorGe
namespace Go.Proofs.YtdfihdkkidekjaaDoor
open Go.RowKit
set_option linter.unusedVariables false
set_option linter.unusedSimpArgs false

/-- The numbers that are joined, when the first j pairs stand. -/
def oj (h : Nat) (m c : List Int) (j : Nat) : List Int := tab (2 * j) (jn h m c)
theorem oj_len (h : Nat) (m c : List Int) (j : Nat) : (oj h m c j).length = 2 * j := tab_len _ _
theorem oj_next (h : Nat) (m c : List Int) (j : Nat) : oj h m c (j + 1) = oj h m c j ++ [m.getD j 0 - c.getD (h + j) 0 / 2, m.getD j 0 - c.getD (h + j) 0 / 2 + c.getD (h + j) 0] := by
  unfold oj
  rw [show 2 * (j + 1) = 2 * j + 1 + 1 by omega, tab_push, tab_push, List.append_assoc]
  congr 1
  unfold jn
  rw [if_pos (by omega), if_neg (by omega), show 2 * j / 2 = j by omega, show (2 * j + 1) / 2 = j by omega]
  rfl
theorem oj_all (h k : Nat) (c : List Int) (hh : 2 ^ k = h) : oj h (iv k (c.take h)) c h = iv (k + 1) c := by
  simp only [iv]
  unfold oj
  rw [show 2 ^ (k + 1) = 2 * h by rw [Nat.pow_succ]; omega, hh]

set_option maxHeartbeats 4000000 in
theorem rinv_core (h k : Nat) (hh : 2 ^ k = h) (hk : k ≤ 4)
    (ih : ∀ (b off cap : Nat) (c : List Int) (w : World), c.length = h → h ≤ cap → b < w.heap.size → (∀ i, i < h → w.cell? ⟨b, off + i, none⟩ = some (.int .i64 (c.getD i 0))) → Bd (-67108864) 67108864 c →
      Calls Tryd.prog 39 #[.slice (some ⟨b, off, none⟩) h cap] w fun e w' => ∃ v', e = .returned v' ∧ Rw .i64 w' v' (iv k c) ∧ Below w.heap.size w w')
    (b off cap L : Nat) (c : List Int) (w : World) (hL : 2 * h = L) (hcl : c.length = L) (hcap : L ≤ cap) (hbl : b < w.heap.size) (hcell : ∀ i, i < L → w.cell? ⟨b, off + i, none⟩ = some (.int .i64 (c.getD i 0))) (hbd : Bd (-67108864) 67108864 c) :
    Calls Tryd.prog 39 #[.slice (some ⟨b, off, none⟩) L cap] w fun e w' => ∃ v', e = .returned v' ∧ Rw .i64 w' v' (iv (k + 1) c) ∧ Below w.heap.size w w' := by
  obtain ⟨i0, hi, hz0, hz1, hz2⟩ := info_parts info_i64
  have HL := hid hL
  have hh1 : 0 < h := by rw [← hh]; exact Nat.pow_pos (by decide)
  have t1 : ((L : Nat) : Int).tdiv 2 = (h : Int) := by rw [← hL]; simp
  have hh2 : h ≤ 16 := by rw [← hh]; exact Nat.pow_le_pow_right (by decide) hk
  have htl : (c.take h).length = h := by rw [List.length_take]; omega
  have HML : Hid ((iv k (c.take h)).length = h) := by unfold Hid; rw [iv_len k _ (by rw [htl, hh]), hh]
  have HMD : Hid (Bd (-1073741824) 1073741824 (iv k (c.take h))) := iv_small k (by omega) _ (by rw [htl, hh]) (hbd.take _)
  have HIV : Hid (oj h (iv k (c.take h)) c h = iv (k + 1) c) := oj_all h k c hh
  have hrec := ih b off cap (c.take h) w htl (by omega) hbl (fun i hi => by rw [getD_take _ _ _ hi]; exact hcell i (by omega)) (hbd.take _)
  have HCC := hid hcell
  have HBD := hid hbd
  have HXL := hid hcl
  have p1 : (0 : Int) ≤ (h : Int) := by omega
  have p2 : (h : Int) ≤ (L : Int) := by omega
  have p3 : (h : Int) ≤ (cap : Int) := by omega
  have p8 : IntKind.i64.wrap (h : Int) = h := wraps_i64 _ (by omega) (by omega)
  have HL32 : L ≤ 32 := by omega
  have p0 : ((L : Int) == 1) = false := by simp; omega
  generalize iv k (c.take h) = m at *
  clear hL hh hcell hbd hcl ih htl
  go_enter Tryd.func39, Tryd.ntmps39
  go_wp2_with (go_at_call 39; refine hrec.mono ?_; rintro e w1 ⟨v1, rfl, hr1, hb1⟩; obtain ⟨ma, mc, rfl, hm1⟩ := hr1; rw [HML.out])
  obtain ⟨mb, mo, rfl, hmb, hmc⟩ := hm1.resolve_left (by intro e; have := HML.out; rw [e] at this; simp at this; omega)
  have HMC : Hid (∀ i, i < h → w1.cell? ⟨mb, mo + i, none⟩ = some (.int .i64 (m.getD i 0))) := by rw [← HML.out]; exact hmc
  have HB1 := hid hb1
  clear hm1 hmc hb1 hrec
  go_loopw [4, 5] (fun o i wr => ∃ j : Nat, j ≤ h ∧ i = .int .i64 j ∧ wr.ownsRow w1.heap.size 2 1 o (2 * j) ((oj h m c j).map (Value.int .i64)) ∧ Below w1.heap.size w1 wr) (fun _ i _ => h - (intOf i).toNat)
  case atStart => exact ⟨0, by omega, rfl, World.ownsRow_nil _ _ _ _, Below.refl _ _⟩
  case round =>
    obtain ⟨j, hj, rfl, hown, hbr⟩ := hrel
    have HOWN := hid hown
    have HBR := hid hbr
    obtain ⟨oa, oc, rfl, _, _, _⟩ := owns_open hown
    clear hown hbr
    by_cases hl : j < h
    · have q1 := ((bcell HBR.out).1 _ _ hmb).trans (HMC.out j hl)
      have q2 := ((bcell (bthen' HB1.out HBR.out)).1 _ _ hbl).trans (HCC.out (h + j) (by have := HL.out; omega))
      have HN1 := hid (oj_next h m c j)
      have hbd1 := HMD.out j (by rw [HML.out]; exact hl)
      have hbd2 := HBD.out (h + j) (by rw [HXL.out]; have := HL.out; omega)
      have hsh := fun w => shiftR1 (c.getD (h + j) 0) w (by unfold I64; omega)
      generalize m.getD j 0 = xm at *
      generalize c.getD (h + j) 0 = xd at *
      obtain ⟨Q, hQ⟩ : ∃ Q : Nat, Q = h + j := ⟨_, rfl⟩
      rw [← hQ] at q2
      have e3 : (h : Int) + (j : Int) = (Q : Int) := by omega
      have p4 : (j : Int) < (h : Int) := by omega
      have p5 : (Q : Int) < (L : Int) := by have := HL.out; omega
      have p6 : (0 : Int) ≤ (Q : Int) := by omega
      have p7 : (0 : Int) ≤ (j : Int) := by omega
      have r1 : IntKind.i64.wrap (Q : Int) = Q := wraps_i64 _ (by omega) (by omega)
      have r2 : IntKind.i64.wrap (j : Int) = j := wraps_i64 _ (by omega) (by omega)
      obtain ⟨e, he⟩ : ∃ e, xd / 2 = e := ⟨_, rfl⟩
      rw [he] at hsh HN1
      have d1 : -67108864 ≤ e := by omega
      have d2 : e ≤ 67108864 := by omega
      obtain ⟨ra, hra⟩ : ∃ ra, xm - e = ra := ⟨_, rfl⟩
      rw [hra] at HN1
      have d3 : -1140850688 ≤ ra := by omega
      have d4 : ra ≤ 1140850688 := by omega
      have s1 : IntKind.i64.wrap ra = ra := wraps_i64 _ (by omega) (by omega)
      clear he hQ
      go_wp2
      go_quiet (first | (go_at_call 41; refine Calls.quiet_of_same (hsh _)))
      have hb2 := drewN_below (Below.refl wr.heap.size wr) nq
      have hown2 := owns_below HOWN.out hb2
      have hbr2 := bthen' HBR.out hb2
      generalize wr.drewN nq = w2 at *
      have HBR2 := hid hbr2
      have z2 := hbr2.size
      obtain ⟨rb, hrb⟩ : ∃ rb, ra + xd = rb := ⟨_, rfl⟩
      rw [hrb] at HN1
      have d5 : -1207959552 ≤ rb := by omega
      have d6 : rb ≤ 1207959552 := by omega
      have hm1 : 2 * j + 2 ≤ maxLen := by unfold maxLen; omega
      clear q1 q2 hb2 hbr2 hra HBR HOWN
      go_wp2_with (at_builtin; refine wpList_append_own _ rfl _ _ 22 rfl w1.heap.size 2 i0 (.int .i64 0) 1 8 Tryd.underlying22 hi hz0 hz1 hz2 rfl (by decide) _ _ _ rfl (hown2.alloc _) ⟨w2.heap.size, 0, none⟩ 2 2 [.int .i64 ra, .int .i64 rb] rfl rfl (cell_pair_new w2 _ _ _) (two_cells _ _ _) ?c3 ?c4 ?c5 ?_)
      case c3 => exact hm1
      case c4 => omega
      case c5 => simp; omega
      intro v3 w3 hown3 hgrow3 _
      have HB3 : Hid (Below w1.heap.size w1 w3) := (HBR2.out.alloc HBR2.out.size _).grown hgrow3 (by simp; omega) (fun q hq => (hown2.lt q hq).1)
      have HO3 : Hid (w3.ownsRow w1.heap.size 2 1 v3 (2 * (j + 1)) ((oj h m c (j + 1)).map (Value.int .i64))) := by
        unfold Hid
        rw [HN1.out, List.map_append]
        exact hown3
      clear hown3 hgrow3 hown2
      go_wp2
      exact ⟨⟨j + 1, by omega, by go_num, HO3.out, HB3.out⟩, by simp [intOf]; omega⟩
    · have hje : j = h := by omega
      have R : Hid (Rw .i64 wr (.slice oa (2 * j) oc) (iv (k + 1) c)) := by
        have h9 := HOWN.out
        unfold Hid
        rw [← HIV.out]
        have e9 : oj h m c h = oj h m c j := by rw [hje]
        rw [e9]
        exact Rw.of_owns h9
      have HB := hid (bthen' HB1.out HBR.out)
      clear hje HOWN HBR
      go_wp2
      go_ret
      exact ⟨_, rfl, R.out, HB.out⟩

theorem rinv_any (k : Nat) : k ≤ 5 → ∀ (b off cap : Nat) (c : List Int) (w : World), c.length = 2 ^ k → 2 ^ k ≤ cap → b < w.heap.size → (∀ i, i < 2 ^ k → w.cell? ⟨b, off + i, none⟩ = some (.int .i64 (c.getD i 0))) → Bd (-67108864) 67108864 c →
    Calls Tryd.prog 39 #[.slice (some ⟨b, off, none⟩) (2 ^ k) cap] w fun e w' => ∃ v', e = .returned v' ∧ Rw .i64 w' v' (iv k c) ∧ Below w.heap.size w w' := by
  induction k with
  | zero =>
    intro hk b off cap c w h1 h2 h3 h4 h5
    have g0 := h4 0 (by decide)
    rw [Nat.add_zero] at g0
    have e : iv 0 c = [c.getD 0 0] := by
      match c, h1 with
      | [z], _ => rfl
    rw [e]
    have hl1 : 2 ^ 0 = 1 := rfl
    rw [hl1]
    generalize c.getD 0 0 = z at *
    clear h4 h5 h2 h1 e
    go_enter Tryd.func39, Tryd.ntmps39
    go_wp2
    go_ret
    exact ⟨_, rfl, Rw.of_row (e := 2) (cur := [z]) (heap_alloc_last w _) rfl, below1 _ _⟩
  | succ k ih => exact fun hk b off cap c w h2 h3 h4 h5 h6 => rinv_core (2 ^ k) k rfl (by omega) (ih (by omega)) b off cap _ c w (by rw [Nat.pow_succ]; omega) h2 h3 h4 h5 h6

theorem rinverse_any (a : Option Addr) (cap : Nat) (x : List Int) (k : Nat) (w : World) (hv : Rw .i64 w (.slice a x.length cap) x) (hcap : x.length ≤ cap) (hk : k ≤ 5) (hl : x.length = 2 ^ k) (hb : Bd (-67108864) 67108864 x) : Calls Tryd.prog 39 #[.slice a x.length cap] w fun e w' => ∃ v', e = .returned v' ∧ Rw .i64 w' v' (iv k x) ∧ Below w.heap.size w w' := by
  obtain ⟨a', cap', he, ha⟩ := hv
  simp only [Value.slice.injEq] at he
  obtain ⟨rfl, _, rfl⟩ := he
  have hpp : 0 < 2 ^ k := Nat.pow_pos (by decide)
  obtain ⟨b, off, rfl, hlt, hc⟩ := ha.resolve_left (by intro h; subst h; simp at hl; omega)
  have := rinv_any k hk b off cap x w hl (by omega) hlt (fun i hi => hc i (by omega)) hb
  rw [← hl] at this
  exact this

set_option maxHeartbeats 2000000 in
theorem same64_yes (v1 v2 : Value) (xs : List Int) (w : World) (h1 : Rw .i64 w v1 xs) (h2 : Rw .i64 w v2 xs) (hl : xs.length ≤ 100) : Calls Tryd.prog 16 #[v1, v2] w fun e w' => e = .returned (.bool true) ∧ Below w.heap.size w w' := by
  obtain ⟨a1, c1, rfl, ha1⟩ := h1
  obtain ⟨a2, c2, rfl, ha2⟩ := h2
  obtain ⟨n, hn⟩ : ∃ n, xs.length = n := ⟨_, rfl⟩
  rw [hn] at ha1 ha2 hl ⊢
  have hnil : 0 < n → xs ≠ [] := fun h e => by rw [e] at hn; simp at hn; omega
  clear hn
  go_enter Tryd.func16, Tryd.ntmps16
  go_wp2
  go_loopw [5] (fun i wr => ∃ k : Nat, k ≤ n ∧ i = .int .i64 k ∧ Below w.heap.size w wr) (fun i _ => n - (intOf i).toNat)
  case atStart => exact ⟨0, by omega, rfl, Below.refl _ _⟩
  case round =>
    obtain ⟨k, hk, rfl, hnx⟩ := hrel
    by_cases hlt : k < n
    · obtain ⟨b1, o1, rfl, hb1, hc1⟩ := ha1.resolve_left (hnil (by omega))
      obtain ⟨b2, o2, rfl, hb2, hc2⟩ := ha2.resolve_left (hnil (by omega))
      have g1 := (hnx.cell (p := ⟨b1, o1 + k, none⟩) hb1).trans (hc1 k hlt)
      have g2 := (hnx.cell (p := ⟨b2, o2 + k, none⟩) hb2).trans (hc2 k hlt)
      clear ha1 ha2 hc1 hc2 hnil
      generalize xs.getD k 0 = x at *
      have i1 : (0 : Int) ≤ (k : Int) := by omega
      have i2 : (k : Int) < (n : Int) := by omega
      have i3 : IntKind.i64.wrap (k : Int) = k := wraps_i64 _ (by omega) (by omega)
      go_wp2
      go_quiet (fail)
      go_wp2
      exact ⟨⟨k + 1, by omega, by go_num, drewN_below hnx _⟩, by simp [intOf]; omega⟩
    · clear ha1 ha2 hnil
      go_wp2
      go_ret
      exact ⟨rfl, hnx⟩
end Go.Proofs.YtdfihdkkidekjaaDoor
