/- Contract: the program's pulses of a channel. -/
import Derived.Test.YtlpjkahppogkiaaKe
import Derived.Deep.LoopGhost
import Derived.Laws.EntriesVeiled
namespace Go.Proofs.Ytlpjkahppogkiaa
open Go.RowKit
set_option linter.unusedVariables false
set_option linter.unusedSimpArgs false

/-- The bands that may have more, in memory. -/
def Bv (w : World) (v : Value) (l : List Nat) : Prop := ∃ a n c, v = .slice a n c ∧ n = l.length ∧ Rw .i64 w (.slice a n c) (bdv l)
theorem Bv.of {w : World} {base : Nat} {t : TypeId} {v : Value} {l : List Nat} (h : w.ownsRow base t 1 v l.length ((bdv l).map (Value.int .i64))) : Bv w v l := by
  have hr := Rw.of_owns h
  obtain ⟨a, c, rfl, _⟩ := owns_open h
  exact ⟨a, _, c, rfl, rfl, hr⟩

set_option maxHeartbeats 4000000 in
theorem spend_any (a : Option Addr) (cap : Nat) (g : List Int) (room : Int) (w : World) (hg : gokB g = true) (hv : Rw .i64 w (.slice a 5 cap) g) (hr0 : 0 ≤ room) (hr1 : room ≤ 400) : Calls Try.prog 25 #[.slice a 5 cap, .int .i64 room] w fun e w' => ∃ p, e = .returned (.slice (some ⟨p, 0, none⟩) 5 5) ∧ w.heap.size ≤ p ∧ Blk .i64 3 w' p (pls (chan g room)) ∧ Below w.heap.size w w' := by
  obtain ⟨i0, hi, hz0, hz1, hz2⟩ := info_parts info_int
  have hlen := gok_len hg
  have hv2 := hv
  rw [show (5 : Nat) = g.length from hlen.symm] at hv2
  obtain ⟨gb, go, rfl, hgb, hd0⟩ := hv2.at 0 (by omega)
  have HG : Hid (∀ i, i < 5 → w.cell? ⟨gb, go + i, none⟩ = some (.int .i64 (g.getD i 0))) := fun i hi => by
    obtain ⟨b', off', he, _, h⟩ := hv2.at i (by omega)
    simp only [Option.some.injEq, Addr.mk.injEq, and_true] at he
    obtain ⟨rfl, rfl⟩ := he
    exact h
  clear hv hv2 hd0 hlen
  go_enter Try.func25, Try.ntmps25
  go_wp2_with (at_make; refine wpList_make_full _ rfl _ _ 34 rfl w.heap.size 3 i0 (.int .i64 0) 1 Try.underlying34 hi hz0 hz1 .i64 .i64 _ _ 5 rfl rfl (by omega) (by omega) (by rw [hz2]; omega) (by unfold maxLen; omega) (by simp) ?_)
  intro w5 hown5 hgrow5
  have hb5 := grown_of_none hgrow5
  have hblk5 : Blk .i64 3 w5 w.heap.size (pls fun _ => 0) := by have h : Blk .i64 3 w5 w.heap.size (tab 5 fun _ => 0) := Blk.made hown5; rw [← pls_zero]; exact h
  have hz5 := hblk5.lt
  have HB5 := hid hblk5
  have HBB5 := hid hb5
  clear hown5 hgrow5 hblk5 hb5
  have q1 : ((w5.alloc (.cells #[.slice (some ⟨gb, go, none⟩) 5 cap, .slice (some ⟨w.heap.size, 0, none⟩) 5 5, .int .i64 room] 45)).alloc (.cells #[.nilFunc] 48)).cell? ⟨w5.heap.size + 1, 0, none⟩ = some .nilFunc := by simp [go_sem]
  have q2 : ((w5.alloc (.cells #[.slice (some ⟨gb, go, none⟩) 5 cap, .slice (some ⟨w.heap.size, 0, none⟩) 5 5, .int .i64 room] 45)).alloc (.cells #[.nilFunc] 48)).frozen? ⟨w5.heap.size + 1, 0, none⟩ = false := by simp [go_sem]
  go_upto_region 3 with fail
  have hb6 := below2 w5 (.cells #[.slice (some ⟨gb, go, none⟩) 5 cap, .slice (some ⟨w.heap.size, 0, none⟩) 5 5, .int .i64 room] 45) (.cells #[.func (.func 31) #[.pointer (some ⟨w5.heap.size, 0, none⟩)] #[]] 48)
  have hbox := (B3.new w5 (.slice (some ⟨gb, go, none⟩) 5 cap) (.slice (some ⟨w.heap.size, 0, none⟩) 5 5) (.int .i64 room) 45).below (below1 _ (.cells #[.func (.func 31) #[.pointer (some ⟨w5.heap.size, 0, none⟩)] #[]] 48))
  have hop : ((w5.alloc (.cells #[.slice (some ⟨gb, go, none⟩) 5 cap, .slice (some ⟨w.heap.size, 0, none⟩) 5 5, .int .i64 room] 45)).alloc (.cells #[.func (.func 31) #[.pointer (some ⟨w5.heap.size, 0, none⟩)] #[]] 48)).cell? ⟨w5.heap.size + 1, 0, none⟩ = some (.func (.func 31) #[.pointer (some ⟨w5.heap.size, 0, none⟩)] #[]) := by simp [go_sem]
  clear q1 q2
  generalize (w5.alloc (.cells #[.slice (some ⟨gb, go, none⟩) 5 cap, .slice (some ⟨w.heap.size, 0, none⟩) 5 5, .int .i64 room] 45)).alloc (.cells #[.func (.func 31) #[.pointer (some ⟨w5.heap.size, 0, none⟩)] #[]] 48) = W1 at *
  have hW1 := bthen' HBB5.out hb6
  have HSH : Hid (Sh W1 w5.heap.size w.heap.size gb go cap g (fun _ => 0) (room - sp fun _ => 0)) := by
    refine ⟨?_, fun i hi => ((bcell hW1).1 _ _ hgb).trans (HG.out i hi), Nat.lt_of_lt_of_le hgb hW1.size, HB5.out.below hb6, by omega, by omega, by omega⟩
    rw [sp_none, show room - ((0 : Nat) : Int) = room by omega]
    exact hbox
  have HOK := hid (Okf.start g hr0)
  have hps : w.heap.size < w5.heap.size := hz5
  generalize w5.heap.size = s at *
  clear hb6 hbox HB5 HBB5 hz5
  have hbd := bands_any s w.heap.size gb go cap g (fun _ => 0) room W1 HSH.out (fun b hb => Nat.zero_le _)
  go_wp2_with (go_at_call 32; refine hbd.mono ?_; rintro e y1 ⟨v, rfl, hown, hy1⟩)
  have HV := hid (Bv.of hown)
  have HS1 := hid (HSH.out.below hy1)
  have hz1' : s < W1.heap.size := HSH.out.box.z
  have hopz := block_of_cell hop
  have HOP : Hid (y1.cell? ⟨s + 1, 0, none⟩ = some (.func (.func 31) #[.pointer (some ⟨s, 0, none⟩)] #[])) := ((bcell hy1).1 _ _ hopz).trans hop
  have HBL := hid (bthen' hW1 hy1)
  have HE : Hid (chan g room = endF g room fun _ => 0) := rfl
  clear hown hy1 hop HSH hW1 hbd hopz hz1'
  generalize (fun _ => 0 : Nat → Nat) = f0 at *
  go_loopg [7] (rem5 f0) (fun k u wr => ∃ f : Nat → Nat, k = rem5 f ∧ Hid (Okf g room f) ∧ Hid (chan g room = endF g room f) ∧ Hid (Sh wr s w.heap.size gb go cap g f (room - sp f)) ∧ Hid (Bv wr u (bds (mayB g f room) 5)) ∧ Hid (wr.cell? ⟨s + 1, 0, none⟩ = some (.func (.func 31) #[.pointer (some ⟨s, 0, none⟩)] #[])) ∧ Hid (Below w.heap.size w wr))
  case atStart => exact ⟨f0, rfl, HOK, HE, HS1, HV, HOP, HBL⟩
  case round =>
    clear HOK HE HS1 HV HOP HBL
    obtain ⟨f, rfl, HOK, HE, HSH, HV, HOP, HBL⟩ := hrel
    obtain ⟨a, n, c, rfl, hn, hrw⟩ := HV.out
    have hf12 := fun b hb => HOK.out.le b hb
    have hsp := sp_le f (fun b hb => Nat.le_trans (hf12 b hb) (by omega))
    have hcost := HOK.out.cost
    have hlen := bds_len (mayB g f room) 5
    have hmem := fun b (hb : b ∈ bds (mayB g f room) 5) => (bds_mem b hb).1
    have HBS := hid (bsl_bds (mayB g f room) (wor g f) 5)
    have HRW := hid hrw
    have hn5 : n ≤ 5 := by omega
    have HN := hid hn
    by_cases h0 : 0 < n
    · have hwt := worthiest_any s w.heap.size gb go cap g f _ a n c _ wr HSH.out hf12 hg hmem hn h0 hn5 hrw
      have h0' : ((0 : Int) < (n : Int)) := by omega
      have h3 : -1000 ≤ room - (sp f : Int) := by omega
      have h4 : room - (sp f : Int) ≤ 1000 := by omega
      have HF := hid hf12
      clear HV hrw hn hmem hlen hcost hsp hf12
      generalize hL : bds (mayB g f room) 5 = L at *
      go_wp2_with (first | (go_at_call 34; refine hwt.mono ?_; rintro e y2 ⟨x, hx, rfl, hy2⟩; have HBX := hid (hx.symm.trans HBS.out); clear hx; have hx5 := (bst_some HBX.out.symm).1; have HXM := hid (bst_some HBX.out.symm).2; have hx11 : f x ≤ 11 := Nat.le_of_lt_succ (may_lt HXM.out); have had := add_any s w.heap.size gb go cap x w.heap.size g f room y2 (HSH.out.below hy2) hx5 hx11 h3 h4 (Nat.le_of_lt hps) (Nat.le_refl _)) | (go_at_call 33; refine had.mono ?_; rintro e y3 ⟨rfl, hS3, hB3, hN3⟩; have HOK2 := hid (HOK.out.up HXM.out); have hbd := bands_any s w.heap.size gb go cap g (up f x) room y3 hS3 (fun b hb => HOK2.out.le b hb); have HOP3 := hid (hN3.cell (((bcell hy2).1 _ _ (block_of_cell HOP.out)).trans HOP.out) (Nat.succ_ne_self s) (Nat.ne_of_gt (Nat.lt_succ_of_lt hps))); have hop3 := HOP3.out) | (go_at_call 32; refine hbd.mono ?_; rintro e y4 ⟨v4, rfl, hown4, hy4⟩))
      have HE2 : Hid (chan g room = endF g room (up f x)) := by unfold Hid; rw [HE.out]; exact endF_some HBX.out.symm
      have hrem := rem_up f x hx5 (may_lt HXM.out)
      go_roundg (rem5 (up f x))
      case measure => omega
      case rel => exact ⟨up f x, rfl, HOK2, HE2, hS3.below hy4, Bv.of hown4, ((bcell hy4).1 _ _ (block_of_cell hop3)).trans hop3, bthen' ((bthen' HBL.out hy2).trans hB3) hy4⟩
    · have h0' : n = 0 := by omega
      have HR : Hid (chan g room = f) := by
        unfold Hid
        rw [HE.out]
        apply endF_none
        rw [← HBS.out, List.eq_nil_of_length_eq_zero (hn.symm.trans h0')]
        rfl
      have c1 := HSH.out.box.c1
      have HPU := hid HSH.out.pu
      clear hn HBS HV hrw hmem hlen hcost hsp hf12 h0 HN HRW HE HOP HOK
      subst h0'
      go_wp2
      go_ret
      exact ⟨_, rfl, Nat.le_refl _, by rw [HR.out]; exact HPU.out, HBL.out⟩
end Go.Proofs.Ytlpjkahppogkiaa
