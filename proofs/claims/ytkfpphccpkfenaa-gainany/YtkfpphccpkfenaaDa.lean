/- A number is put: the document. -/
import Derived.Test.YtkfpphccpkfenaaCz
namespace Go.Proofs.Ytkfpphccpkfenaa
open Go.RowKit
set_option linter.unusedVariables false
set_option linter.unusedSimpArgs false

/-- A row lies not in a block that is a struct. -/
theorem row_not {w : World} {a : Option Addr} {n cap b : Nat} {xs : List Int} {x : Int} {s : Option Addr} {l c : Nat} {t : TypeId} (h : Rw .i64 w (.slice a n cap) xs) (hn : 0 < xs.length) (hb : w.heap[b]? = some (.cells #[.int .u64 x, .slice s l c] t (0, 0))) : ∀ b' off, a = some ⟨b', off, none⟩ → b' ≠ b := by
  obtain ⟨a', cap', he, ha⟩ := h
  simp only [Value.slice.injEq] at he
  obtain ⟨rfl, _, rfl⟩ := he
  obtain ⟨b1, off, rfl, hz, hc⟩ := ha.resolve_left (by intro h; subst h; simp at hn)
  intro b' off' hh
  simp only [Option.some.injEq, Addr.mk.injEq, and_true] at hh
  obtain ⟨rfl, rfl⟩ := hh
  intro hbb
  subst hbb
  have h0 := hc 0 hn
  simp only [World.cell?, hb, Nat.add_zero] at h0
  match off, h0 with
  | 0, h0 => simp at h0
  | 1, h0 => simp at h0
  | k + 2, h0 => simp at h0
theorem rEv.store {w : World} {R : Int} {a : Option Addr} {n cap b : Nat} {e : En} {x : Int} {s : Option Addr} {l c : Nat} {t : TypeId} (h : rEv w R a n cap e) (hb : w.heap[b]? = some (.cells #[.int .u64 x, .slice s l c] t (0, 0))) (y0 y1 : Value) : rEv ((w.setCell ⟨b, 0, none⟩ y0).setCell ⟨b, 1, none⟩ y1) R a n cap e := by
  have hn : 0 < e.all.length := by rw [En.all_length]; omega
  have hne := row_not h.2.2.2 hn hb
  exact ⟨h.1, h.2.1, h.2.2.1, (h.2.2.2.off hne 0 y0).off hne 1 y1⟩
/-- The document's answer. -/
def RPut (w : World) (x : Ending) (w' : World) (F : En) (er : Int) : Prop := ∃ R' a' n' cap', x = .returned (.tuple #[.agg #[.int .u64 R', .slice a' n' cap'], .int .i64 er]) ∧ rEv w' R' a' n' cap' F ∧ Below w.heap.size w w'

set_option maxRecDepth 10000 in
set_option maxHeartbeats 2000000 in
theorem rputNum_arg (R : Int) (a : Option Addr) (m cap : Nat) (e : En) (v n : Nat) (hn : n = 0 ∨ 4294967296 < n ∨ n ≤ v) (w : World) (h : rEv w R a m cap e) :
    Calls Try.prog 32 #[.agg #[.int .u64 R, .slice a m cap], .int .u64 v, .int .u64 n] w fun x w' => RPut w x w' e 1 := by
  have h3 : ((n : Int) == 0) = true ∨ (((n : Int) == 0) = false ∧ (4294967296 : Int) < n) ∨ (((n : Int) == 0) = false ∧ ¬ (4294967296 : Int) < n ∧ (n : Int) ≤ v) := by
    have e1 : ((n : Int) == 0) = decide (n = 0) := by by_cases h : n = 0 <;> simp [h]
    rw [e1]
    by_cases h : n = 0
    · simp [h]
    · simp [h]; omega
  clear hn
  have hW := below2 w (.cells #[.int .u64 R, .slice a m cap] 36) (.cells #[.int .u64 0, .slice none 0 0] 36)
  rcases h3 with h1 | ⟨h1, h2⟩ | ⟨h1, h2, h3⟩
  all_goals
    go_enter Try.func32, Try.ntmps32
    go_wp2
    refine bodyPost_ret (v := .tuple #[.agg #[.int .u64 R, .slice a m cap], .int .i64 1]) (by simp [results, Try.results32, go_sem]) rfl ⟨R, a, m, cap, rfl, h.below (below2 _ _ _), below2 _ _ _⟩

set_option maxRecDepth 10000 in
set_option maxHeartbeats 2000000 in
theorem rputNum_small (R : Int) (a : Option Addr) (m cap : Nat) (e : En) (v n : Nat) (h1 : 1 ≤ n) (h2 : n ≤ 65536) (h3 : v < n) (w : World) (h : rEv w R a m cap e) :
    Calls Try.prog 32 #[.agg #[.int .u64 R, .slice a m cap], .int .u64 v, .int .u64 n] w fun x w' => RPut w x w' (putE e v (v + 1) n) (putF e v (v + 1) n) := by
  have hW := below2 w (.cells #[.int .u64 R, .slice a m cap] 36) (.cells #[.int .u64 0, .slice none 0 0] 36)
  have hone := fun W h => rput_all R a m cap e v (v + 1) n W h
  generalize putE e v (v + 1) n = F at *
  generalize putF e v (v + 1) n = er at *
  have k1 : ((n : Int) == 0) = false := by simp; omega
  have k2 : ¬ (4294967296 : Int) < n := by omega
  have k3 : ¬ (n : Int) ≤ v := by omega
  have k4 : (n : Int) ≤ 65536 := by omega
  have i1 : IntKind.i64.wrap (v : Int) = v := wraps_i64 _ (by omega) (by omega)
  have i2 : IntKind.i64.wrap (n : Int) = n := wraps_i64 _ (by omega) (by omega)
  clear h1 h2 h3
  go_enter Try.func32, Try.ntmps32
  go_wp2_with (go_at_call 31; refine (hone _ (h.below hW)).mono ?_; rintro x w1 ⟨R1, a1, n1, cap1, rfl, q, hb1⟩; obtain ⟨rz, r0, r1, p0, p1⟩ := (B2.new2 w _ _ _ _).below hb1)
  have hbw := bthen hW hb1 hW.size
  exact bodyPost_ret (v := .tuple #[.agg #[.int .u64 R1, .slice a1 n1 cap1], .int .i64 er]) (by simp [results, Try.results32, go_sem, r0, r1, p0, p1]) rfl ⟨R1, a1, n1, cap1, rfl, q.store (res_block hb1) _ _, bset2' hbw _ _ _ (by omega)⟩

def RNumPost (w : World) (x : Ending) (w' : World) (e F2 : En) (er1 er2 : Int) : Prop := (er1 = 0 ∧ er2 = 0 → RPut w x w' F2 0) ∧ (er1 = 0 ∧ (er2 == 0) = false → RPut w x w' e er2) ∧ ((er1 == 0) = false → RPut w x w' e er1)
set_option maxRecDepth 10000 in
set_option maxHeartbeats 4000000 in
theorem rputNum_great (R : Int) (a : Option Addr) (m cap : Nat) (e F1 F2 : En) (er1 er2 : Int) (v n q1 r1 u : Nat) (h2 : 65536 < n) (h3 : n ≤ 4294967296) (hv : v < n) (hq1 : q1 = v / 65536) (hr1 : r1 = v % 65536) (hu : u = (n - 1) / 65536)
    (hone1 : ∀ W, rEv W R a m cap e → Calls Try.prog 31 #[.agg #[.int .u64 R, .slice a m cap], .int .i64 q1, .int .i64 ((q1 : Int) + 1), .int .i64 ((u : Int) + 1)] W fun x w' => RPut W x w' F1 er1)
    (hone2 : ∀ W R a m c, rEv W R a m c F1 → Calls Try.prog 31 #[.agg #[.int .u64 R, .slice a m c], .int .i64 r1, .int .i64 ((r1 : Int) + 1), .int .i64 65536] W fun x w' => RPut W x w' F2 er2)
    (w : World) (h : rEv w R a m cap e) :
    Calls Try.prog 32 #[.agg #[.int .u64 R, .slice a m cap], .int .u64 v, .int .u64 n] w fun x w' => RNumPost w x w' e F2 er1 er2 := by
  have hd1 : ((v : Int).tdiv 65536) = (q1 : Int) := by rw [hq1]; rfl
  have hd2 : ((v : Int).tmod 65536) = (r1 : Int) := by rw [hr1]; rfl
  obtain ⟨k, rfl⟩ : ∃ k, n = k + 1 := ⟨n - 1, by omega⟩
  have hd3 : ((k : Int).tdiv 65536) = (u : Int) := by rw [hu]; rfl
  rw [show ((k + 1 : Nat) : Int) = (k : Int) + 1 by omega]
  have k1 : (((k : Int) + 1) == 0) = false := by simp; omega
  have k2 : ¬ (4294967296 : Int) < (k : Int) + 1 := by omega
  have k3 : ¬ ((k : Int) + 1) ≤ v := by omega
  have k4 : ¬ ((k : Int) + 1) ≤ 65536 := by omega
  have k5 : q1 ≤ 65536 := by omega
  have k6 : r1 < 65536 := by omega
  have k7 : u ≤ 65536 := by omega
  have i1 : IntKind.i64.wrap (q1 : Int) = q1 := wraps_i64 _ (by omega) (by omega)
  have i2 : IntKind.i64.wrap (r1 : Int) = r1 := wraps_i64 _ (by omega) (by omega)
  have i3 : IntKind.i64.wrap (u : Int) = u := wraps_i64 _ (by omega) (by omega)
  have hW := below2 w (.cells #[.int .u64 R, .slice a m cap] 36) (.cells #[.int .u64 0, .slice none 0 0] 36)
  clear hq1 hr1 hu h2 h3 hv
  by_cases her1 : er1 = 0
  · subst her1
    cases her2 : er2 == 0
    · have HER : Hid ((er2 == 0) = false) := her2
      have hne : (er2 != 0) = true := by simp [bne, her2]
      clear her2
      go_enter Try.func32, Try.ntmps32
      go_wp2_with (first | (go_at_call_of 31 (Value.int IntKind.i64 (q1 : Int)); refine (hone1 _ (h.below hW)).mono ?_; rintro x w1 ⟨R1, a1, n1, cap1, rfl, q, hb1⟩; have hBe := (((B2.new w (.int .u64 R) (.slice a m cap) 36).below (below1 _ (.cells #[.int .u64 0, .slice none 0 0] 36))).below hb1).below (below1 w1 (.cells #[.int .u64 R1, .slice a1 n1 cap1] 36)); have hBr := ((B2.new2 w (.cells #[.int .u64 R, .slice a m cap] 36) (.int .u64 0) (.slice none 0 0) 36).below hb1).below (below1 w1 (.cells #[.int .u64 R1, .slice a1 n1 cap1] 36)); have hbk := res_block (bthen' hb1 (below1 w1 (.cells #[.int .u64 R1, .slice a1 n1 cap1] 36))); have hbw := bthen hW hb1 hW.size; have hbx := hbw.alloc hbw.size (.cells #[.int .u64 R1, .slice a1 n1 cap1] 36); have q1' := q.below (below1 w1 (.cells #[.int .u64 R1, .slice a1 n1 cap1] 36)); obtain ⟨ez, e0, e1, eg0, eg1⟩ := id hBe; obtain ⟨rz, r0, rr1, p0, p1⟩ := id hBr) | (go_at_call_of 31 (Value.int IntKind.i64 (r1 : Int)); refine (hone2 _ _ _ _ _ q1').mono ?_; rintro x w2 ⟨R2, a2, n2, cap2, rfl, q2, hb2⟩; have hBe2 := (hBe.below hb2).below (below1 w2 (.cells #[.int .u64 R2, .slice a2 n2 cap2] 36)); have hBr2 := (hBr.below hb2).below (below1 w2 (.cells #[.int .u64 R2, .slice a2 n2 cap2] 36)); have hbx2a := bthen hbx hb2 hbx.size; have hbx2 := hbx2a.alloc hbx2a.size (.cells #[.int .u64 R2, .slice a2 n2 cap2] 36); have q2' := q2.below (below1 w2 (.cells #[.int .u64 R2, .slice a2 n2 cap2] 36)); have hbk2 := (bthen' hb2 (below1 w2 (.cells #[.int .u64 R2, .slice a2 n2 cap2] 36))).block (w.heap.size + 1) hBr.z; rw [hbk] at hbk2; obtain ⟨ez2, f0, f1, fg0, fg1⟩ := id hBe2; obtain ⟨rz2, s0, ss1, t0, t1⟩ := id hBr2))
      refine bodyPost_ret (v := .tuple #[.agg #[.int .u64 R, .slice a m cap], .int .i64 er2]) (by simp [results, Try.results32, go_sem, s0, ss1, t0, t1]) rfl ?_
      exact ⟨fun hh => (by have her2 := HER.out; rw [hh.2] at her2; simp at her2), fun _ => ⟨R, a, m, cap, rfl, (h.below hbx2).store hbk2 _ _, bset2' hbx2 _ _ _ (by omega)⟩, fun hh => (by simp at hh)⟩
    · have her : er2 = 0 := by simpa using her2
      subst her
      go_enter Try.func32, Try.ntmps32
      go_wp2_with (first | (go_at_call_of 31 (Value.int IntKind.i64 (q1 : Int)); refine (hone1 _ (h.below hW)).mono ?_; rintro x w1 ⟨R1, a1, n1, cap1, rfl, q, hb1⟩; have hBe := (((B2.new w (.int .u64 R) (.slice a m cap) 36).below (below1 _ (.cells #[.int .u64 0, .slice none 0 0] 36))).below hb1).below (below1 w1 (.cells #[.int .u64 R1, .slice a1 n1 cap1] 36)); have hBr := ((B2.new2 w (.cells #[.int .u64 R, .slice a m cap] 36) (.int .u64 0) (.slice none 0 0) 36).below hb1).below (below1 w1 (.cells #[.int .u64 R1, .slice a1 n1 cap1] 36)); have hbk := res_block (bthen' hb1 (below1 w1 (.cells #[.int .u64 R1, .slice a1 n1 cap1] 36))); have hbw := bthen hW hb1 hW.size; have hbx := hbw.alloc hbw.size (.cells #[.int .u64 R1, .slice a1 n1 cap1] 36); have q1' := q.below (below1 w1 (.cells #[.int .u64 R1, .slice a1 n1 cap1] 36)); obtain ⟨ez, e0, e1, eg0, eg1⟩ := id hBe; obtain ⟨rz, r0, rr1, p0, p1⟩ := id hBr) | (go_at_call_of 31 (Value.int IntKind.i64 (r1 : Int)); refine (hone2 _ _ _ _ _ q1').mono ?_; rintro x w2 ⟨R2, a2, n2, cap2, rfl, q2, hb2⟩; have hBe2 := (hBe.below hb2).below (below1 w2 (.cells #[.int .u64 R2, .slice a2 n2 cap2] 36)); have hBr2 := (hBr.below hb2).below (below1 w2 (.cells #[.int .u64 R2, .slice a2 n2 cap2] 36)); have hbx2a := bthen hbx hb2 hbx.size; have hbx2 := hbx2a.alloc hbx2a.size (.cells #[.int .u64 R2, .slice a2 n2 cap2] 36); have q2' := q2.below (below1 w2 (.cells #[.int .u64 R2, .slice a2 n2 cap2] 36)); have hbk2 := (bthen' hb2 (below1 w2 (.cells #[.int .u64 R2, .slice a2 n2 cap2] 36))).block (w.heap.size + 1) hBr.z; rw [hbk] at hbk2; obtain ⟨ez2, f0, f1, fg0, fg1⟩ := id hBe2; obtain ⟨rz2, s0, ss1, t0, t1⟩ := id hBr2))
      refine bodyPost_ret (v := .tuple #[.agg #[.int .u64 R2, .slice a2 n2 cap2], .int .i64 0]) (by simp [results, Try.results32, go_sem, s0, ss1, t0, t1]) rfl ?_
      exact ⟨fun _ => ⟨R2, a2, n2, cap2, rfl, q2'.store hbk2 _ _, bset2' hbx2 _ _ _ (by omega)⟩, fun hh => (by simp at hh), fun hh => (by simp at hh)⟩
  · have HER : Hid (¬ er1 = 0) := her1
    have hne : (er1 != 0) = true := by simpa using her1
    clear her1
    go_enter Try.func32, Try.ntmps32
    go_wp2_with (go_at_call_of 31 (Value.int IntKind.i64 (q1 : Int)); refine (hone1 _ (h.below hW)).mono ?_; rintro x w1 ⟨R1, a1, n1, cap1, rfl, q, hb1⟩; have hBe := (((B2.new w (.int .u64 R) (.slice a m cap) 36).below (below1 _ (.cells #[.int .u64 0, .slice none 0 0] 36))).below hb1).below (below1 w1 (.cells #[.int .u64 R1, .slice a1 n1 cap1] 36)); have hBr := ((B2.new2 w (.cells #[.int .u64 R, .slice a m cap] 36) (.int .u64 0) (.slice none 0 0) 36).below hb1).below (below1 w1 (.cells #[.int .u64 R1, .slice a1 n1 cap1] 36)); have hbk := res_block (bthen' hb1 (below1 w1 (.cells #[.int .u64 R1, .slice a1 n1 cap1] 36))); have hbw := bthen hW hb1 hW.size; have hbx := hbw.alloc hbw.size (.cells #[.int .u64 R1, .slice a1 n1 cap1] 36); have q1' := q.below (below1 w1 (.cells #[.int .u64 R1, .slice a1 n1 cap1] 36)); obtain ⟨ez, e0, e1, eg0, eg1⟩ := id hBe; obtain ⟨rz, r0, rr1, p0, p1⟩ := id hBr)
    refine bodyPost_ret (v := .tuple #[.agg #[.int .u64 R, .slice a m cap], .int .i64 er1]) (by simp [results, Try.results32, go_sem, r0, rr1, p0, p1]) rfl ?_
    exact ⟨fun hh => absurd hh.1 HER.out, fun hh => absurd hh.1 HER.out, fun _ => ⟨R, a, m, cap, rfl, (h.below hbx).store hbk _ _, bset2' hbx _ _ _ (by omega)⟩⟩

theorem rputNum_any (R : Int) (a : Option Addr) (m cap : Nat) (e : En) (v n : Nat) (w : World) (h : rEv w R a m cap e) :
    Calls Try.prog 32 #[.agg #[.int .u64 R, .slice a m cap], .int .u64 v, .int .u64 n] w fun x w' => RPut w x w' (putNE e v n) (putNF e v n) := by
  unfold putNE putNF
  by_cases h1 : n = 0 ∨ 4294967296 < n ∨ n ≤ v
  · simp only [h1, if_true]
    exact rputNum_arg R a m cap e v n h1 w h
  · simp only [h1, if_false]
    by_cases h2 : n ≤ 65536
    · simp only [h2, if_true]
      exact rputNum_small R a m cap e v n (by omega) h2 (by omega) w h
    · simp only [h2, if_false]
      have hc : (((n - 1) / 65536 + 1 : Nat) : Int) = (((n - 1) / 65536 : Nat) : Int) + 1 := by omega
      have key := rputNum_great R a m cap e _ _ _ _ v n (v / 65536) (v % 65536) ((n - 1) / 65536) (by omega) (by omega) (by omega) rfl rfl rfl (fun W hh => by have := rput_all R a m cap e (v / 65536 : Nat) ((v / 65536 : Nat) + 1) ((n - 1) / 65536 + 1 : Nat) W hh; rw [hc] at this; exact this) (fun W R a m c hh => rput_all R a m c _ (v % 65536 : Nat) ((v % 65536 : Nat) + 1) (65536 : Nat) W hh) w h
      rw [← hc] at key
      refine key.mono fun x w' hp => ?_
      obtain ⟨g1, g2, g3⟩ := hp
      by_cases k1 : putF e (v / 65536 : Nat) ((v / 65536 : Nat) + 1) ((n - 1) / 65536 + 1 : Nat) = 0
      · simp only [k1, if_true]
        by_cases k2 : putF (putE e (v / 65536 : Nat) ((v / 65536 : Nat) + 1) ((n - 1) / 65536 + 1 : Nat)) (v % 65536 : Nat) ((v % 65536 : Nat) + 1) (65536 : Nat) = 0
        · simp only [k2, if_true]
          exact g1 ⟨k1, k2⟩
        · simp only [k2, if_false]
          exact g2 ⟨k1, by simpa using k2⟩
      · simp only [k1, if_false]
        exact g3 (by simpa using k1)
end Go.Proofs.Ytkfpphccpkfenaa
