/- The encoder that stands for one, with bytes of its own; all bytes. -/
import Derived.Test.YtkfpphccpkfenaaCg
namespace Go.Proofs.Ytkfpphccpkfenaa
open Go.RowKit
set_option linter.unusedVariables false
set_option linter.unusedSimpArgs false

theorem info5 : (Try.prog.info? 5).map (fun i => (i.zero, i.size, i.bytes)) = some (some (.int .u8 0), 1, 1) := by kernel_rfl
theorem info3 : (Try.prog.info? 3).map (fun i => (i.zero, i.size, i.bytes)) = some (some (.int .i64 0), 1, 8) := by kernel_rfl

/-- An encoder that was handed in, and the one that stands for it. -/
def EvOf (w : World) (L R : Int) (a : Option Addr) (n cap : Nat) (e : En) : Prop :=
  e.Ok ∧ ((encB L R n = true ∧ L = e.low ∧ R = e.R ∧ n = e.m ∧ Rw .u8 w (.slice a n cap) e.out) ∨ (encB L R n = false ∧ e = En.new))
theorem EvOf.below {w w' : World} {L R : Int} {a : Option Addr} {n cap : Nat} {e : En} (h : EvOf w L R a n cap e) (hb : Below w.heap.size w w') : EvOf w' L R a n cap e := by
  obtain ⟨h0, h⟩ := h
  refine ⟨h0, ?_⟩
  rcases h with ⟨h1, h2, h3, h4, h5⟩ | h
  · exact .inl ⟨h1, h2, h3, h4, h5.below hb⟩
  · exact .inr h
theorem En.Ok.encB {e : En} (h : e.Ok) : encB e.low e.R e.m = true := by
  unfold Go.Proofs.Ytkfpphccpkfenaa.encB
  rw [decide_eq_true_eq]
  have := En.Ok.low_lt e
  have := h.r.1
  have := h.le
  omega
theorem En.Ok.ev {e : En} (h : e.Ok) {w : World} {a : Option Addr} {cap : Nat} (hr : Rw .u8 w (.slice a e.m cap) e.out) : EvOf w e.low e.R a e.m cap e :=
  ⟨h, .inl ⟨h.encB, rfl, rfl, rfl, hr⟩⟩
theorem ev_some {w : World} {L R : Int} {a : Option Addr} {n cap : Nat} {zs : List Int} (hL : (Lit.int .u64 L).wf = true) (hR : (Lit.int .u32 R).wf = true) (hz : IsRow .u8 w a n cap zs) : ∃ e, EvOf w L R a n cap e := by
  obtain ⟨xs, hx, hrw, hby⟩ := row_rw hz
  subst hx
  cases h : encB L R xs.length
  · exact ⟨En.new, En.new_ok, .inr ⟨h, rfl⟩⟩
  · have h' := h
    unfold encB at h'
    rw [decide_eq_true_eq] at h'
    simp [Lit.wf, IntKind.min, IntKind.max, IntKind.bits, IntKind.signed] at hL hR
    have l1 : L.toNat < 4294967296 := by omega
    refine ⟨En.of xs L.toNat R.toNat, En.of_ok hby l1 ⟨by omega, by omega⟩ (by omega), .inl ⟨h, ?_, ?_, rfl, ?_⟩⟩
    · rw [En.of_low _ _ _ l1]; omega
    · show R = (R.toNat : Int); omega
    · rw [En.of_out _ _ hby l1]; exact hrw

/-- The value of an encoder, the program's. -/
def encV (v : Value) (e : En) : Value := .agg #[.int .u64 e.low, .int .u32 e.R, v]

theorem run_make_more (n : Nat) (h : n ≤ 4000) (w : World) : (Instr.makeSlice 24 (.int .i64 (n : Int)) (.int .i64 ((n : Int) + 4))).run Try.prog w = .ok (.slice (some ⟨w.heap.size, 0, none⟩) n (n + 4)) (w.alloc (.cells (madeCells #[.int .u8 0] (n + 4)) 5)) := by
  obtain ⟨i0, hi, hz0, hz1, hz2⟩ := info_parts info5
  have := run_make (P := Try.prog) w 24 5 i0 (.int .u8 0) Try.underlying24 hi hz0 .i64 .i64 (n : Int) ((n : Int) + 4) (by omega) (by omega) (by rw [hz2]; omega) (by omega)
  rw [this, hz1, show ((n : Int) + 4).toNat = n + 4 by omega, show ((n : Int)).toNat = n by omega, Nat.mul_one]
  rfl

theorem made_heap (w : World) (n : Nat) : (w.alloc (.cells (madeCells #[.int .u8 0] (n + 4)) 5)).heap[w.heap.size]? = some (.cells (List.replicate (n + 4) (Value.int .u8 0)).toArray 5 (0, 0)) := by
  rw [← made_one]
  show (w.heap.push _)[w.heap.size]? = _
  simp

set_option maxRecDepth 10000 in
set_option maxHeartbeats 2000000 in
theorem encFor_any (L R : Int) (a : Option Addr) (n cap : Nat) (e : En) (w : World) (h : EvOf w L R a n cap e) :
    Calls Try.prog 42 #[.agg #[.int .u64 L, .int .u32 R, .slice a n cap]] w fun x w' => ∃ a' cap', x = .returned (encV (.slice a' e.m cap') e) ∧ w'.ownsRow w.heap.size 5 1 (.slice a' e.m cap') e.m (e.out.map (Value.int .u8)) ∧ Below w.heap.size w w' := by
  obtain ⟨h0, h⟩ := h
  have hW := below2 w (.cells #[.int .u64 L, .int .u32 R, .slice a n cap] 26) (.cells #[.int .u64 0, .int .u32 0, .slice none 0 0] 26)
  rcases h with ⟨h1, rfl, rfl, rfl, h6⟩ | ⟨h1, rfl⟩
  · have hle := h0.le
    have hmk := run_make_more e.m hle
    go_enter Try.func42, Try.ntmps42
    go_wp2_with (first | (go_at_call 51; refine (rightEnc_any _ _ _ _ _ _).mono ?_; rw [h1]; rintro x w1 ⟨rfl, hb1⟩; have hB3 := ((B3.new w _ _ _ _).below (below1 _ _)).below hb1; have hR3 := (B3.new2 w _ _ _ _ _).below hb1; obtain ⟨z, c0, c1, c2, f0, f1, f2⟩ := id hB3) | (refine wpList_copy_splice rfl (.tmp 16) (.tmp 18) 24 24 rfl 5 Try.underlying24 (by kernel_rfl) _ _ _ _ _ _ rfl rfl w1.heap.size 0 (List.replicate (e.m + 4) (.int .u8 0)) 5 (made_heap w1 e.m) (e.out.map (Value.int .u8)) ?c1 ?c2 ?c3 ?c4 w1.heap.size w1 (below1 w1 _) (Nat.le_refl _) ?_))
    case c1 => simp only [List.length_map, En.out_length]; exact (Nat.min_self _).symm
    case c2 =>
      intro hpos
      have hpos' : 0 < e.m := by simpa [En.out_length] using hpos
      have h7 : Rw .u8 _ (.slice a e.m cap) e.out := (h6.below (bthen hW hb1 hW.size)).below (below1 w1 (.cells (madeCells #[.int .u8 0] (e.m + 4)) 5))
      obtain ⟨a', cap', he, ha⟩ := h7
      rw [En.out_length] at he
      simp only [Value.slice.injEq] at he
      obtain ⟨rfl, _, rfl⟩ := he
      obtain ⟨b, off, rfl, hb, hc⟩ := ha.resolve_left (by intro h; have := En.out_length e; rw [h] at this; simp at this; omega)
      refine ⟨_, rfl, fun j x hj => ?_⟩
      have hjl : j < e.out.length := (List.getElem?_eq_some_iff.1 hj).1
      rw [Addr.add_lit, hc j hjl]
      simp [hj]
    case c3 => simp [En.out_length]
    case c4 => exact ints_oneCell _ _
    intro w2 H2 hb2
    have hz1 := hb1.size
    simp at hz1
    have hown : w2.ownsRow (w.heap.size + 2) 5 1 (.slice (some ⟨w1.heap.size, 0, none⟩) e.m (e.m + 4)) e.m (e.out.map (Value.int .u8)) := by
      refine ⟨by simp [En.out_length], .inr ⟨w1.heap.size, e.m + 4, _, rfl, by omega, H2.out, by omega, by unfold maxLen; omega, ?_, ?_⟩⟩
      · simp [splice, En.out_length]
      · simp [splice, En.out_length]
    have hB4 := hB3.below hb2
    have hR4 := hR3.below hb2
    have hbb : Below w.heap.size w w2 := bthen (bthen hW hb1 hW.size) hb2 (by omega)
    clear c0 c1 c2 f0 f1 f2 hb2 H2 hb1 hB3 hR3
    obtain ⟨z, c0, c1, c2, f0, f1, f2⟩ := id hB4
    obtain ⟨rz, r0, r1, r2, p0, p1, p2⟩ := id hR4
    go_wp2
    refine bodyPost_ret (v := encV (.slice (some ⟨w1.heap.size, 0, none⟩) e.m (e.m + 4)) e) (by simp [results, Try.results42, go_sem, c0, c1, c2, r0, r1, r2, p0, p1, p2, encV]) rfl ⟨_, _, rfl, ?_, ?_⟩
    · exact owns_base (owns_other (owns_other (owns_other (owns_other hown _ _ _ (by omega)) _ _ _ (by omega)) _ _ _ (by omega)) _ _ _ (by omega)) (by omega)
    · exact bset3 (bset1 hbb _ _ _ (by omega)) _ _ _ _ (by omega)
  · go_enter Try.func42, Try.ntmps42
    go_wp2_with (first | (go_at_call 51; refine (rightEnc_any _ _ _ _ _ _).mono ?_; rw [h1]; rintro x w1 ⟨rfl, hb1⟩) | (go_at_call 22; refine (new_any _).mono ?_; rintro x w2 ⟨rfl, hb2⟩; obtain ⟨rz, r0, r1, r2, p0, p1, p2⟩ := ((B3.new2 w _ _ _ _ _).below hb1).below hb2))
    have hbb := bthen hW hb1 hW.size
    refine bodyPost_ret (v := .agg #[.int .u64 0, .int .u32 4294967295, .slice none 0 0]) (by simp [results, Try.results42, go_sem, r0, r1, r2, p0, p1, p2]) rfl ⟨none, 0, rfl, World.ownsRow_nil _ _ _ _, ?_⟩
    exact bset3 (bthen hbb hb2 hbb.size) _ _ _ _ (by omega)
end Go.Proofs.Ytkfpphccpkfenaa
