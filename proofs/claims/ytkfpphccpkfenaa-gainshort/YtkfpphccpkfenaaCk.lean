/- A choice is put, by the program. -/
import Derived.Test.YtkfpphccpkfenaaCj
namespace Go.Proofs.Ytkfpphccpkfenaa
open Go.RowKit
set_option linter.unusedVariables false
set_option linter.unusedSimpArgs false

/-! ### An encoder on the way -/
def En.step (e : En) : En := ⟨e.N * 256, e.m + 1, e.R * 256⟩
def En.norm (e : En) : En := ⟨e.N * 256 ^ sh e.R, e.m + sh e.R, e.R * 256 ^ sh e.R⟩
theorem En.norm_done (e : En) (h : 16777216 ≤ e.R) : e.norm = e := by
  have : sh e.R = 0 := by unfold sh; rw [if_neg (by omega), if_neg (by omega)]
  unfold En.norm; rw [this]; simp
theorem En.norm_step (e : En) (h0 : 256 ≤ e.R) (h : e.R < 16777216) : e.norm = e.step.norm := by
  unfold En.norm
  rw [sh_step e.R h0 h]
  show En.mk _ _ _ = En.mk _ _ _
  simp only [En.step, Nat.pow_succ, Nat.mul_assoc, Nat.mul_comm, Nat.mul_left_comm, En.mk.injEq]
  refine ⟨trivial, by omega, trivial⟩
/-- The encoder behind the adding, ahead of the moving. -/
def En.raw (e : En) (lo hi tot : Nat) : En := ⟨(e.N + ahead e.R lo tot) % 256 ^ (e.m + 4), e.m, width e.R lo hi tot⟩
theorem En.put_norm (e : En) (lo hi tot : Nat) : e.put lo hi tot = (e.raw lo hi tot).norm := rfl
structure En.Mid (e : En) : Prop where
  lt : e.N < 256 ^ (e.m + 4)
  r0 : 256 ≤ e.R
  r1 : e.R ≤ 4294967295
  m : e.m + sh e.R ≤ 3998
theorem En.Mid.step {e : En} (h : e.Mid) (hr : e.R < 16777216) : e.step.Mid := by
  have h0 := h.r0
  have hm := h.m
  rw [sh_step e.R h0 hr] at hm
  refine ⟨?_, by show 256 ≤ e.R * 256; omega, by show e.R * 256 ≤ _; omega, by show e.m + 1 + sh (e.R * 256) ≤ 3998; omega⟩
  show e.N * 256 < 256 ^ (e.m + 1 + 4)
  rw [show e.m + 1 + 4 = (e.m + 4) + 1 by omega, Nat.pow_succ]
  exact Nat.mul_lt_mul_of_pos_right h.lt (by decide)
theorem En.step_low (e : En) : e.step.low = e.low % 16777216 * 256 := by unfold En.low En.step; simp only; omega
theorem En.step_out (e : En) : e.step.out = e.out ++ [((e.low / 16777216 : Nat) : Int)] := by
  unfold En.out En.step En.top En.low
  simp only [beL]
  rw [show e.N * 256 / 4294967296 / 256 = e.N / 4294967296 by omega, show e.N * 256 / 4294967296 % 256 = e.N % 4294967296 / 16777216 by omega]
theorem En.Ok.rawMid {e : En} (h : e.Ok) {lo hi tot : Nat} (hf : Fair lo hi tot) (hm : e.m < 3996) : (e.raw lo hi tot).Mid := by
  have h1 := width_256 h.r hf
  have h2 := ahead_width (R := e.R) hf
  have h3 := h.r.2
  have h4 := sh_le (width e.R lo hi tot)
  exact ⟨Nat.mod_lt _ (Nat.pow_pos (by decide)), h1, by show width _ _ _ _ ≤ _; omega, by show e.m + sh (width _ _ _ _) ≤ 3998; omega⟩
theorem En.Ok.top_be {e : En} (h : e.Ok) : be e.out = e.top := by
  unfold En.out
  rw [be_beL, Nat.mod_eq_of_lt h.top_lt]
/-- Nothing is carried. -/
theorem En.Ok.raw_low {e : En} (h : e.Ok) {lo hi tot : Nat} (hc : e.low + ahead e.R lo tot < 4294967296) : (e.raw lo hi tot).low = e.low + ahead e.R lo tot ∧ (e.raw lo hi tot).out = e.out := by
  have hp := e.parts
  have ht := h.top_lt
  have hlt : e.N + ahead e.R lo tot < 256 ^ (e.m + 4) := by
    rw [Nat.pow_add, pow4]
    omega
  have e1 : (e.raw lo hi tot).N = e.top * 4294967296 + (e.low + ahead e.R lo tot) := by
    show (e.N + ahead e.R lo tot) % 256 ^ (e.m + 4) = _
    rw [Nat.mod_eq_of_lt hlt]; omega
  constructor
  · show (e.raw lo hi tot).N % 4294967296 = _
    rw [e1]; omega
  · show beL ((e.raw lo hi tot).N / 4294967296) e.m = beL e.top e.m
    rw [e1]; congr 1; omega
/-- One is carried. -/
theorem En.Ok.raw_carry {e : En} (h : e.Ok) {lo hi tot : Nat} (hc : 4294967296 ≤ e.low + ahead e.R lo tot) (hR : ahead e.R lo tot < 4294967296) : (e.raw lo hi tot).low = e.low + ahead e.R lo tot - 4294967296 ∧ (e.raw lo hi tot).out = carried e.out := by
  have hp := e.parts
  have hl := En.Ok.low_lt e
  have e1 : (e.raw lo hi tot).N = (e.top + 1) % 256 ^ e.m * 4294967296 + (e.low + ahead e.R lo tot - 4294967296) := by
    show (e.N + ahead e.R lo tot) % 256 ^ (e.m + 4) = _
    rw [Nat.pow_add, pow4, Nat.mul_comm (256 ^ e.m), Nat.mod_mul]
    have q1 : (e.N + ahead e.R lo tot) % 4294967296 = e.low + ahead e.R lo tot - 4294967296 := by omega
    have q2 : (e.N + ahead e.R lo tot) / 4294967296 = e.top + 1 := by omega
    rw [q1, q2, Nat.mul_comm 4294967296]
    omega
  constructor
  · show (e.raw lo hi tot).N % 4294967296 = _
    rw [e1]; omega
  · show beL ((e.raw lo hi tot).N / 4294967296) e.m = carried e.out
    unfold carried
    rw [e1, h.top_be, En.out_length]
    congr 1
    omega

set_option maxRecDepth 10000 in
set_option maxHeartbeats 2000000 in
theorem put_arg (L R : Int) (a : Option Addr) (n cap : Nat) (e : En) (lo hi tot : Int) (w : World) (h : EvOf w L R a n cap e) (hf : fairB lo hi tot = false) :
    Calls Try.prog 43 #[.agg #[.int .u64 L, .int .u32 R, .slice a n cap], .int .i64 lo, .int .i64 hi, .int .i64 tot] w fun x w' => ∃ a' cap', x = .returned (.tuple #[encV (.slice a' e.m cap') e, .int .i64 1]) ∧ w'.ownsRow w.heap.size 5 1 (.slice a' e.m cap') e.m (e.out.map (Value.int .u8)) ∧ Below w.heap.size w w' := by
  have hW := below2 w (.cells #[.int .u64 L, .int .u32 R, .slice a n cap] 26) (.cells #[.int .u64 0, .int .u32 0, .slice none 0 0] 26)
  go_enter Try.func43, Try.ntmps43
  go_wp2_with (first | (go_at_call 42; refine (encFor_any _ _ _ _ _ e _ (h.below hW)).mono ?_; rintro x w1 ⟨a1, cap1, rfl, hown, hb1⟩; unfold encV; obtain ⟨z, c0, c1, c2, f0, f1, f2⟩ := ((B3.new w _ _ _ _).below (below1 _ _)).below hb1; obtain ⟨rz, r0, r1, r2, p0, p1, p2⟩ := (B3.new2 w _ _ _ _ _).below hb1) | (go_at_call 52; refine (fair_any _ _ _ _).mono ?_; rw [hf]; rintro x w2 ⟨rfl, rfl⟩))
  refine bodyPost_ret (v := .tuple #[encV (.slice a1 e.m cap1) e, .int .i64 1]) (by simp [results, Try.results43, go_sem, c0, c1, c2, r0, r1, r2, p0, p1, p2, encV]) rfl ⟨a1, cap1, rfl, ?_, ?_⟩
  · have hown1 : w1.ownsRow (w.heap.size + 1 + 1) 5 1 (.slice a1 e.m cap1) e.m (e.out.map (Value.int .u8)) := by simpa using hown
    exact owns_base (owns_other (owns_other (owns_other (owns_other (owns_other (owns_other hown1 _ _ _ (by omega)) _ _ _ (by omega)) _ _ _ (by omega)) _ _ _ (by omega)) _ _ _ (by omega)) _ _ _ (by omega)) (by omega)
  · exact bset3 (bset3 (bthen hW hb1 hW.size) _ _ _ _ (by omega)) _ _ _ _ (by omega)

set_option maxRecDepth 10000 in
set_option maxHeartbeats 2000000 in
theorem put_full (L R : Int) (a : Option Addr) (n cap : Nat) (e : En) (lo hi tot : Int) (w : World) (h : EvOf w L R a n cap e) (hf : fairB lo hi tot = true) (hm : (3996 : Int) ≤ (e.m : Int)) :
    Calls Try.prog 43 #[.agg #[.int .u64 L, .int .u32 R, .slice a n cap], .int .i64 lo, .int .i64 hi, .int .i64 tot] w fun x w' => ∃ a' cap', x = .returned (.tuple #[encV (.slice a' e.m cap') e, .int .i64 3]) ∧ w'.ownsRow w.heap.size 5 1 (.slice a' e.m cap') e.m (e.out.map (Value.int .u8)) ∧ Below w.heap.size w w' := by
  have hW := below2 w (.cells #[.int .u64 L, .int .u32 R, .slice a n cap] 26) (.cells #[.int .u64 0, .int .u32 0, .slice none 0 0] 26)
  go_enter Try.func43, Try.ntmps43
  go_wp2_with (first | (go_at_call 42; refine (encFor_any _ _ _ _ _ e _ (h.below hW)).mono ?_; rintro x w1 ⟨a1, cap1, rfl, hown, hb1⟩; unfold encV; obtain ⟨z, c0, c1, c2, f0, f1, f2⟩ := ((B3.new w _ _ _ _).below (below1 _ _)).below hb1; obtain ⟨rz, r0, r1, r2, p0, p1, p2⟩ := (B3.new2 w _ _ _ _ _).below hb1) | (go_at_call 52; refine (fair_any _ _ _ _).mono ?_; rw [hf]; rintro x w2 ⟨rfl, rfl⟩))
  refine bodyPost_ret (v := .tuple #[encV (.slice a1 e.m cap1) e, .int .i64 3]) (by simp [results, Try.results43, go_sem, c0, c1, c2, r0, r1, r2, p0, p1, p2, encV]) rfl ⟨a1, cap1, rfl, ?_, ?_⟩
  · have hown1 : w1.ownsRow (w.heap.size + 1 + 1) 5 1 (.slice a1 e.m cap1) e.m (e.out.map (Value.int .u8)) := by simpa using hown
    exact owns_base (owns_other (owns_other (owns_other (owns_other (owns_other (owns_other hown1 _ _ _ (by omega)) _ _ _ (by omega)) _ _ _ (by omega)) _ _ _ (by omega)) _ _ _ (by omega)) _ _ _ (by omega)) (by omega)
  · exact bset3 (bset3 (bthen hW hb1 hW.size) _ _ _ _ (by omega)) _ _ _ _ (by omega)
end Go.Proofs.Ytkfpphccpkfenaa
