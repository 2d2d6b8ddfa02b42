/- The decoder that stands for one; where a choice lies; what becomes of a decoder by a choice: the program, the document. -/
import Derived.Test.YtkfpphccpkfenaaCd
namespace Go.Proofs.Ytkfpphccpkfenaa
open Go.RowKit
set_option linter.unusedVariables false
set_option linter.unusedSimpArgs false

/-- A decoder that was handed in, and the one that stands for it. -/
def DvOf (w : World) (C R : Int) (a : Option Addr) (n cap : Nat) (A : Int) (d : De) : Prop :=
  d.Ok ∧ ((decB C R A = true ∧ C = d.C ∧ R = d.R ∧ A = d.A ∧ n = d.B.length ∧ Rw .u8 w (.slice a n cap) d.B) ∨ (decB C R A = false ∧ d = ⟨0, 4294967295, 4, []⟩))
theorem DvOf.below {w w' : World} {C R : Int} {a : Option Addr} {n cap : Nat} {A : Int} {d : De} (h : DvOf w C R a n cap A d) (hb : Below w.heap.size w w') : DvOf w' C R a n cap A d := by
  obtain ⟨h0, h⟩ := h
  refine ⟨h0, ?_⟩
  rcases h with ⟨h1, h2, h3, h4, h5, h6⟩ | h
  · exact .inl ⟨h1, h2, h3, h4, h5, h6.below hb⟩
  · exact .inr h
theorem De.Ok.decB {d : De} (h : d.Ok) : decB d.C d.R d.A = true := by
  unfold Go.Proofs.Ytkfpphccpkfenaa.decB
  rw [decide_eq_true_eq]
  have := h.c
  have := h.r.1
  omega
theorem De.Ok.dv {d : De} (h : d.Ok) {w : World} {a : Option Addr} {cap : Nat} (hr : Rw .u8 w (.slice a d.B.length cap) d.B) : DvOf w d.C d.R a d.B.length cap d.A d :=
  ⟨h, .inl ⟨h.decB, rfl, rfl, rfl, rfl, hr⟩⟩
/-- Every decoder stands for one. -/
theorem dv_some {w : World} {C R : Int} {a : Option Addr} {n cap : Nat} {zs : List Int} {A : Int} (hC : (Lit.int .u64 C).wf = true) (hR : (Lit.int .u32 R).wf = true) (hA : (Lit.int .i64 A).wf = true) (hz : IsRow .u8 w a n cap zs) (hn : n ≤ 5000) : ∃ d, DvOf w C R a n cap A d := by
  obtain ⟨xs, hx, hrw, hby⟩ := row_rw hz
  subst hx
  cases h : decB C R A
  · exact ⟨⟨0, 4294967295, 4, []⟩, by rw [← De.open_nil]; exact De.open_ok Byts.nil (by simp), .inr ⟨h, rfl⟩⟩
  · have h' := h
    unfold decB at h'
    rw [decide_eq_true_eq] at h'
    simp [Lit.wf, IntKind.min, IntKind.max, IntKind.bits, IntKind.signed] at hC hR hA
    refine ⟨⟨C.toNat, R.toNat, A.toNat, xs⟩, ⟨by show C.toNat < _; omega, ⟨by show _ ≤ R.toNat; omega, by show R.toNat ≤ _; omega⟩, by show A.toNat < _; omega, hby, hn⟩, .inl ⟨h, ?_, ?_, ?_, rfl, hrw⟩⟩
    · show C = (C.toNat : Int); omega
    · show R = (R.toNat : Int); omega
    · show A = (A.toNat : Int); omega

theorem DvOf.row {w : World} {C R : Int} {a : Option Addr} {n cap : Nat} {A : Int} {d : De} (h : DvOf w C R a n cap A d) (hb : decB C R A = true) : Rw .u8 w (.slice a n cap) d.B := by
  obtain ⟨_, h⟩ := h
  rcases h with ⟨_, _, _, _, _, h6⟩ | ⟨h1, _⟩
  · exact h6
  · rw [hb] at h1; cases h1
set_option maxHeartbeats 1000000 in
theorem decFor_any (C R : Int) (a : Option Addr) (n cap : Nat) (A : Int) (d : De) (w0 w : World) (h : DvOf w0 C R a n cap A d) :
    Calls Try.prog 58 #[.agg #[.int .u64 C, .int .u32 R, .slice a n cap, .int .i64 A]] w fun e w' => ∃ a' cap', e = .returned (decV a' cap' d) ∧ (∀ w1, DvOf w1 C R a n cap A d → Rw .u8 w1 (.slice a' d.B.length cap') d.B) ∧ Below w.heap.size w w' := by
  obtain ⟨h0, h⟩ := h
  rcases h with ⟨h1, rfl, rfl, rfl, rfl, h6⟩ | ⟨h1, rfl⟩
  · go_enter Try.func58, Try.ntmps58
    go_wp2_with (go_at_call 25; refine (rightDec_any _ _ _ _ _ _ _).mono ?_; rw [h1]; rintro e w' ⟨rfl, hb1⟩; obtain ⟨z, c0, c1, c2, c3, f0, f1, f2, f3⟩ := ((B4.new w _ _ _ _ _).below (below1 _ _)).below hb1; obtain ⟨rz, r0, r1, r2, r3, p0, p1, p2, p3⟩ := (B4.new2 w _ _ _ _ _ _).below hb1)
    refine bodyPost_ret (v := decV a cap d) (by simp [results, Try.results58, go_sem, c0, c1, c2, c3, r0, r1, r2, r3, p0, p1, p2, p3, decV]) rfl ⟨a, cap, rfl, fun w1 hh => hh.row h1, ?_⟩
    exact bset4 (bthen (below2 w _ _) hb1 (by simp; omega)) _ _ _ _ _ (by omega)
  · have hop := fun w => open_any none 0 [] w ⟨none, 0, rfl, .inl rfl⟩ Byts.nil (by simp)
    rw [De.open_nil] at hop
    unfold decV at hop ⊢
    simp only at hop ⊢
    go_enter Try.func58, Try.ntmps58
    go_wp2_with (first | (go_at_call 25; refine (rightDec_any _ _ _ _ _ _ _).mono ?_; rw [h1]; rintro e w' ⟨rfl, hb1⟩) | (go_at_call 23; refine (hop _).mono ?_; rintro e w2 ⟨rfl, hb2⟩; obtain ⟨rz, r0, r1, r2, r3, p0, p1, p2, p3⟩ := ((B4.new2 w _ _ _ _ _ _).below hb1).below hb2))
    refine bodyPost_ret (v := .agg #[.int .u64 0, .int .u32 4294967295, .slice none 0 0, .int .i64 4]) (by simp [results, Try.results58, go_sem, r0, r1, r2, r3, p0, p1, p2, p3]) rfl ⟨none, 0, rfl, fun w1 _ => ⟨none, 0, rfl, .inl rfl⟩, ?_⟩
    have hbb := bthen (below2 w _ _) hb1 (by simp; omega)
    exact bset4 (bthen hbb hb2 hbb.size) _ _ _ _ _ (by omega)

set_option maxHeartbeats 1000000 in
theorem asDec_any (C R : Int) (a : Option Addr) (n cap : Nat) (A : Int) (d : De) (w0 w : World) (h : DvOf w0 C R a n cap A d) :
    Calls Try.prog 19 #[.agg #[.int .u64 C, .int .u32 R, .slice a n cap, .int .i64 A]] w fun e w' => ∃ a' cap', e = .returned (decW a' cap' d) ∧ Rw .u8 w0 (.slice a' d.B.length cap') d.B ∧ Below w.heap.size w w' := by
  obtain ⟨h0, h⟩ := h
  have hW := below2 w (.cells #[.int .u64 C, .int .u32 R, .slice a n cap, .int .i64 A] 30) (.cells #[.int .u64 0, .int .u64 0, .slice none 0 0, .int .i64 0] 46)
  rcases h with ⟨h1, rfl, rfl, rfl, rfl, h6⟩ | ⟨h1, rfl⟩
  · have q0 := h0.c
    have q1 := h0.r.1
    have q2 := h0.r.2
    unfold decW
    go_enter Try.func19, Try.ntmps19
    go_wp2
    exact bodyPost_ret (v := .agg #[.int .u64 d.C, .int .u64 d.R, .slice a d.B.length cap, .int .i64 d.A]) (by simp [results, Try.results19, go_sem]) rfl ⟨a, cap, rfl, h6, below2 _ _ _⟩
  · have hop := fun w => ropen_any none 0 [] w ⟨none, 0, rfl, .inl rfl⟩ Byts.nil (by simp)
    rw [De.open_nil] at hop
    unfold decW at hop ⊢
    simp only at hop ⊢
    unfold decB at h1
    rw [decide_eq_false_iff_not] at h1
    have fin : ∀ w2 : World, Below ((w.alloc (.cells #[.int .u64 C, .int .u32 R, .slice a n cap, .int .i64 A] 30)).alloc (.cells #[.int .u64 0, .int .u64 0, .slice none 0 0, .int .i64 0] 46)).heap.size ((w.alloc (.cells #[.int .u64 C, .int .u32 R, .slice a n cap, .int .i64 A] 30)).alloc (.cells #[.int .u64 0, .int .u64 0, .slice none 0 0, .int .i64 0] 46)) w2 → B4 w2 (w.heap.size + 1) (.int .u64 0) (.int .u64 0) (.slice none 0 0) (.int .i64 0) := fun w2 hb => (B4.new2 w _ _ _ _ _ _).below hb
    by_cases g0 : C ≤ 4294967295
    · by_cases g1 : 16777216 ≤ R
      · have g2 : A < 0 := by omega
        clear h1
        go_enter Try.func19, Try.ntmps19
        go_wp2_with (go_at_call 40; refine (hop _).mono ?_; rintro e w2 ⟨rfl, hb2⟩; obtain ⟨rz, r0, r1, r2, r3, p0, p1, p2, p3⟩ := fin w2 hb2)
        refine bodyPost_ret (v := .agg #[.int .u64 0, .int .u64 4294967295, .slice none 0 0, .int .i64 4]) (by simp [results, Try.results19, go_sem, r0, r1, r2, r3, p0, p1, p2, p3]) rfl ⟨none, 0, rfl, ⟨none, 0, rfl, .inl rfl⟩, ?_⟩
        exact bset4 (bthen hW hb2 hW.size) _ _ _ _ _ (by omega)
      · clear h1
        go_enter Try.func19, Try.ntmps19
        go_wp2_with (go_at_call 40; refine (hop _).mono ?_; rintro e w2 ⟨rfl, hb2⟩; obtain ⟨rz, r0, r1, r2, r3, p0, p1, p2, p3⟩ := fin w2 hb2)
        refine bodyPost_ret (v := .agg #[.int .u64 0, .int .u64 4294967295, .slice none 0 0, .int .i64 4]) (by simp [results, Try.results19, go_sem, r0, r1, r2, r3, p0, p1, p2, p3]) rfl ⟨none, 0, rfl, ⟨none, 0, rfl, .inl rfl⟩, ?_⟩
        exact bset4 (bthen hW hb2 hW.size) _ _ _ _ _ (by omega)
    · clear h1
      go_enter Try.func19, Try.ntmps19
      go_wp2_with (go_at_call 40; refine (hop _).mono ?_; rintro e w2 ⟨rfl, hb2⟩; obtain ⟨rz, r0, r1, r2, r3, p0, p1, p2, p3⟩ := fin w2 hb2)
      refine bodyPost_ret (v := .agg #[.int .u64 0, .int .u64 4294967295, .slice none 0 0, .int .i64 4]) (by simp [results, Try.results19, go_sem, r0, r1, r2, r3, p0, p1, p2, p3]) rfl ⟨none, 0, rfl, ⟨none, 0, rfl, .inl rfl⟩, ?_⟩
      exact bset4 (bthen hW hb2 hW.size) _ _ _ _ _ (by omega)

/-! ### Is it the document's? -/
set_option maxHeartbeats 1000000 in
theorem sameDec_true (a a2 : Option Addr) (cap cap2 : Nat) (d : De) (w : World) (h : d.Ok) (h1 : Rw .u8 w (.slice a d.B.length cap) d.B) (h2 : Rw .u8 w (.slice a2 d.B.length cap2) d.B) :
    Calls Try.prog 20 #[decV a cap d, decW a2 cap2 d] w fun e w' => e = .returned (.bool true) ∧ Below w.heap.size w w' := by
  have q1 := h.r.1
  have q2 := h.r.2
  have hW := below2 w (.cells #[.int .u64 d.C, .int .u32 d.R, .slice a d.B.length cap, .int .i64 d.A] 30) (.cells #[.int .u64 d.C, .int .u64 d.R, .slice a2 d.B.length cap2, .int .i64 d.A] 46)
  have c1 := conv_rw (P := Try.prog) (h1.below hW) 24 9 5 Try.underlying24 Try.underlying5 Try.underlying9
  have c2 := conv_rw (P := Try.prog) (h2.below hW) 24 9 5 Try.underlying24 Try.underlying5 Try.underlying9
  have hs : ((strOfNums d.B).toList == (strOfNums d.B).toList) = true := by simp
  unfold decV decW
  go_enter Try.func20, Try.ntmps20
  go_wp2
  go_ret
  exact ⟨rfl, below2 _ _ _⟩

/-! ### Clamp -/
def clampI (v lo hi : Int) : Int := if v < lo then lo else if hi < v then hi else v
theorem clamp_any (v lo hi : Int) (w : World) : Calls Try.prog 62 #[.int .i64 v, .int .i64 lo, .int .i64 hi] w fun e w' => e = .returned (.int .i64 (clampI v lo hi)) ∧ w' = w := by
  unfold clampI
  by_cases h0 : v < lo
  · rw [if_pos h0]
    go_enter Try.func62, Try.ntmps62
    go_wp2
    go_ret; exact ⟨rfl, rfl⟩
  · rw [if_neg h0]
    by_cases h1 : hi < v
    · rw [if_pos h1]
      go_enter Try.func62, Try.ntmps62
      go_wp2
      go_ret; exact ⟨rfl, rfl⟩
    · rw [if_neg h1]
      go_enter Try.func62, Try.ntmps62
      go_wp2
      go_ret; exact ⟨rfl, rfl⟩
theorem rclamp_any (v lo hi : Int) (w : World) : Calls Try.prog 49 #[.int .i64 v, .int .i64 lo, .int .i64 hi] w fun e w' => e = .returned (.int .i64 (clampI v lo hi)) ∧ w' = w := by
  unfold clampI
  by_cases h0 : v < lo
  · rw [if_pos h0]
    go_enter Try.func49, Try.ntmps49
    go_wp2
    go_ret; exact ⟨rfl, rfl⟩
  · rw [if_neg h0]
    by_cases h1 : hi < v
    · rw [if_pos h1]
      go_enter Try.func49, Try.ntmps49
      go_wp2
      go_ret; exact ⟨rfl, rfl⟩
    · rw [if_neg h1]
      go_enter Try.func49, Try.ntmps49
      go_wp2
      go_ret; exact ⟨rfl, rfl⟩
theorem clamp_min (q t : Nat) (ht : 1 ≤ t) : clampI (q : Int) 0 ((t : Int) - 1) = ((min q (t - 1) : Nat) : Int) := by
  unfold clampI
  rw [if_neg (by omega)]
  split <;> omega

/-! ### Get -/
set_option maxHeartbeats 1000000 in
theorem get_arg (C R : Int) (a : Option Addr) (n cap : Nat) (A : Int) (tot : Int) (w : World) (ht : tot < 1 ∨ 65536 < tot) :
    Calls Try.prog 60 #[.agg #[.int .u64 C, .int .u32 R, .slice a n cap, .int .i64 A], .int .i64 tot] w fun e w' => e = .returned (.tuple #[.int .i64 0, .int .i64 1]) ∧ Below w.heap.size w w' := by
  by_cases h : tot < 1
  · go_enter Try.func60, Try.ntmps60
    go_wp2
    exact bodyPost_ret (v := .tuple #[_, _]) (by simp [results, Try.results60, go_sem]) rfl ⟨rfl, below1 _ _⟩
  · have h2 : 65536 < tot := by omega
    clear ht
    go_enter Try.func60, Try.ntmps60
    go_wp2
    exact bodyPost_ret (v := .tuple #[_, _]) (by simp [results, Try.results60, go_sem]) rfl ⟨rfl, below1 _ _⟩
set_option maxHeartbeats 1000000 in
theorem get_any (C R : Int) (a : Option Addr) (n cap : Nat) (A : Int) (d : De) (tot : Nat) (w : World) (h : DvOf w C R a n cap A d) (h1 : 1 ≤ tot) (h2 : tot ≤ 65536) :
    Calls Try.prog 60 #[.agg #[.int .u64 C, .int .u32 R, .slice a n cap, .int .i64 A], .int .i64 tot] w fun e w' => e = .returned (.tuple #[.int .i64 (d.get tot : Nat), .int .i64 0]) ∧ Below w.heap.size w w' := by
  have hq := unit_ge h.1.r h1 h2
  have hq2 : d.R / tot ≤ d.R := Nat.div_le_self _ _
  have hr := h.1.r.2
  have hc := h.1.c
  have hg := clamp_min (d.C / (d.R / tot)) tot h1
  have hv : d.C / (d.R / tot) ≤ d.C := Nat.div_le_self _ _
  have e1 : ((d.R : Int).tdiv (tot : Int)) = ((d.R / tot : Nat) : Int) := rfl
  have e2 : ((d.C : Int).tdiv ((d.R / tot : Nat) : Int)) = ((d.C / (d.R / tot) : Nat) : Int) := rfl
  have t0 : ((tot : Int) == 0) = false := by simp; omega
  unfold De.get
  rw [← hg]
  generalize d.C / (d.R / tot) = V at *
  generalize d.R / tot = q at *
  have t1 : ((q : Int) == 0) = false := by simp; omega
  clear hg
  go_enter Try.func60, Try.ntmps60
  go_wp2_with (first | (go_at_call 58; refine (decFor_any _ _ _ _ _ _ d w _ h).mono ?_; rintro e w' ⟨a', cap', rfl, hrw, hb1⟩; unfold decV; obtain ⟨z, c0, c1, c2, c3, f0, f1, f2, f3⟩ := (B4.new w _ _ _ _ _).below hb1) | (go_at_call 62; refine (clamp_any _ _ _ _).mono ?_; rintro e w2 ⟨rfl, rfl⟩))
  exact bodyPost_ret (v := .tuple #[_, _]) (by simp [results, Try.results60, go_sem]) rfl ⟨rfl, bset4 (bthen (below1 w _) hb1 (by simp)) _ _ _ _ _ (Nat.le_refl _)⟩
end Go.Proofs.Ytkfpphccpkfenaa
