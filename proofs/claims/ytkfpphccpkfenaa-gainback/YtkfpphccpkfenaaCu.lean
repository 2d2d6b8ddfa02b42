/- Choices that were put are taken as they were: on plain numbers. Nothing of the program is used. -/
import Derived.Test.YtkfpphccpkfenaaCt
namespace Go.Proofs.Ytkfpphccpkfenaa
open Go.RowKit
set_option linter.unusedVariables false
set_option linter.unusedSimpArgs false

/-- An encoder that has never lost what it carried. -/
structure En.Good (e : En) : Prop where
  r : Rok e.R
  n : e.N + e.R ≤ 256 ^ (e.m + 4)
theorem En.new_good : En.new.Good := ⟨En.new_ok.r, by show 0 + 4294967295 ≤ 256 ^ (0 + 4); decide⟩
theorem En.Good.lt {e : En} (h : e.Good) : e.N < 256 ^ (e.m + 4) := by have := h.r.1; have := h.n; omega
theorem En.put_plain {e : En} (h : e.Good) {lo hi tot : Nat} (hf : Fair lo hi tot) : e.put lo hi tot = ⟨(e.N + ahead e.R lo tot) * 256 ^ sh (width e.R lo hi tot), e.m + sh (width e.R lo hi tot), width e.R lo hi tot * 256 ^ sh (width e.R lo hi tot)⟩ := by
  have h1 := ahead_width (R := e.R) hf
  have h2 := width_256 h.r hf
  have h3 := h.n
  unfold En.put
  rw [Nat.mod_eq_of_lt (by omega)]
theorem En.Good.put {e : En} (h : e.Good) {lo hi tot : Nat} (hf : Fair lo hi tot) : (e.put lo hi tot).Good := by
  have h1 := ahead_width (R := e.R) hf
  have h2 := width_256 h.r hf
  have h3 := h.n
  have h4 := h.r.2
  rw [En.put_plain h hf]
  refine ⟨sh_ok h2 (by omega), ?_⟩
  show (e.N + ahead e.R lo tot) * 256 ^ sh (width e.R lo hi tot) + width e.R lo hi tot * 256 ^ sh (width e.R lo hi tot) ≤ 256 ^ (e.m + sh (width e.R lo hi tot) + 4)
  rw [← Nat.add_mul, show e.m + sh (width e.R lo hi tot) + 4 = (e.m + 4) + sh (width e.R lo hi tot) by omega, Nat.pow_add 256 (e.m + 4)]
  exact Nat.mul_le_mul_right _ (by omega)

/-- A number of M + 4 bytes that begins as the encoder says. -/
structure Within (V M : Nat) (e : En) : Prop where
  m : e.m ≤ M
  lo : e.N * 256 ^ (M - e.m) ≤ V
  hi : V < (e.N + e.R) * 256 ^ (M - e.m)
theorem Within.self {e : En} (h : e.Good) : Within e.N e.m e := ⟨Nat.le_refl _, by simp, by have := h.r.1; simp; omega⟩
theorem Within.raw {V M : Nat} {e : En} (h : e.Good) {lo hi tot : Nat} (hf : Fair lo hi tot) (hw : Within V M (e.put lo hi tot)) : e.m + sh (width e.R lo hi tot) ≤ M ∧ (e.N + ahead e.R lo tot) * 256 ^ (M - e.m) ≤ V ∧ V < (e.N + ahead e.R lo tot + width e.R lo hi tot) * 256 ^ (M - e.m) := by
  rw [En.put_plain h hf] at hw
  obtain ⟨h1, h2, h3⟩ := hw
  simp only at h1 h2 h3
  have hp : 256 ^ sh (width e.R lo hi tot) * 256 ^ (M - (e.m + sh (width e.R lo hi tot))) = 256 ^ (M - e.m) := by
    rw [← Nat.pow_add]; congr 1; omega
  rw [Nat.mul_assoc, hp] at h2
  rw [← Nat.add_mul, Nat.mul_assoc, hp] at h3
  exact ⟨h1, h2, h3⟩
theorem Within.back {V M : Nat} {e : En} (h : e.Good) {lo hi tot : Nat} (hf : Fair lo hi tot) (hw : Within V M (e.put lo hi tot)) : Within V M e := by
  obtain ⟨h1, h2, h3⟩ := Within.raw h hf hw
  have h4 := ahead_width (R := e.R) hf
  refine ⟨by omega, Nat.le_trans (Nat.mul_le_mul_right _ (by omega)) h2, Nat.lt_of_lt_of_le h3 (Nat.mul_le_mul_right _ (by omega))⟩

/-! ### Many choices -/
def puts : En → List (Nat × Nat × Nat) → En
  | e, [] => e
  | e, c :: l => puts (e.put c.1 c.2.1 c.2.2) l
def Fairs (l : List (Nat × Nat × Nat)) : Prop := ∀ c ∈ l, Fair c.1 c.2.1 c.2.2
theorem Fairs.cons {c : Nat × Nat × Nat} {l : List (Nat × Nat × Nat)} (h : Fairs (c :: l)) : Fair c.1 c.2.1 c.2.2 ∧ Fairs l := ⟨h c (by simp), fun x hx => h x (by simp [hx])⟩
theorem Fairs.snoc {l : List (Nat × Nat × Nat)} {lo hi tot : Nat} (h : Fairs l) (hf : Fair lo hi tot) : Fairs (l ++ [(lo, hi, tot)]) := fun x hx => by
  rcases List.mem_append.1 hx with hx | hx
  · exact h x hx
  · simp at hx; subst hx; exact hf
theorem puts_append (e : En) (l m : List (Nat × Nat × Nat)) : puts e (l ++ m) = puts (puts e l) m := by
  induction l generalizing e with
  | nil => rfl
  | cons c l ih => exact ih _
theorem puts_snoc (e : En) (l : List (Nat × Nat × Nat)) (lo hi tot : Nat) : puts e (l ++ [(lo, hi, tot)]) = (puts e l).put lo hi tot := by rw [puts_append]; rfl
theorem En.Good.puts {e : En} (h : e.Good) {l : List (Nat × Nat × Nat)} (hl : Fairs l) : (puts e l).Good := by
  induction l generalizing e with
  | nil => exact h
  | cons c l ih => obtain ⟨hc, hl⟩ := hl.cons; exact ih (h.put hc) hl
theorem Within.puts {V M : Nat} {e : En} (h : e.Good) {l : List (Nat × Nat × Nat)} (hl : Fairs l) (hw : Within V M (puts e l)) : Within V M e := by
  induction l generalizing e with
  | nil => exact hw
  | cons c l ih => obtain ⟨hc, hl⟩ := hl.cons; exact Within.back h hc (ih (h.put hc) hl hw)

/-! ### The decoder that goes along -/
structure Track (V M : Nat) (e : En) (d : De) : Prop where
  c : d.C + e.N = V / 256 ^ (M - e.m)
  r : d.R = e.R
  a : d.A = e.m + 4
  b : d.B = beL V (M + 4)
theorem beL_bAt (V n k : Nat) (h : k < n) : bAt (beL V n) k = V / 256 ^ (n - 1 - k) % 256 := by
  unfold bAt; rw [beL_getD _ _ _ h]; rfl
theorem div_step (V j : Nat) : V / 256 ^ (j + 1) * 256 + V / 256 ^ j % 256 = V / 256 ^ j := by
  rw [Nat.pow_succ, ← Nat.div_div_eq_div_mul]; omega
theorem openC_beL (V M : Nat) (hV : V < 256 ^ (M + 4)) (k : Nat) (hk : k ≤ 4) : openC (beL V (M + 4)) k = V / 256 ^ (M + 4 - k) := by
  induction k with
  | zero => rw [openC, Nat.sub_zero, Nat.div_eq_of_lt hV]
  | succ k ih =>
    rw [openC, ih (by omega), beL_bAt _ _ _ (by omega)]
    have := div_step V (M + 4 - (k + 1))
    rw [show M + 4 - (k + 1) + 1 = M + 4 - k by omega] at this
    rw [show M + 4 - 1 - k = M + 4 - (k + 1) by omega]
    exact this
theorem Track.init {V M : Nat} (hV : V < 256 ^ (M + 4)) : Track V M En.new (De.open (beL V (M + 4))) := by
  refine ⟨?_, rfl, rfl, rfl⟩
  show openC (beL V (M + 4)) 4 + 0 = V / 256 ^ (M - 0)
  rw [openC_beL V M hV 4 (Nat.le_refl _)]
  rfl
theorem Track.step {V M : Nat} {e : En} {d : De} (h : Track V M e d) (hm : e.m + 1 ≤ M) (hc : d.C < e.R) (hr : e.R < 16777216) : Track V M e.step d.step ∧ d.step.C < e.step.R := by
  have h1 : d.A < M + 4 := by rw [h.a]; omega
  have hb : bAt d.B d.A = V / 256 ^ (M - (e.m + 1)) % 256 := by
    rw [h.b, beL_bAt _ _ _ h1, h.a]; congr 3; omega
  have hlt : bAt d.B d.A < 256 := by rw [hb]; omega
  have hC : d.step.C = d.C * 256 + bAt d.B d.A := by
    have hm : d.C % 16777216 = d.C := Nat.mod_eq_of_lt (Nat.lt_trans hc hr)
    unfold De.step
    simp only
    rw [hm]
  refine ⟨⟨?_, ?_, ?_, h.b⟩, ?_⟩
  · rw [hC]
    show d.C * 256 + bAt d.B d.A + e.N * 256 = V / 256 ^ (M - (e.m + 1))
    have h2 := div_step V (M - (e.m + 1))
    rw [show M - (e.m + 1) + 1 = M - e.m by omega, ← h.c, ← hb] at h2
    rw [← h2, Nat.add_mul]
    exact Nat.add_right_comm _ _ _
  · show d.R * 256 = e.R * 256; rw [h.r]
  · show aAt d.B d.A = e.m + 1 + 4
    unfold aAt
    rw [h.b, beL_length, if_pos h1, h.a]
  · rw [hC]; show _ < e.R * 256; omega
theorem Track.norm {V M : Nat} {e : En} {d : De} (h : Track V M e d) (hm : e.m + sh e.R ≤ M) (hc : d.C < e.R) (h0 : 256 ≤ e.R) : Track V M e.norm d.norm := by
  have hr := h.r
  by_cases h1 : 16777216 ≤ e.R
  · rw [En.norm_done e h1, De.norm_done d (by omega)]; exact h
  · rw [sh_step e.R h0 (by omega)] at hm
    obtain ⟨g, gc⟩ := h.step (by omega) hc (by omega)
    rw [En.norm_step e h0 (by omega), De.norm_step d (by omega) (by omega)]
    have g0 : 256 ≤ e.step.R := by show 256 ≤ e.R * 256; omega
    have hr2 := g.r
    by_cases h2 : 16777216 ≤ e.step.R
    · rw [En.norm_done _ h2, De.norm_done _ (by omega)]; exact g
    · have hm2 : e.step.m + sh e.step.R ≤ M := by show e.m + 1 + sh (e.R * 256) ≤ M; omega
      rw [sh_step e.step.R g0 (by omega)] at hm2
      obtain ⟨k, kc⟩ := g.step (by omega) gc (by omega)
      rw [En.norm_step _ g0 (by omega), De.norm_step _ (by omega) (by omega)]
      have h3 : 16777216 ≤ e.step.step.R := by show 16777216 ≤ e.R * 256 * 256; omega
      have hr3 := k.r
      rw [En.norm_done _ h3, De.norm_done _ (by omega)]; exact k
theorem Track.bounds {V M : Nat} {e : En} {d : De} (h : Track V M e d) (hg : e.Good) {lo hi tot : Nat} (hf : Fair lo hi tot) (hw : Within V M (e.put lo hi tot)) : ahead e.R lo tot ≤ d.C ∧ d.C < ahead e.R lo tot + width e.R lo hi tot := by
  obtain ⟨h1, h2, h3⟩ := Within.raw hg hf hw
  have hp : 0 < 256 ^ (M - e.m) := Nat.pow_pos (by decide)
  rw [← Nat.le_div_iff_mul_le hp] at h2
  rw [← Nat.div_lt_iff_lt_mul hp] at h3
  rw [← h.c] at h2 h3
  omega
theorem Track.get {V M : Nat} {e : En} {d : De} (h : Track V M e d) (hg : e.Good) {lo hi tot : Nat} (hf : Fair lo hi tot) (hw : Within V M (e.put lo hi tot)) : lo ≤ d.get tot ∧ d.get tot < hi := by
  obtain ⟨h1, h2⟩ := h.bounds hg hf hw
  have hl := hf.lt
  have hl2 := hf.le
  have hq := unit_ge hg.r (show 0 < tot by omega) hf.top
  unfold De.get
  rw [h.r]
  unfold ahead at h1 h2
  have g1 : lo ≤ d.C / (e.R / tot) := by rw [Nat.le_div_iff_mul_le (by omega), Nat.mul_comm]; exact h1
  by_cases hh : hi = tot
  · omega
  · have : d.C / (e.R / tot) < hi := by
      rw [Nat.div_lt_iff_lt_mul (by omega)]
      unfold width at h2
      rw [if_neg hh, ← Nat.mul_add, show lo + (hi - lo) = hi by omega] at h2
      rw [Nat.mul_comm]; exact h2
    omega
theorem Track.take {V M : Nat} {e : En} {d : De} (h : Track V M e d) (hg : e.Good) {lo hi tot : Nat} (hf : Fair lo hi tot) (hw : Within V M (e.put lo hi tot)) : Track V M (e.put lo hi tot) (d.take lo hi tot) := by
  obtain ⟨h1, h2⟩ := h.bounds hg hf hw
  obtain ⟨k1, _, _⟩ := Within.raw hg hf hw
  have h256 := width_256 hg.r hf
  have e1 : e.put lo hi tot = En.norm ⟨e.N + ahead e.R lo tot, e.m, width e.R lo hi tot⟩ := En.put_plain hg hf
  rw [e1]
  unfold De.take
  rw [h.r, Nat.min_eq_right h1]
  refine Track.norm (e := ⟨e.N + ahead e.R lo tot, e.m, width e.R lo hi tot⟩) (d := ⟨d.C - ahead e.R lo tot, width e.R lo hi tot, d.A, d.B⟩) ⟨?_, rfl, h.a, h.b⟩ k1 ?_ h256
  · show d.C - ahead e.R lo tot + (e.N + ahead e.R lo tot) = V / 256 ^ (M - e.m)
    rw [← h.c]; omega
  · show d.C - ahead e.R lo tot < width e.R lo hi tot
    omega
/-- The choice at a place is taken as it was put. -/
theorem Track.at {K : List (Nat × Nat × Nat)} (hK : Fairs K) {q : Nat} (hq : q < K.length) {d : De} (h : Track (puts En.new K).N (puts En.new K).m (puts En.new (K.take q)) d) :
    (K.getD q (0, 0, 0)).1 ≤ d.get (K.getD q (0, 0, 0)).2.2 ∧ d.get (K.getD q (0, 0, 0)).2.2 < (K.getD q (0, 0, 0)).2.1 ∧ Fair (K.getD q (0, 0, 0)).1 (K.getD q (0, 0, 0)).2.1 (K.getD q (0, 0, 0)).2.2 ∧
      Track (puts En.new K).N (puts En.new K).m (puts En.new (K.take (q + 1))) (d.take (K.getD q (0, 0, 0)).1 (K.getD q (0, 0, 0)).2.1 (K.getD q (0, 0, 0)).2.2) := by
  have hget : K.getD q (0, 0, 0) = K[q] := by rw [List.getD_eq_getElem?_getD, List.getElem?_eq_getElem hq]; rfl
  rw [hget]
  have hc : Fair K[q].1 K[q].2.1 K[q].2.2 := hK _ (List.getElem_mem hq)
  have hT : Fairs (K.take q) := fun x hx => hK x (List.mem_of_mem_take hx)
  have hD : Fairs (K.drop (q + 1)) := fun x hx => hK x (List.mem_of_mem_drop hx)
  have hg := En.new_good.puts hT
  have htk : K.take (q + 1) = K.take q ++ [K[q]] := by rw [List.take_succ_eq_append_getElem hq]
  have hsn : puts En.new (K.take (q + 1)) = (puts En.new (K.take q)).put K[q].1 K[q].2.1 K[q].2.2 := by rw [htk]; exact puts_snoc _ _ _ _ _
  have hall : puts En.new K = puts (puts En.new (K.take (q + 1))) (K.drop (q + 1)) := by rw [← puts_append, List.take_append_drop]
  have hw : Within (puts En.new K).N (puts En.new K).m ((puts En.new (K.take q)).put K[q].1 K[q].2.1 K[q].2.2) := by
    have hself := Within.self (En.new_good.puts hK)
    rw [← hsn]
    refine Within.puts (l := K.drop (q + 1)) ?_ hD ?_
    · rw [hsn]; exact hg.put hc
    · rw [← hall]; exact hself
  obtain ⟨g1, g2⟩ := h.get hg hc hw
  refine ⟨g1, g2, hc, ?_⟩
  rw [hsn]
  exact h.take hg hc hw
end Go.Proofs.Ytkfpphccpkfenaa
