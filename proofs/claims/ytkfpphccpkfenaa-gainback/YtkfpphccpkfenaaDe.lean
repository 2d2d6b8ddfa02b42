/- Numbers that were put are taken as they were: on plain numbers; rows of pairs. -/
import Derived.Test.YtkfpphccpkfenaaDd
namespace Go.Proofs.Ytkfpphccpkfenaa
open Go.RowKit
set_option linter.unusedVariables false
set_option linter.unusedSimpArgs false

/-- The choices of a number. -/
def chs (v n : Nat) : List (Nat × Nat × Nat) := if n ≤ 65536 then [(v, v + 1, n)] else [(v / 65536, v / 65536 + 1, (n - 1) / 65536 + 1), (v % 65536, v % 65536 + 1, 65536)]
structure NumOk (v n : Nat) : Prop where
  one : 1 ≤ n
  top : n ≤ 4294967296
  lt : v < n
theorem chs_fair {v n : Nat} (h : NumOk v n) : Fairs (chs v n) := by
  have h1 := h.one
  have h2 := h.top
  have h3 := h.lt
  unfold chs
  split
  · intro c hc
    simp at hc; subst hc
    exact ⟨by show v < v + 1; omega, by show v + 1 ≤ n; omega, by show n ≤ 65536; omega⟩
  · intro c hc
    simp at hc
    rcases hc with rfl | rfl
    · exact ⟨by show v / 65536 < v / 65536 + 1; omega, by show v / 65536 + 1 ≤ (n - 1) / 65536 + 1; omega, by show (n - 1) / 65536 + 1 ≤ 65536; omega⟩
    · exact ⟨by show v % 65536 < v % 65536 + 1; omega, by show v % 65536 + 1 ≤ 65536; omega, by show 65536 ≤ 65536; omega⟩
theorem put_zero {E : En} {l h t : Nat} (he : putF E l h t = 0) : putE E l h t = E.put l h t := by
  rcases put_cases E l h t with ⟨l', h', t', e1, e2, e3, _, e4, _⟩ | ⟨_, e⟩
  · have : l = l' := by omega
    have : h = h' := by omega
    have : t = t' := by omega
    subst l h t
    exact e4
  · rw [he] at e; simp at e
theorem putN_cases (E : En) (v n : Nat) : (NumOk v n ∧ putNE E v n = puts E (chs v n) ∧ putNF E v n = 0) ∨ (putNE E v n = E ∧ (putNF E v n == 0) = false) := by
  unfold putNE putNF
  by_cases h1 : n = 0 ∨ 4294967296 < n ∨ n ≤ v
  · right; simp [h1]
  · simp only [h1, if_false]
    have hok : NumOk v n := ⟨by omega, by omega, by omega⟩
    by_cases h2 : n ≤ 65536
    · simp only [h2, if_true]
      rcases put_cases E v (v + 1) n with ⟨l, h, t, e1, e2, e3, _, e4, e5⟩ | ⟨e1, e2⟩
      · left
        refine ⟨hok, ?_, e5⟩
        have : l = v := by omega
        have : h = v + 1 := by omega
        have : t = n := by omega
        subst l h t
        rw [e4]
        unfold chs
        rw [if_pos h2]
        rfl
      · exact .inr ⟨e1, e2⟩
    · simp only [h2, if_false]
      have c1 : (((v / 65536 : Nat) : Int) + 1) = ((v / 65536 + 1 : Nat) : Int) := by omega
      have c2 : (((v % 65536 : Nat) : Int) + 1) = ((v % 65536 + 1 : Nat) : Int) := by omega
      rw [c1, c2]
      by_cases k1 : putF E (v / 65536 : Nat) (v / 65536 + 1 : Nat) ((n - 1) / 65536 + 1 : Nat) = 0
      · simp only [k1, if_true]
        have z1 := put_zero k1
        rw [z1]
        by_cases k2 : putF (E.put (v / 65536) (v / 65536 + 1) ((n - 1) / 65536 + 1)) (v % 65536 : Nat) (v % 65536 + 1 : Nat) (65536 : Nat) = 0
        · simp only [k2, if_true]
          left
          refine ⟨hok, ?_, trivial⟩
          rw [put_zero k2]
          unfold chs
          rw [if_neg h2]
          rfl
        · simp only [k2, if_false]
          right
          exact ⟨trivial, by simpa using k2⟩
      · simp only [k1, if_false]
        right
        exact ⟨trivial, by simpa using k1⟩

theorem Fairs.append {l m : List (Nat × Nat × Nat)} (h : Fairs l) (k : Fairs m) : Fairs (l ++ m) := fun x hx => by
  rcases List.mem_append.1 hx with hx | hx
  · exact h x hx
  · exact k x hx
theorem get_only {V M : Nat} {e : En} {d : De} (h : Track V M e d) (hg : e.Good) {v tot : Nat} (hf : Fair v (v + 1) tot) (hw : Within V M (e.put v (v + 1) tot)) : d.get tot = v := by
  have := h.get hg hf hw
  omega
/-- A number is taken as it was put. -/
theorem Track.num {V M : Nat} {e : En} {d : De} (h : Track V M e d) (hg : e.Good) {v n : Nat} (hn : NumOk v n) (hw : Within V M (puts e (chs v n))) : d.numV n = v ∧ Track V M (puts e (chs v n)) (d.numD n) := by
  have hfs := chs_fair hn
  have h3 := hn.lt
  unfold chs at *
  unfold De.numV De.numD
  by_cases h2 : n ≤ 65536
  · simp only [h2, if_true] at *
    have hf := (Fairs.cons hfs).1
    have e1 := get_only h hg hf hw
    rw [e1]
    exact ⟨rfl, h.take hg hf hw⟩
  · simp only [h2, if_false] at *
    obtain ⟨f1, f2⟩ := Fairs.cons hfs
    have f2 := (Fairs.cons f2).1
    have hg1 := hg.put f1
    have hw1 : Within V M (e.put (v / 65536) (v / 65536 + 1) ((n - 1) / 65536 + 1)) := Within.back hg1 f2 hw
    have e1 := get_only h hg f1 hw1
    have t1 := h.take hg f1 hw1
    have e2 := get_only t1 hg1 f2 hw
    unfold De.upD
    simp only [e1] at *
    simp only [e2]
    exact ⟨by omega, t1.take hg1 f2 hw⟩

def flatC (K : List (Nat × Nat)) : List (Nat × Nat × Nat) := K.flatMap fun p => chs p.1 p.2
def NumsOk (K : List (Nat × Nat)) : Prop := ∀ p ∈ K, NumOk p.1 p.2
theorem NumsOk.snoc {K : List (Nat × Nat)} {v n : Nat} (h : NumsOk K) (hn : NumOk v n) : NumsOk (K ++ [(v, n)]) := fun x hx => by
  rcases List.mem_append.1 hx with hx | hx
  · exact h x hx
  · simp at hx; subst hx; exact hn
theorem flat_fair {K : List (Nat × Nat)} (h : NumsOk K) : Fairs (flatC K) := fun c hc => by
  simp only [flatC, List.mem_flatMap] at hc
  obtain ⟨p, hp, hc⟩ := hc
  exact chs_fair (h p hp) c hc
theorem flat_append (K L : List (Nat × Nat)) : flatC (K ++ L) = flatC K ++ flatC L := by simp [flatC]
theorem flat_snoc (K : List (Nat × Nat)) (v n : Nat) : flatC (K ++ [(v, n)]) = flatC K ++ chs v n := by simp [flatC]
theorem Track.numAt {K : List (Nat × Nat)} (hK : NumsOk K) {q : Nat} (hq : q < K.length) {d : De} (h : Track (puts En.new (flatC K)).N (puts En.new (flatC K)).m (puts En.new (flatC (K.take q))) d) :
    d.numV (K.getD q (0, 0)).2 = (K.getD q (0, 0)).1 ∧ NumOk (K.getD q (0, 0)).1 (K.getD q (0, 0)).2 ∧ Track (puts En.new (flatC K)).N (puts En.new (flatC K)).m (puts En.new (flatC (K.take (q + 1)))) (d.numD (K.getD q (0, 0)).2) := by
  have hget : K.getD q (0, 0) = K[q] := by rw [List.getD_eq_getElem?_getD, List.getElem?_eq_getElem hq]; rfl
  rw [hget]
  have hc : NumOk K[q].1 K[q].2 := hK _ (List.getElem_mem hq)
  have hT : NumsOk (K.take q) := fun x hx => hK x (List.mem_of_mem_take hx)
  have hD : NumsOk (K.drop (q + 1)) := fun x hx => hK x (List.mem_of_mem_drop hx)
  have hg := En.new_good.puts (flat_fair hT)
  have htk : K.take (q + 1) = K.take q ++ [K[q]] := by rw [List.take_succ_eq_append_getElem hq]
  have hsn : puts En.new (flatC (K.take (q + 1))) = puts (puts En.new (flatC (K.take q))) (chs K[q].1 K[q].2) := by rw [htk, ← puts_append]; congr 1; exact flat_snoc _ _ _
  have hall : puts En.new (flatC K) = puts (puts En.new (flatC (K.take (q + 1)))) (flatC (K.drop (q + 1))) := by rw [← puts_append, ← flat_append, List.take_append_drop]
  have hw : Within (puts En.new (flatC K)).N (puts En.new (flatC K)).m (puts (puts En.new (flatC (K.take q))) (chs K[q].1 K[q].2)) := by
    have hself := Within.self (En.new_good.puts (flat_fair hK))
    rw [← hsn]
    refine Within.puts (l := flatC (K.drop (q + 1))) ?_ (flat_fair hD) ?_
    · rw [hsn]; exact hg.puts (chs_fair hc)
    · rw [← hall]; exact hself
  obtain ⟨g1, g2⟩ := h.num hg hc hw
  refine ⟨g1, hc, ?_⟩
  rw [hsn]
  exact g2
theorem num_new {K : List (Nat × Nat)} (hK : NumsOk K) : Track (puts En.new (flatC K)).N (puts En.new (flatC K)).m (puts En.new (flatC (K.take 0))) (De.open (puts En.new (flatC K)).all) :=
  Track.init (En.new_good.puts (flat_fair hK)).lt

/-! ### Rows of pairs -/
def cells2 (K : List (Nat × Nat)) : List Value := K.flatMap fun p => [.int .u64 (p.1 : Int), .int .u64 (p.2 : Int)]
theorem cells2_snoc (K : List (Nat × Nat)) (v n : Nat) : cells2 (K ++ [(v, n)]) = cells2 K ++ [.int .u64 (v : Int), .int .u64 (n : Int)] := by simp [cells2]
theorem cells2_at (K : List (Nat × Nat)) (j : Nat) (h : j < K.length) : (cells2 K)[j * 2]? = some (.int .u64 ((K.getD j (0, 0)).1 : Int)) ∧ (cells2 K)[j * 2 + 1]? = some (.int .u64 ((K.getD j (0, 0)).2 : Int)) := by
  induction K generalizing j with
  | nil => simp at h
  | cons q K ih => cases j with
    | zero => exact ⟨rfl, rfl⟩
    | succ j =>
      have := ih j (by simpa using h)
      rw [show (j + 1) * 2 = j * 2 + 2 by omega]
      exact this
theorem own_pairs {w : World} {base : Nat} {T : TypeId} {kv : Value} {K : List (Nat × Nat)} (h : w.ownsRow base T 2 kv K.length (cells2 K)) :
    ∃ a cap, kv = .slice a K.length cap ∧ (K.length = 0 ∨ ∃ b off, a = some ⟨b, off, none⟩ ∧ b < w.heap.size ∧ ∀ j, j < K.length → w.cell? ⟨b, off + j * 2, none⟩ = some (.int .u64 ((K.getD j (0, 0)).1 : Int)) ∧ w.cell? ⟨b, off + j * 2 + 1, none⟩ = some (.int .u64 ((K.getD j (0, 0)).2 : Int))) := by
  obtain ⟨h1, h2⟩ := h
  rcases h2 with ⟨rfl, h0⟩ | ⟨g, cap, cur, rfl, hg, hh, hcap, hm, hs, ht⟩
  · exact ⟨none, 0, by rw [h0], .inl h0⟩
  · refine ⟨_, cap, rfl, .inr ⟨g, 0, rfl, ?_, fun j hj => ?_⟩⟩
    · rcases Nat.lt_or_ge g w.heap.size with h | h
      · exact h
      · rw [Array.getElem?_eq_none h] at hh; cases hh
    · obtain ⟨c0, c1⟩ := cells2_at K j hj
      rw [← ht, List.getElem?_take_of_lt (by omega)] at c0 c1
      simp only [World.cell?, hh, Nat.zero_add]
      exact ⟨by simpa using c0, by simpa using c1⟩
theorem takeNum_dec {d : De} (h : d.Ok) {n : Nat} (h1 : 1 ≤ n) (h2 : n ≤ 4294967296) (a : Option Addr) (cap : Nat) (W : World) (hr : Rw .u8 W (.slice a d.B.length cap) d.B) :
    Calls Try.prog 57 #[.agg #[.int .u64 d.C, .int .u32 d.R, .slice a d.B.length cap, .int .i64 d.A], .int .u64 n] W fun e w' => ∃ a' cap', e = .returned (.tuple #[.agg #[.int .u64 (d.numD n).C, .int .u32 (d.numD n).R, .slice a' (d.numD n).B.length cap', .int .i64 (d.numD n).A], .int .u64 (d.numV n : Nat), .int .i64 0]) ∧ (∀ w1, Rw .u8 w1 (.slice a d.B.length cap) d.B → Rw .u8 w1 (.slice a' (d.numD n).B.length cap') (d.numD n).B) ∧ Below W.heap.size W w' := by
  refine (takeNum_any _ _ _ _ _ _ d n h1 h2 W (h.dv hr)).mono ?_
  rintro e w' ⟨a', cap', rfl, hrw, hb⟩
  exact ⟨a', cap', rfl, fun w1 hh => hrw w1 (h.dv hh), hb⟩
end Go.Proofs.Ytkfpphccpkfenaa
