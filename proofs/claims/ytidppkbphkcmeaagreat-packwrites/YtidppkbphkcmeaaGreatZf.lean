/- Packs, plain: the choices as which a pack is put, how long they are, what is taken of them, and that it comes back. Nothing of the program is used by this text itself. -/
import Derived.Test.YtidppkbphkcmeaaGreatZe
import Derived.Deep.RegionWith
import Derived.Deep.DeepCutAuto
import Derived.Deep.CutRange
import Derived.Laws.CopyOwn
import Derived.Deep.RegionHeld3
import Derived.Deep.OwnRows
namespace Go.Proofs.YtidppkbphkcmeaaGreat
open Go.RowKit
set_option linter.unusedVariables false
set_option linter.unusedSimpArgs false

theorem V_none (n : Nat) : V n 0 = 1 := by
  induction n with
  | zero => rfl
  | succ n ih => rw [V_succ, ih]; rfl
theorem chK_alone (x y z : List Int) (k : Nat) : chK true x y k = chK true x z k := by
  induction k with
  | zero => rfl
  | succ k ih => rw [chK_succ, chK_succ, ih]; rfl
theorem vK_alone (d : De) (y z : List Int) (k : Nat) : vK true d y k = vK true d z k := by
  unfold vK
  exact tab_congr fun i hi => rfl
/-! ### The choices -/
/-- A pulse vector's choices. -/
def cV (y : List Int) : List (Nat × Nat × Nat) := if ps y = 0 then [] else chs (ix y.length (ps y) y) (V y.length (ps y))
/-- Those of the first bands of a channel. -/
def cB (l : List (List Int)) (n : Nat) : List (Nat × Nat × Nat) := (List.range n).flatMap fun b => cV (l.getD b [])
/-- Those of the first channels. -/
def cY (Y : List (List (List Int))) (n : Nat) : List (Nat × Nat × Nat) := (List.range n).flatMap fun i => cB (Y.getD i []) 5
/-- The choices of the gains of the first channels. -/
def cG (intra : Bool) (G A : List (List Int)) (n : Nat) : List (Nat × Nat × Nat) := (List.range n).flatMap fun i => chK intra (G.getD i []) (A.getD i []) 5
/-- The first choice. -/
def fN (intra : Bool) : Nat := if intra = true then 1 else 0
def cF (intra : Bool) : List (Nat × Nat × Nat) := [(fN intra, fN intra + 1, 2)]
/-- A pack's choices. -/
def cP (intra : Bool) (G A : List (List Int)) (Y : List (List (List Int))) (c : Nat) : List (Nat × Nat × Nat) := cF intra ++ cG intra G A c ++ cY Y c
theorem cB_zero (l : List (List Int)) : cB l 0 = [] := rfl
theorem cB_succ (l : List (List Int)) (n : Nat) : cB l (n + 1) = cB l n ++ cV (l.getD n []) := by simp [cB, List.range_succ]
theorem cY_zero (Y : List (List (List Int))) : cY Y 0 = [] := rfl
theorem cY_succ (Y : List (List (List Int))) (n : Nat) : cY Y (n + 1) = cY Y n ++ cB (Y.getD n []) 5 := by simp [cY, List.range_succ]
theorem cG_zero (intra : Bool) (G A : List (List Int)) : cG intra G A 0 = [] := rfl
theorem cG_succ (intra : Bool) (G A : List (List Int)) (n : Nat) : cG intra G A (n + 1) = cG intra G A n ++ chK intra (G.getD n []) (A.getD n []) 5 := by simp [cG, List.range_succ]
/-- Fewer ones are the beginning of more. -/
theorem cB_more (l : List (List Int)) (n d : Nat) : ∃ m, cB l (n + d) = cB l n ++ m := by
  induction d with
  | zero => exact ⟨[], by simp⟩
  | succ d ih =>
    obtain ⟨m, hm⟩ := ih
    exact ⟨m ++ cV (l.getD (n + d) []), by rw [← Nat.add_assoc, cB_succ, hm, List.append_assoc]⟩
theorem cY_more (Y : List (List (List Int))) (n d : Nat) : ∃ m, cY Y (n + d) = cY Y n ++ m := by
  induction d with
  | zero => exact ⟨[], by simp⟩
  | succ d ih =>
    obtain ⟨m, hm⟩ := ih
    exact ⟨m ++ cB (Y.getD (n + d) []) 5, by rw [← Nat.add_assoc, cY_succ, hm, List.append_assoc]⟩
theorem cG_more (intra : Bool) (G A : List (List Int)) (n d : Nat) : ∃ m, cG intra G A (n + d) = cG intra G A n ++ m := by
  induction d with
  | zero => exact ⟨[], by simp⟩
  | succ d ih =>
    obtain ⟨m, hm⟩ := ih
    exact ⟨m ++ chK intra (G.getD (n + d) []) (A.getD (n + d) []) 5, by rw [← Nat.add_assoc, cG_succ, hm, List.append_assoc]⟩

/-! ### Packs that are right -/
/-- The vectors of a channel are right for these pulses. -/
def VsOk (l : List (List Int)) (k : Nat → Nat) : Prop := ∀ b, b < 5 → (l.getD b []).length = wd b ∧ ps (l.getD b []) = k b
structure PkOk (n : Int) (c : Nat) (G : List (List Int)) (Y : List (List (List Int))) : Prop where
  rt : rtB n c = true
  gs : fairG c G = true
  ly : Y.length = c
  l5 : ∀ i, i < c → (Y.getD i []).length = 5
  vs : ∀ i, i < c → VsOk (Y.getD i []) (chan (G.getD i []) (rmI n c))
theorem PkOk.lg {n : Int} {c : Nat} {G : List (List Int)} {Y : List (List (List Int))} (h : PkOk n c G Y) : G.length = c := by have := (fair_iff.1 h.gs).1; omega
theorem PkOk.gok {n : Int} {c : Nat} {G : List (List Int)} {Y : List (List (List Int))} (h : PkOk n c G Y) (i : Nat) (hi : i < c) : gokB (G.getD i []) = true := (fair_iff.1 h.gs).2 i (by rw [h.lg]; exact hi)
theorem PkOk.okf {n : Int} {c : Nat} {G : List (List Int)} {Y : List (List (List Int))} (h : PkOk n c G Y) (i : Nat) : Okf (G.getD i []) (rmI n c) (chan (G.getD i []) (rmI n c)) := (chan_ok _ (rm_bd n c).1).1
theorem PkOk.c2 {n : Int} {c : Nat} {G : List (List Int)} {Y : List (List (List Int))} (h : PkOk n c G Y) : (c = 1 ∧ 11 ≤ n ∧ n ≤ 60) ∨ (c = 2 ∧ 17 ≤ n ∧ n ≤ 60) := by
  rcases rt_parts h.rt with h | h
  · left; omega
  · right; omega
/-- Counts are small, and cost what is told. -/
theorem V_table : ((List.range 5).all fun b => (List.range 13).all fun k => decide (V (wd b) k ≤ 4294967296 ∧ (0 < k → sumB (chs 0 (V (wd b) k)) ≤ co b k))) = true := by decide +kernel
theorem V_tab {b k : Nat} (hb : b < 5) (hk : k ≤ 12) : V (wd b) k ≤ 4294967296 ∧ (0 < k → sumB (chs 0 (V (wd b) k)) ≤ co b k) := by
  have h := V_table
  rw [List.all_eq_true] at h
  have h1 := h b (List.mem_range.2 hb)
  rw [List.all_eq_true] at h1
  exact of_decide_eq_true (h1 k (List.mem_range.2 (by omega)))
theorem chs_sum (v n : Nat) : sumB (chs v n) = sumB (chs 0 n) ∧ (chs v n).length ≤ 2 := by
  unfold chs
  by_cases h : n ≤ 65536
  · rw [if_pos h, if_pos h]; exact ⟨rfl, by simp⟩
  · rw [if_neg h, if_neg h]; exact ⟨rfl, by simp⟩
theorem vec_num {b k : Nat} (hb : b < 5) (hk : k ≤ 12) {y : List Int} (hl : y.length = wd b) (hp : ps y = k) : NumOk (ix y.length (ps y) y) (V y.length (ps y)) := by
  rw [hl, hp]
  have h1 := V_pos (wd b) k (wd_pos hb).1
  exact ⟨h1, (V_tab hb hk).1, ix_lt y (wd b) k hl hp⟩
theorem cV_fair {b k : Nat} (hb : b < 5) (hk : k ≤ 12) {y : List Int} (hl : y.length = wd b) (hp : ps y = k) : Fairs (cV y) := by
  unfold cV
  split
  · exact fairs_nil
  · exact chs_fair (vec_num hb hk hl hp)
theorem cV_sum {b k : Nat} (hb : b < 5) (hk : k ≤ 12) {y : List Int} (hl : y.length = wd b) (hp : ps y = k) : sumB (cV y) ≤ co b k ∧ (cV y).length ≤ 2 := by
  unfold cV
  by_cases h : ps y = 0
  · rw [if_pos h]; simp [sumB]
  · rw [if_neg h, hl, hp]
    obtain ⟨h1, h2⟩ := chs_sum (ix (wd b) k y) (V (wd b) k)
    exact ⟨by rw [h1]; exact (V_tab hb hk).2 (by omega), h2⟩
theorem cB_fair {l : List (List Int)} {k : Nat → Nat} (h : VsOk l k) (hk : ∀ b, b < 5 → k b ≤ 12) (n : Nat) (hn : n ≤ 5) : Fairs (cB l n) := by
  induction n with
  | zero => exact fairs_nil
  | succ n ih =>
    rw [cB_succ]
    exact Fairs.append (ih (by omega)) (cV_fair (by omega) (hk n (by omega)) (h n (by omega)).1 (h n (by omega)).2)
theorem cB_sum {l : List (List Int)} {k : Nat → Nat} (h : VsOk l k) (hk : ∀ b, b < 5 → k b ≤ 12) (n : Nat) (hn : n ≤ 5) : sumB (cB l n) ≤ spn k n ∧ (cB l n).length ≤ 2 * n := by
  induction n with
  | zero => simp [cB_zero, sumB]
  | succ n ih =>
    rw [cB_succ, sumB_append, List.length_append, spn]
    have h1 := ih (by omega)
    have h2 := cV_sum (show n < 5 by omega) (hk n (by omega)) (h n (by omega)).1 (h n (by omega)).2
    omega
theorem cY_fair {n : Int} {c : Nat} {G : List (List Int)} {Y : List (List (List Int))} (h : PkOk n c G Y) (i : Nat) (hi : i ≤ c) : Fairs (cY Y i) := by
  induction i with
  | zero => exact fairs_nil
  | succ i ih =>
    rw [cY_succ]
    exact Fairs.append (ih (by omega)) (cB_fair (h.vs i (by omega)) (fun b hb => (h.okf i).le b hb) 5 (Nat.le_refl _))
theorem cY_sum {n : Int} {c : Nat} {G : List (List Int)} {Y : List (List (List Int))} (h : PkOk n c G Y) (i : Nat) (hi : i ≤ c) : ((sumB (cY Y i) : Nat) : Int) ≤ i * rmI n c ∧ (cY Y i).length ≤ 10 * i := by
  induction i with
  | zero => simp [cY_zero, sumB]
  | succ i ih =>
    rw [cY_succ, sumB_append, List.length_append]
    obtain ⟨h1, h2⟩ := ih (by omega)
    obtain ⟨h3, h4⟩ := cB_sum (h.vs i (by omega)) (fun b hb => (h.okf i).le b hb) 5 (Nat.le_refl _)
    have h5 := (h.okf i).cost
    unfold sp at h5
    have h6 : ((i + 1 : Nat) : Int) * rmI n c = (i : Int) * rmI n c + rmI n c := by rw [show ((i + 1 : Nat) : Int) = (i : Int) + 1 by omega, Int.add_mul, Int.one_mul]
    rw [h6]
    omega
theorem cG_fair {c : Nat} {G : List (List Int)} (intra : Bool) (A : List (List Int)) (h : ∀ i, i < c → gokB (G.getD i []) = true) (i : Nat) (hi : i ≤ c) : Fairs (cG intra G A i) := by
  induction i with
  | zero => exact fairs_nil
  | succ i ih =>
    rw [cG_succ]
    exact Fairs.append (ih (by omega)) (chK_fair _ _ (h i (by omega)) 5 (Nat.le_refl _))
theorem cG_sum (intra : Bool) (G A : List (List Int)) (i : Nat) : sumB (cG intra G A i) ≤ 45 * i ∧ (cG intra G A i).length ≤ 10 * i := by
  induction i with
  | zero => simp [cG_zero, sumB]
  | succ i ih =>
    rw [cG_succ, sumB_append, List.length_append]
    have h := chK_sum intra (G.getD i []) (A.getD i []) 5
    have h2 : (if intra = true then 6 else 9) ≤ 9 := by split <;> omega
    omega
theorem cF_fair (intra : Bool) : Fairs (cF intra) := fairs_one (by unfold fN; split <;> omega) (by decide)
theorem cF_sum (intra : Bool) : sumB (cF intra) = 1 ∧ (cF intra).length = 1 := by unfold cF; exact ⟨by simp [sumB]; decide, rfl⟩
theorem cP_fair {n : Int} {c : Nat} {G : List (List Int)} {Y : List (List (List Int))} (h : PkOk n c G Y) (intra : Bool) (A : List (List Int)) : Fairs (cP intra G A Y c) :=
  Fairs.append (Fairs.append (cF_fair intra) (cG_fair intra A h.gok c (Nat.le_refl _))) (cY_fair h c (Nat.le_refl _))
/-- A pack's bytes are fewer than its packet's. -/
theorem PkOk.short {n : Int} {c : Nat} {G : List (List Int)} {Y : List (List (List Int))} (h : PkOk n c G Y) (intra : Bool) (A : List (List Int)) : (((puts En.new (cP intra G A Y c)).m + 4 : Nat) : Int) ≤ n := by
  have h1 := short_enough (cP_fair h intra A)
  obtain ⟨h2, h3⟩ := cF_sum intra
  obtain ⟨h4, h5⟩ := cG_sum intra G A c
  obtain ⟨h6, h7⟩ := cY_sum h c (Nat.le_refl _)
  generalize (puts En.new (cP intra G A Y c)).m = m at *
  unfold cP at h1
  rw [sumB_append, sumB_append, List.length_append, List.length_append] at h1
  have hrt := h.rt
  rcases h.c2 with ⟨rfl, h8, h9⟩ | ⟨rfl, h8, h9⟩
  · rw [show ((1 : Nat) : Int) = 1 from rfl] at hrt h6
    rw [room_one hrt] at h6
    omega
  · rw [show ((2 : Nat) : Int) = 2 from rfl] at hrt h6
    rw [room_two hrt] at h6
    omega
/-- Where what comes out is short, there was room. -/
theorem En.put_m {e : En} (h : e.Good) {lo hi tot : Nat} (hf : Fair lo hi tot) : e.m ≤ (e.put lo hi tot).m := by rw [En.put_plain h hf]; exact Nat.le_add_right _ _
theorem puts_m {e : En} (h : e.Good) {l : List (Nat × Nat × Nat)} (hl : Fairs l) : e.m ≤ (puts e l).m := by
  induction l generalizing e with
  | nil => exact Nat.le_refl _
  | cons c l ih => exact Nat.le_trans (En.put_m h hl.cons.1) (ih (h.put hl.cons.1) hl.cons.2)
theorem rm_of {e : En} (h : e.Good) {l : List (Nat × Nat × Nat)} (hl : Fairs l) (hm : (puts e l).m < 3996) : rm e l = true := by
  induction l generalizing e with
  | nil => rfl
  | cons c l ih =>
    have h1 := puts_m (h.put hl.cons.1) hl.cons.2
    have h2 := En.put_m h hl.cons.1
    have h3 : (puts (e.put c.1 c.2.1 c.2.2) l).m < 3996 := hm
    simp only [rm, Bool.and_eq_true, decide_eq_true_eq]
    exact ⟨by omega, ih (h.put hl.cons.1) hl.cons.2 h3⟩

/-! ### What is taken -/
def dGs (intra : Bool) (d : De) : Nat → De
  | 0 => d
  | i + 1 => dK intra (dGs intra d i) 5
/-- The gains of a channel, taken. -/
def vGs (intra : Bool) (d : De) (A : List (List Int)) (i : Nat) : List Int := vK intra (dGs intra d i) (A.getD i []) 5
/-- The decoder behind the first bands of a channel. -/
def dB (d : De) (k : Nat → Nat) : Nat → De
  | 0 => d
  | b + 1 => if k b = 0 then dB d k b else (dB d k b).numD (V (wd b) (k b))
/-- The number of a band's vector. -/
def vB (d : De) (k : Nat → Nat) (b : Nat) : Nat := if k b = 0 then 0 else (dB d k b).numV (V (wd b) (k b))
def dC (d : De) (kk : Nat → Nat → Nat) : Nat → De
  | 0 => d
  | i + 1 => dB (dC d kk i) (kk i) 5
theorem dGs_ok {d : De} (h : d.Ok) (intra : Bool) (i : Nat) : (dGs intra d i).Ok := by
  induction i with
  | zero => exact h
  | succ i ih => exact dK_ok ih intra 5
theorem dB_ok {d : De} (h : d.Ok) {k : Nat → Nat} (hk : ∀ b, b < 5 → k b ≤ 12) (b : Nat) (hb : b ≤ 5) : (dB d k b).Ok := by
  induction b with
  | zero => exact h
  | succ b ih =>
    rw [dB]
    split
    · exact ih (by omega)
    · exact (ih (by omega)).numD (V_pos _ _ (wd_pos (by omega)).1) (V_tab (by omega) (hk b (by omega))).1
theorem dC_ok {d : De} (h : d.Ok) {kk : Nat → Nat → Nat} (hk : ∀ i b, b < 5 → kk i b ≤ 12) (i : Nat) : (dC d kk i).Ok := by
  induction i with
  | zero => exact h
  | succ i ih => exact dB_ok ih (hk i) 5 (Nat.le_refl _)
theorem numV_below (d : De) {n : Nat} (h : 1 ≤ n) : d.numV n < n := by
  unfold De.numV
  split
  · exact De.get_lt _ _ h
  · omega
theorem vB_lt (d : De) (k : Nat → Nat) {b : Nat} (hb : b < 5) : vB d k b < V (wd b) (k b) := by
  have := V_pos (wd b) (k b) (wd_pos hb).1
  unfold vB
  split
  · omega
  · exact numV_below _ this
/-- These vectors are those that are taken. -/
structure TkV (d : De) (k : Nat → Nat) (l : List (List Int)) : Prop where
  l5 : l.length = 5
  vs : VsOk l k
  at_ : ∀ b, b < 5 → ix (wd b) (k b) (l.getD b []) = vB d k b
theorem TkV.only {d : De} {k : Nat → Nat} {l l' : List (List Int)} (h : TkV d k l) (h' : TkV d k l') : l = l' := by
  apply List.ext_getElem
  · rw [h.l5, h'.l5]
  · intro b hb hb'
    have hb5 : b < 5 := by rw [h.l5] at hb; exact hb
    have e1 : l.getD b [] = l[b] := by simp [List.getD_eq_getElem?_getD, hb]
    have e2 : l'.getD b [] = l'[b] := by simp [List.getD_eq_getElem?_getD, hb']
    rw [← e1, ← e2]
    exact ix_inj (h.vs b hb5).1 (h'.vs b hb5).1 (h.vs b hb5).2 (h'.vs b hb5).2 ((h.at_ b hb5).trans (h'.at_ b hb5).symm)
structure TkY (d : De) (kk : Nat → Nat → Nat) (c : Nat) (Y : List (List (List Int))) : Prop where
  ly : Y.length = c
  ch : ∀ i, i < c → TkV (dC d kk i) (kk i) (Y.getD i [])
theorem TkY.only {d : De} {kk : Nat → Nat → Nat} {c : Nat} {Y Y' : List (List (List Int))} (h : TkY d kk c Y) (h' : TkY d kk c Y') : Y = Y' := by
  apply List.ext_getElem
  · rw [h.ly, h'.ly]
  · intro i hi hi'
    have hic : i < c := by rw [h.ly] at hi; exact hi
    have e1 : Y.getD i [] = Y[i] := by simp [List.getD_eq_getElem?_getD, hi]
    have e2 : Y'.getD i [] = Y'[i] := by simp [List.getD_eq_getElem?_getD, hi']
    rw [← e1, ← e2]
    exact (h.ch i hic).only (h'.ch i hic)
/-- The first choice, taken. -/
def fI (d : De) : Bool := decide (d.get 2 = 1)
def dF (d : De) : De := d.take (d.get 2) (d.get 2 + 1) 2
theorem dF_ok {d : De} (h : d.Ok) : (dF d).Ok := h.take ⟨by omega, by have := De.get_lt d 2 (by decide); omega, by decide⟩
/-- The gains of all channels, taken. -/
def gL (intra : Bool) (d : De) (A : List (List Int)) (c : Nat) : List (List Int) := (List.range c).map (vGs intra d A)
theorem gL_at (intra : Bool) (d : De) (A : List (List Int)) (c i : Nat) (hi : i < c) : (gL intra d A c).getD i [] = vGs intra d A i := by
  unfold gL; rw [List.getD_eq_getElem?_getD]; simp [hi]
theorem gL_len (intra : Bool) (d : De) (A : List (List Int)) (c : Nat) : (gL intra d A c).length = c := by simp [gL]
theorem gL_fair (intra : Bool) (d : De) (A : List (List Int)) (c : Nat) : fairG c (gL intra d A c) = true := by
  refine fair_iff.2 ⟨by rw [gL_len], fun i hi => ?_⟩
  rw [gL_len] at hi
  rw [gL_at _ _ _ _ _ hi]
  exact vK_gok _ _ _
/-- How many pulses a channel's bands have, by its gains. -/
def kkG (room : Int) (G : List (List Int)) (i : Nat) : Nat → Nat := chan (G.getD i []) room
/-- What is read is right. -/
theorem taken_ok {n : Int} {c : Nat} (hrt : rtB n c = true) (intra : Bool) (d : De) (A : List (List Int)) {Y : List (List (List Int))} (h : TkY (dGs intra d c) (kkG (rmI n c) (gL intra d A c)) c Y) : PkOk n c (gL intra d A c) Y :=
  ⟨hrt, gL_fair _ _ _ _, h.ly, fun i hi => (h.ch i hi).l5, fun i hi => (h.ch i hi).vs⟩

/-! ### It comes back -/
/-- Bytes behind which noughts stand. -/
theorem beL_pad (N m j : Nat) (hN : N < 256 ^ m) : beL (N * 256 ^ j) (m + j) = beL N m ++ List.replicate j 0 := by
  refine (beL_eq ?_ ?_ ?_).symm
  · exact (beL_byts _ _).append (fun x hx => by have := List.eq_of_mem_replicate hx; omega)
  · rw [List.length_append, beL_length, List.length_replicate]
  · have hz : ∀ j, be (List.replicate j 0) = 0 := by
      intro j
      induction j with
      | zero => rfl
      | succ j ih => rw [List.replicate_succ']; rw [be_snoc, ih]; rfl
    rw [be_append, be_beL, Nat.mod_eq_of_lt hN, hz, List.length_replicate, Nat.add_zero]
theorem Within.pad {e : En} (h : e.Good) (j : Nat) : Within (e.N * 256 ^ j) (e.m + j) e := by
  have := h.r.1
  have hp : 0 < 256 ^ j := Nat.pow_pos (by decide)
  refine ⟨by omega, by rw [Nat.add_sub_cancel_left]; exact Nat.le_refl _, ?_⟩
  rw [Nat.add_sub_cancel_left]
  exact Nat.mul_lt_mul_of_pos_right (by omega) hp
theorem Track.pad {e : En} (h : e.Good) (j : Nat) : Track (e.N * 256 ^ j) (e.m + j) En.new (De.open (e.all ++ List.replicate j 0)) := by
  have h1 := h.lt
  have e1 : e.all ++ List.replicate j 0 = beL (e.N * 256 ^ j) (e.m + j + 4) := by
    unfold En.all
    rw [← beL_pad _ _ _ h1]; congr 1; omega
  rw [e1]
  refine Track.init ?_
  rw [show e.m + j + 4 = (e.m + 4) + j by omega, Nat.pow_add]
  exact Nat.mul_lt_mul_of_pos_right h1 (Nat.pow_pos (by decide))
theorem Track.vecs {N M : Nat} {e : En} {d : De} (h : Track N M e d) (hg : e.Good) {l : List (List Int)} {k : Nat → Nat} (hv : VsOk l k) (hk : ∀ b, b < 5 → k b ≤ 12) (hw : Within N M (puts e (cB l 5))) :
    (∀ b, b < 5 → ix (wd b) (k b) (l.getD b []) = vB d k b) ∧ Track N M (puts e (cB l 5)) (dB d k 5) := by
  have key : ∀ b, b ≤ 5 → (∀ i, i < b → ix (wd i) (k i) (l.getD i []) = vB d k i) ∧ Track N M (puts e (cB l b)) (dB d k b) := by
    intro b
    induction b with
    | zero => exact fun _ => ⟨fun i hi => by omega, h⟩
    | succ b ih =>
      intro hb
      obtain ⟨i1, i2⟩ := ih (by omega)
      obtain ⟨q1, q2⟩ := hv b (by omega)
      have hkb := hk b (by omega)
      have hgb := hg.puts (cB_fair hv hk b (by omega))
      have hw2 : Within N M (puts e (cB l (b + 1))) := by
        obtain ⟨m, hm⟩ := cB_more l (b + 1) (4 - b)
        rw [show b + 1 + (4 - b) = 5 by omega] at hm
        have hfm : Fairs m := fun c hc => cB_fair hv hk 5 (Nat.le_refl _) c (by rw [hm]; simp [hc])
        rw [hm, puts_append] at hw
        exact Within.puts (hg.puts (cB_fair hv hk (b + 1) hb)) hfm hw
      rw [cB_succ, puts_append] at hw2 ⊢
      by_cases h0 : k b = 0
      · have hc : cV (l.getD b []) = [] := by unfold cV; rw [if_pos (by omega)]
        rw [hc] at hw2 ⊢
        refine ⟨fun i hi => ?_, by rw [dB, if_pos h0]; exact i2⟩
        by_cases hib : i < b
        · exact i1 i hib
        · obtain rfl : i = b := by omega
          unfold vB
          rw [if_pos h0]
          have hx := ix_lt (l.getD i []) (wd i) (k i) q1 q2
          have hv1 : V (wd i) 0 = 1 := V_none (wd i)
          rw [h0] at hx ⊢
          omega
      · have hc : cV (l.getD b []) = chs (ix (wd b) (k b) (l.getD b [])) (V (wd b) (k b)) := by unfold cV; rw [if_neg (by omega), q1, q2]
        rw [hc] at hw2 ⊢
        have hn := vec_num (show b < 5 by omega) hkb q1 q2
        rw [q1, q2] at hn
        obtain ⟨t1, t2⟩ := i2.num hgb hn hw2
        refine ⟨fun i hi => ?_, by rw [dB, if_neg h0]; exact t2⟩
        by_cases hib : i < b
        · exact i1 i hib
        · obtain rfl : i = b := by omega
          unfold vB
          rw [if_neg h0]
          exact t1.symm
  exact key 5 (Nat.le_refl _)
/-- A pack is taken as it was put. -/
theorem PkOk.back {n : Int} {c : Nat} {G : List (List Int)} {Y : List (List (List Int))} (h : PkOk n c G Y) (intra : Bool) {A : List (List Int)} (hA : intra = true ∨ fairG c A = true) (j : Nat) (d : De)
    (hd : d = De.open ((puts En.new (cP intra G A Y c)).all ++ List.replicate j 0)) :
    fI d = intra ∧ gL intra (dF d) A c = G ∧ TkY (dGs intra (dF d) c) (kkG (rmI n c) G) c Y := by
  have hfair := cP_fair h intra A
  have hgood := En.new_good.puts hfair
  have ht0 := Track.pad hgood j
  rw [← hd] at ht0
  have hw0 := Within.pad hgood j
  generalize hE : puts En.new (cP intra G A Y c) = E at *
  generalize E.N * 256 ^ j = N at *
  generalize E.m + j = M at *
  clear hd hgood
  have f1 := cF_fair intra
  have f2 := cG_fair intra A h.gok c (Nat.le_refl _)
  have f3 := cY_fair h c (Nat.le_refl _)
  have g1 := En.new_good.puts f1
  have g2 := g1.puts f2
  have hEE : puts (puts (puts En.new (cF intra)) (cG intra G A c)) (cY Y c) = E := by rw [← hE]; unfold cP; rw [puts_append, puts_append]
  have hw3 : Within N M (puts (puts (puts En.new (cF intra)) (cG intra G A c)) (cY Y c)) := by rw [hEE]; exact hw0
  have hw2 := Within.puts g2 f3 hw3
  have hw1 := Within.puts g1 f2 hw2
  -- the first choice
  have hff : Fair (fN intra) (fN intra + 1) 2 := fair_one (by unfold fN; split <;> omega) (by decide)
  have hget : d.get 2 = fN intra := get_only ht0 En.new_good hff hw1
  have ht1 : Track N M (puts En.new (cF intra)) (dF d) := by
    have := ht0.take En.new_good hff hw1
    unfold dF; rw [hget]; exact this
  have hfi : fI d = intra := by
    unfold fI; rw [hget]; unfold fN
    cases intra <;> rfl
  -- the gains
  have hgs : ∀ i, i ≤ c → (∀ q, q < i → vGs intra (dF d) A q = G.getD q []) ∧ Track N M (puts (puts En.new (cF intra)) (cG intra G A i)) (dGs intra (dF d) i) := by
    intro i
    induction i with
    | zero => exact fun _ => ⟨fun q hq => by omega, ht1⟩
    | succ i ih =>
      intro hi
      obtain ⟨i1, i2⟩ := ih (by omega)
      obtain ⟨m, hm⟩ := cG_more intra G A (i + 1) (c - (i + 1))
      rw [show i + 1 + (c - (i + 1)) = c by omega] at hm
      have hfm : Fairs m := fun x hx => f2 x (by rw [hm]; simp [hx])
      have hwi : Within N M (puts (puts En.new (cF intra)) (cG intra G A (i + 1))) := by
        have hh := hw2
        rw [hm, puts_append] at hh
        exact Within.puts (g1.puts (cG_fair intra A h.gok (i + 1) hi)) hfm hh
      rw [cG_succ, puts_append] at hwi ⊢
      have hgi := g1.puts (cG_fair intra A h.gok i (by omega))
      have hx := h.gok i (by omega)
      have hback : vK intra (dGs intra (dF d) i) (A.getD i []) 5 = G.getD i [] ∧ Track N M (puts (puts (puts En.new (cF intra)) (cG intra G A i)) (chK intra (G.getD i []) (A.getD i []) 5)) (dK intra (dGs intra (dF d) i) 5) := by
        rcases hA with rfl | hA
        · have hz : gokB [0, 0, 0, 0, 0] = true := by decide
          have e1 : chK true (G.getD i []) (A.getD i []) 5 = chK true (G.getD i []) [0, 0, 0, 0, 0] 5 := chK_alone _ _ _ 5
          rw [e1] at hwi ⊢
          have := i2.gains hgi true hx hz hwi
          exact ⟨(vK_alone _ _ _ 5).trans this.1, this.2⟩
        · exact i2.gains hgi intra hx ((fair_iff.1 hA).2 i (by have := (fair_iff.1 hA).1; omega)) hwi
      refine ⟨fun q hq => ?_, hback.2⟩
      by_cases hqi : q < i
      · exact i1 q hqi
      · obtain rfl : q = i := by omega
        exact hback.1
  obtain ⟨hG1, hG2⟩ := hgs c (Nat.le_refl _)
  have hgl : gL intra (dF d) A c = G := by
    apply List.ext_getElem
    · rw [gL_len, h.lg]
    · intro i hi hi'
      have hic : i < c := by rw [gL_len] at hi; exact hi
      have e1 : (gL intra (dF d) A c).getD i [] = (gL intra (dF d) A c)[i] := by simp [List.getD_eq_getElem?_getD, hi]
      have e2 : G.getD i [] = G[i] := by simp [List.getD_eq_getElem?_getD, hi']
      rw [← e1, ← e2, gL_at _ _ _ _ _ hic]
      exact hG1 i hic
  -- the vectors
  have hys : ∀ i, i ≤ c → (∀ q, q < i → TkV (dC (dGs intra (dF d) c) (kkG (rmI n c) G) q) (kkG (rmI n c) G q) (Y.getD q [])) ∧ Track N M (puts (puts (puts En.new (cF intra)) (cG intra G A c)) (cY Y i)) (dC (dGs intra (dF d) c) (kkG (rmI n c) G) i) := by
    intro i
    induction i with
    | zero => exact fun _ => ⟨fun q hq => by omega, hG2⟩
    | succ i ih =>
      intro hi
      obtain ⟨i1, i2⟩ := ih (by omega)
      obtain ⟨m, hm⟩ := cY_more Y (i + 1) (c - (i + 1))
      rw [show i + 1 + (c - (i + 1)) = c by omega] at hm
      have hfm : Fairs m := fun x hx => f3 x (by rw [hm]; simp [hx])
      have hwi : Within N M (puts (puts (puts En.new (cF intra)) (cG intra G A c)) (cY Y (i + 1))) := by
        have hh := hw3
        rw [hm, puts_append] at hh
        exact Within.puts (g2.puts (cY_fair h (i + 1) hi)) hfm hh
      rw [cY_succ, puts_append] at hwi ⊢
      have hv : VsOk (Y.getD i []) (kkG (rmI n c) G i) := h.vs i (by omega)
      obtain ⟨v1, v2⟩ := i2.vecs (g2.puts (cY_fair h i (by omega))) hv (fun b hb => (h.okf i).le b hb) hwi
      refine ⟨fun q hq => ?_, v2⟩
      by_cases hqi : q < i
      · exact i1 q hqi
      · obtain rfl : q = i := by omega
        exact ⟨h.l5 q (by omega), hv, v1⟩
  exact ⟨hfi, hgl, h.ly, (hys c (Nat.le_refl _)).1⟩

/-! ### Whatever is ahead -/
theorem cG_alone (G A A' : List (List Int)) (n : Nat) : cG true G A n = cG true G A' n := by
  induction n with
  | zero => rfl
  | succ n ih => rw [cG_succ, cG_succ, ih, chK_alone _ _ (A'.getD n []) 5]
theorem cP_alone (G A A' : List (List Int)) (Y : List (List (List Int))) (c : Nat) : cP true G A Y c = cP true G A' Y c := by unfold cP; rw [cG_alone G A A' c]
theorem gL_alone (d : De) (A A' : List (List Int)) (c : Nat) : gL true d A c = gL true d A' c := by
  unfold gL vGs
  apply List.map_congr_left
  intro i _
  exact vK_alone _ _ _ 5

/-! ### Channel by channel: how long -/
/-- The choices in the order in which the document reckons their length. -/
def cL (intra : Bool) (G A : List (List Int)) (Y : List (List (List Int))) (n : Nat) : List (Nat × Nat × Nat) := [(0, 1, 2)] ++ (List.range n).flatMap fun i => chK intra (G.getD i []) (A.getD i []) 5 ++ cB (Y.getD i []) 5
theorem cL_zero (intra : Bool) (G A : List (List Int)) (Y : List (List (List Int))) : cL intra G A Y 0 = [(0, 1, 2)] := rfl
theorem cL_succ (intra : Bool) (G A : List (List Int)) (Y : List (List (List Int))) (n : Nat) : cL intra G A Y (n + 1) = cL intra G A Y n ++ chK intra (G.getD n []) (A.getD n []) 5 ++ cB (Y.getD n []) 5 := by simp [cL, List.range_succ]
theorem cL_fair {n : Int} {c : Nat} {G : List (List Int)} {Y : List (List (List Int))} (h : PkOk n c G Y) (intra : Bool) (A : List (List Int)) (i : Nat) (hi : i ≤ c) : Fairs (cL intra G A Y i) := by
  induction i with
  | zero => exact fairs_one (v := 0) (by decide) (by decide)
  | succ i ih =>
    rw [cL_succ]
    exact Fairs.append (Fairs.append (ih (by omega)) (chK_fair _ _ (h.gok i (by omega)) 5 (Nat.le_refl _))) (cB_fair (h.vs i (by omega)) (fun b hb => (h.okf i).le b hb) 5 (Nat.le_refl _))
theorem cL_sum {n : Int} {c : Nat} {G : List (List Int)} {Y : List (List (List Int))} (h : PkOk n c G Y) (intra : Bool) (A : List (List Int)) (i : Nat) (hi : i ≤ c) : ((sumB (cL intra G A Y i) : Nat) : Int) ≤ 1 + 45 * i + i * rmI n c ∧ (cL intra G A Y i).length ≤ 1 + 20 * i := by
  induction i with
  | zero => rw [cL_zero]; exact ⟨by simp [sumB]; decide, by simp⟩
  | succ i ih =>
    rw [cL_succ, sumB_append, sumB_append, List.length_append, List.length_append]
    obtain ⟨h1, h2⟩ := ih (by omega)
    obtain ⟨h3, h4⟩ := cB_sum (h.vs i (by omega)) (fun b hb => (h.okf i).le b hb) 5 (Nat.le_refl _)
    have h5 := (h.okf i).cost
    unfold sp at h5
    have h6 : ((i + 1 : Nat) : Int) * rmI n c = (i : Int) * rmI n c + rmI n c := by rw [show ((i + 1 : Nat) : Int) = (i : Int) + 1 by omega, Int.add_mul, Int.one_mul]
    have h7 := chK_sum intra (G.getD i []) (A.getD i []) 5
    have h8 : (if intra = true then 6 else 9) ≤ 9 := by split <;> omega
    rw [h6]
    omega
theorem PkOk.long {n : Int} {c : Nat} {G : List (List Int)} {Y : List (List (List Int))} (h : PkOk n c G Y) (intra : Bool) (A : List (List Int)) : (((puts En.new (cL intra G A Y c)).m + 4 : Nat) : Int) ≤ n := by
  have h1 := short_enough (cL_fair h intra A c (Nat.le_refl _))
  obtain ⟨h2, h3⟩ := cL_sum h intra A c (Nat.le_refl _)
  generalize (puts En.new (cL intra G A Y c)).m = m at *
  have hrt := h.rt
  rcases h.c2 with ⟨rfl, h8, h9⟩ | ⟨rfl, h8, h9⟩
  · rw [show ((1 : Nat) : Int) = 1 from rfl] at hrt h2
    rw [room_one hrt] at h2
    omega
  · rw [show ((2 : Nat) : Int) = 2 from rfl] at hrt h2
    rw [room_two hrt] at h2
    omega
/-- All that is put on the way has room. -/
theorem PkOk.rm {n : Int} {c : Nat} {G : List (List Int)} {Y : List (List (List Int))} (h : PkOk n c G Y) (intra : Bool) (A : List (List Int)) : rm En.new (cP intra G A Y c) = true := by
  refine rm_of En.new_good (cP_fair h intra A) ?_
  have h1 := h.short intra A
  have h2 := rt_parts h.rt
  omega
theorem PkOk.rmL {n : Int} {c : Nat} {G : List (List Int)} {Y : List (List (List Int))} (h : PkOk n c G Y) (intra : Bool) (A : List (List Int)) : Go.Proofs.YtidppkbphkcmeaaGreat.rm En.new (cL intra G A Y c) = true := by
  refine rm_of En.new_good (cL_fair h intra A c (Nat.le_refl _)) ?_
  have h1 := h.long intra A
  have h2 := rt_parts h.rt
  omega
theorem rm_left {e : En} {l m : List (Nat × Nat × Nat)} (h : rm e (l ++ m) = true) : rm e l = true ∧ rm (puts e l) m = true := by rw [rm_append, Bool.and_eq_true] at h; exact h

/-! ### Right or not -/
/-- Is the pack right? -/
def vsB (l : List (List Int)) (k : Nat → Nat) : Bool := (List.range 5).all fun b => decide ((l.getD b []).length = wd b ∧ ps (l.getD b []) = k b)
def pkB (n : Int) (c : Int) (G : List (List Int)) (Y : List (List (List Int))) : Bool :=
  rtB n c && fairG c G && decide ((Y.length : Int) = c) && (List.range Y.length).all fun i => decide ((Y.getD i []).length = 5) && vsB (Y.getD i []) (chan (G.getD i []) (rmI n c))
theorem vs_iff {l : List (List Int)} {k : Nat → Nat} : vsB l k = true ↔ VsOk l k := by
  unfold vsB VsOk
  rw [List.all_eq_true]
  constructor
  · exact fun h b hb => of_decide_eq_true (h b (List.mem_range.2 hb))
  · exact fun h b hb => decide_eq_true (h b (List.mem_range.1 hb))
theorem pk_iff {n : Int} {c : Int} {G : List (List Int)} {Y : List (List (List Int))} : pkB n c G Y = true ↔ ∃ m : Nat, (m : Int) = c ∧ PkOk n m G Y := by
  unfold pkB
  rw [Bool.and_eq_true, Bool.and_eq_true, Bool.and_eq_true, List.all_eq_true, decide_eq_true_eq]
  constructor
  · rintro ⟨⟨⟨h1, h2⟩, h3⟩, h4⟩
    refine ⟨Y.length, h3, ?_⟩
    subst h3
    have hh : ∀ i, i < Y.length → (Y.getD i []).length = 5 ∧ VsOk (Y.getD i []) (chan (G.getD i []) (rmI n (Y.length : Nat))) := fun i hi => by
      have := h4 i (List.mem_range.2 hi)
      rw [Bool.and_eq_true, decide_eq_true_eq, vs_iff] at this
      exact this
    exact ⟨h1, h2, rfl, fun i hi => (hh i hi).1, fun i hi => (hh i hi).2⟩
  · rintro ⟨m, rfl, h⟩
    refine ⟨⟨⟨h.rt, h.gs⟩, by rw [h.ly]⟩, fun i hi => ?_⟩
    have hi : i < m := by have := List.mem_range.1 hi; rw [h.ly] at this; exact this
    rw [Bool.and_eq_true, decide_eq_true_eq, vs_iff]
    exact ⟨h.l5 i hi, h.vs i hi⟩
end Go.Proofs.YtidppkbphkcmeaaGreat
/- Contracts: the pulses of a vector, a channel's vectors right or not, gains ahead or none, by the program; a channel's list, by the document. -/
namespace Go.Proofs.YtidppkbphkcmeaaGreat
open Go.RowKit
set_option linter.unusedVariables false
set_option linter.unusedSimpArgs false

set_option maxHeartbeats 1000000 in
theorem cpulses_ok (a : Option Addr) (n cap : Nat) (y : List Int) (hn : n = y.length) (h : okB y = true) (w : World) (hv : Rw .i64 w (.slice a n cap) y) : Calls Tryz.prog 54 #[.slice a n cap] w fun e w' => e = .returned (.int .i64 (ps y : Nat)) ∧ w' = w := by
  subst hn
  obtain ⟨h1, h2, h3⟩ := okB_parts h
  obtain ⟨a', cap', he, ha⟩ := hv
  simp only [Value.slice.injEq] at he
  obtain ⟨rfl, _, rfl⟩ := he
  obtain ⟨b, off, rfl, hlt, hc⟩ := ha.resolve_left (by intro h; subst h; simp at h1)
  have HC : Hid (∀ i, i < y.length → w.cell? ⟨b, off + i, none⟩ = some (.int .i64 (y.getD i 0))) := hc
  have i1 : (y.length : Int) ≤ 16 := by omega
  have HP12 := hid h3
  clear ha hc h
  go_enter Tryz.func54, Tryz.ntmps54
  go_wp2
  go_loop [3, 8] (fun s i => ∃ j : Nat, j ≤ y.length ∧ i = .int .i64 j ∧ s = .int .i64 (ps (y.take j) : Nat)) (fun _ i => y.length - (intOf i).toNat)
  case atStart => exact ⟨0, by omega, rfl, by simp [ps]⟩
  case round =>
    obtain ⟨j, hj, rfl, rfl⟩ := hrel
    by_cases hl : j < y.length
    · have g := HC.out j hl
      have HN : Hid _ := ps_next y j hl
      have hle := ps_at y j hl
      have h12 : ps (y.take j) + (y.getD j 0).natAbs ≤ 12 := Nat.le_trans hle HP12.out
      generalize y.getD j 0 = x at *
      generalize ps (y.take j) = s at *
      clear hle h3
      by_cases hx : x < 0
      · go_wp2
        exact ⟨⟨j + 1, by omega, by go_num, by rw [HN.out]; congr 1; omega⟩, by simp [intOf]; omega⟩
      · go_wp2
        exact ⟨⟨j + 1, by omega, by go_num, by rw [HN.out]; congr 1; omega⟩, by simp [intOf]; omega⟩
    · have hje : j = y.length := by omega
      have HP : Hid (ps y = ps (y.take j)) := by unfold Hid; rw [hje, List.take_length]
      generalize ps (y.take j) = s at *
      clear hje
      go_wp2
      go_ret
      exact ⟨ret_int (by rw [HP.out]), rfl⟩

theorem ok_of_vec {b k : Nat} (hb : b < 5) (hk : k ≤ 12) {y : List Int} (hl : y.length = wd b) (hp : ps y = k) : okB y = true := by
  have := wd_pos hb
  exact decide_eq_true (by omega)

set_option maxHeartbeats 4000000 in
theorem rvecs_any {ok : Bool} (a : Option Addr) (n cap : Nat) (L : List (List Int)) (ka : Option Addr) (kc : Nat) (f : Nat → Nat) (w : World) (hn : L.length = n) (hmax : n ≤ 9223372036854775807) (hv : Fr ok w (.slice a n cap) L) (hfit : ∀ i, Fits (L.getD i [])) (hk : Rw .i64 w (.slice ka 5 kc) (pls f)) (hf : ∀ b, b < 5 → f b ≤ 12) :
    Calls Tryz.prog 50 #[.slice a n cap, .slice ka 5 kc] w fun e w' => e = .returned (.bool (decide (n = 5) && vsB L f)) ∧ Below w.heap.size w w' := by
  by_cases hn5 : n = 5
  · subst hn5
    have HRR : Hid ((decide ((5 : Nat) = 5) && vsB L f) = vsB L f) := by unfold Hid; rw [decide_eq_true rfl, Bool.true_and]
    rw [HRR.out]
    clear HRR
    obtain ⟨kb, ko, rfl, hkb, hkc⟩ := rw_pls hk
    have HYES : Hid ((∀ i, i < 5 → (L.getD i []).length = wd i ∧ ps (L.getD i []) = f i) → vsB L f = true) := fun h => vs_iff.2 h
    have HNO : Hid (∀ i, i < 5 → ¬ ((L.getD i []).length = wd i ∧ ps (L.getD i []) = f i) → vsB L f = false) := fun i hi h => by
      cases hb : vsB L f with
      | false => rfl
      | true => exact absurd (vs_iff.1 hb i hi) h
    generalize vsB L f = R at *
    have HV := hid hv
    have HK := hid hkc
    have HF := hid hf
    have HFIT := hid hfit
    clear hk hv hkc hn hf hfit
    go_enter Tryz.func50, Tryz.ntmps50
    go_wp2
    go_loopw [14] (fun i wr => ∃ k : Nat, k ≤ 5 ∧ i = .int .i64 (k : Nat) ∧ Hid (∀ j, j < k → (L.getD j []).length = wd j ∧ ps (L.getD j []) = f j) ∧ Hid (Below w.heap.size w wr)) (fun i _ => 5 - (intOf i).toNat)
    case atStart => exact ⟨0, by omega, rfl, fun j hj => by omega, Below.refl _ _⟩
    case round =>
      obtain ⟨k, hk5, rfl, HP, HB⟩ := hrel
      by_cases hlt : k < 5
      · obtain ⟨b, off, hbo, hb, ra, rc, hc1, _, hrw⟩ := (HV.out.below HB.out).at k hlt
        have hbo' := hbo.symm
        subst hbo'
        have hkk := ((bcell HB.out).1 _ _ hkb).trans (HK.out k hlt)
        have hkb2 := Nat.lt_of_lt_of_le hkb HB.out.size
        have hwd := fun w => width_b k hlt w
        have hft := HFIT.out k
        have HPN : Hid ((L.getD k []).length = wd k ∧ ps (L.getD k []) = f k → ∀ j, j < k + 1 → (L.getD j []).length = wd j ∧ ps (L.getD j []) = f j) := fun h j hj => by
          by_cases e : j < k
          · exact HP.out j e
          · obtain rfl : j = k := by omega
            exact h
        have HNK : Hid (¬ ((L.getD k []).length = wd k ∧ ps (L.getD k []) = f k) → R = false) := HNO.out k hlt
        have hfk := HF.out k hlt
        have HOK : Hid ((L.getD k []).length = wd k ∧ ps (L.getD k []) = f k → okB (L.getD k []) = true) := fun h => ok_of_vec hlt hfk h.1 h.2
        generalize L.getD k [] = y at *
        have i1 : (0 : Int) ≤ (k : Int) := by omega
        have i2 : (k : Int) < 5 := by omega
        have i3 : IntKind.i64.wrap (k : Int) = k := wraps_i64 _ (by omega) (by omega)
        clear HNO HFIT HF HP hkb
        generalize f k = q at *
        generalize wd k = d at *
        by_cases hok : okB y = true
        · have hix := index_ok (.slice ra y.length rc) y wr hrw hft hok
          have hpl := fun W (h : Below wr.heap.size wr W) => cpulses_ok ra _ rc y rfl hok W (hrw.below h)
          generalize ix y.length (ps y) y = I at *
          by_cases hw : y.length = d
          · by_cases hp : ps y = q
            · have HP2 := hid (HPN.out ⟨hw, hp⟩)
              have k1 : ((y.length : Int) != (d : Int)) = false := by simp; omega
              have k2 : ((ps y : Int) != (q : Int)) = false := by simp; omega
              clear hok hft HPN HNK HOK hw hp hrw
              generalize y.length = Z at *
              generalize ps y = p at *
              go_wp2_with (go_at_call 55; refine hix.mono ?_; rintro e w1 ⟨rfl, hb1⟩)
              have hkk1 := ((bcell hb1).1 _ _ hkb2).trans hkk
              have hpl2 := fun n => hpl (w1.drewN n) (drewN_below hb1 n)
              go_quiet (first | (go_at_call 74; exact Calls.quiet_of_same (hwd _)) | (go_at_call 54; exact Calls.quiet_of_same (hpl2 _)))
              go_wp2
              exact ⟨⟨k + 1, by omega, by go_num, HP2, bthen' HB.out (drewN_below hb1 _)⟩, by simp [intOf]; omega⟩
            · have HR := hid (HNK.out (fun h => hp h.2))
              have k1 : ((y.length : Int) != (d : Int)) = false := by simp; omega
              have k2 : ((ps y : Int) != (q : Int)) = true := by simp; omega
              clear hok hft HPN HNK HOK hw hp hrw
              generalize y.length = Z at *
              generalize ps y = p at *
              go_wp2_with (go_at_call 55; refine hix.mono ?_; rintro e w1 ⟨rfl, hb1⟩)
              have hkk1 := ((bcell hb1).1 _ _ hkb2).trans hkk
              have hpl2 := fun n => hpl (w1.drewN n) (drewN_below hb1 n)
              go_quiet (first | (go_at_call 74; exact Calls.quiet_of_same (hwd _)) | (go_at_call 54; exact Calls.quiet_of_same (hpl2 _)))
              go_wp2
              go_ret
              exact ⟨ret_bool HR.out.symm, bthen' HB.out (drewN_below hb1 _)⟩
          · have HR := hid (HNK.out (fun h => hw h.1))
            have k1 : ((y.length : Int) != (d : Int)) = true := by simp; omega
            clear hok hft HPN HNK HOK hw hrw hpl
            generalize y.length = Z at *
            go_wp2_with (go_at_call 55; refine hix.mono ?_; rintro e w1 ⟨rfl, hb1⟩)
            go_quiet (first | (go_at_call 74; exact Calls.quiet_of_same (hwd _)))
            go_wp2
            go_ret
            exact ⟨ret_bool HR.out.symm, bthen' HB.out (drewN_below hb1 _)⟩
        · have hok' : okB y = false := by simpa using hok
          have hix := index_no (.slice ra y.length rc) y wr hrw hft hok'
          have HR := hid (HNK.out (fun h => hok (HOK.out h)))
          clear hok hok' hft HPN HNK HOK hrw
          generalize y.length = Z at *
          go_wp2_with (go_at_call 55; refine hix.mono ?_; rintro e w9 ⟨rfl, h9⟩; have h9 := h9.symm; subst h9)
          go_quiet (first | (go_at_call 74; exact Calls.quiet_of_same (hwd _)))
          go_wp2
          go_ret
          exact ⟨ret_bool HR.out.symm, drewN_below HB.out _⟩
      · obtain rfl : k = 5 := by omega
        have HR := hid (HYES.out HP.out)
        clear hlt HYES HNO HP
        go_wp2
        go_ret
        exact ⟨ret_bool HR.out.symm, HB.out⟩
  · have HRR : Hid (false = (decide (n = 5) && vsB L f)) := by unfold Hid; rw [decide_eq_false hn5, Bool.false_and]
    have hn5' : ((n : Int) != 5) = true := by simp; omega
    generalize (decide (n = 5) && vsB L f) = R at *
    clear hn5 hv hk hfit hf hn
    go_enter Tryz.func50, Tryz.ntmps50
    go_wp2
    go_ret
    exact ⟨ret_bool HRR.out, Below.refl _ _⟩

/-- Gains ahead, or nothing is asked for. -/
def ahB (intra : Bool) (c : Int) (A : List (List Int)) : Bool := intra || fairG c A

set_option maxHeartbeats 1000000 in
theorem cahead_any {ok : Bool} (c : Int) (a : Option Addr) (n cap : Nat) (L : List (List Int)) (intra : Bool) (w : World) (hn : L.length = n) (hmax : n ≤ 9223372036854775807) (hv : Fr ok w (.slice a n cap) L) : Calls Tryz.prog 18 #[.int .i64 c, .slice a n cap, .bool intra] w fun e w' => e = .returned (.bool (ahB intra c L)) ∧ w' = w := by
  cases intra
  · have HAH : Hid (ahB false c L = fairG c L) := rfl
    rw [HAH.out]
    clear HAH
    by_cases hc : (n : Int) = c
    · subst hc
      have HYES : Hid ((∀ i, i < n → gokB (L.getD i []) = true) → fairG n L = true) := fun h => fair_iff.2 ⟨by omega, fun i hi => h i (by omega)⟩
      have HNO : Hid (∀ i, i < n → gokB (L.getD i []) = false → fairG n L = false) := fun i hi h => fair_no fun hh => by have := hh.2 i (by omega); rw [h] at this; cases this
      have HAT : Hid (∀ i, i < n → ∃ b off, a = some ⟨b, off, none⟩ ∧ b < w.heap.size ∧ ∃ ra rc, w.cell? ⟨b, off + i, none⟩ = some (.slice ra (L.getD i []).length rc) ∧ (ok = true → (L.getD i []).length ≤ rc) ∧ Rw .i64 w (.slice ra (L.getD i []).length rc) (L.getD i [])) := fun i hi => hv.at i hi
      generalize fairG n L = R at *
      clear hn hv
      go_enter Tryz.func18, Tryz.ntmps18
      go_wp2
      go_loop [16] (fun i => ∃ k : Nat, k ≤ n ∧ i = .int .i64 (k : Nat) ∧ Hid (∀ j, j < k → gokB (L.getD j []) = true)) (fun i => n - (intOf i).toNat)
      case atStart => exact ⟨0, by omega, rfl, fun j hj => by omega⟩
      case round =>
        obtain ⟨k, hk, rfl, HP⟩ := hrel
        by_cases hlt : k < n
        · obtain ⟨b, off, rfl, hb, ra, rc, hc1, _, hrw⟩ := HAT.out k hlt
          have hr := right_any ra _ rc _ rfl w hrw
          have i1 : (0 : Int) ≤ (k : Int) := by omega
          have i2 : (k : Int) < (n : Int) := by omega
          have i3 : IntKind.i64.wrap (k : Int) = k := wraps_i64 _ (by omega) (by omega)
          by_cases hg : gokB (L.getD k []) = true
          · have HP2 : Hid (∀ j, j < k + 1 → gokB (L.getD j []) = true) := fun j hj => by
              by_cases e : j < k
              · exact HP.out j e
              · obtain rfl : j = k := by omega
                exact hg
            rw [hg] at hr
            clear hg HAT hrw
            generalize (L.getD k []).length = m at *
            go_wp2_with (go_at_call 51; refine hr.mono ?_; rintro e w9 ⟨rfl, h9⟩; have h9 := h9.symm; subst h9)
            exact ⟨⟨k + 1, by omega, by go_num, HP2⟩, by simp [intOf]; omega⟩
          · have hg' : gokB (L.getD k []) = false := by simpa using hg
            have HR := hid (HNO.out k hlt hg')
            rw [hg'] at hr
            clear hg hg' HAT hrw HNO HYES HP
            generalize (L.getD k []).length = m at *
            go_wp2_with (go_at_call 51; refine hr.mono ?_; rintro e w9 ⟨rfl, h9⟩; have h9 := h9.symm; subst h9)
            go_ret
            exact ⟨ret_bool HR.out.symm, rfl⟩
        · obtain rfl : k = n := by omega
          have HR := hid (HYES.out HP.out)
          clear HAT hlt HYES HNO HP
          go_wp2
          go_ret
          exact ⟨ret_bool HR.out.symm, rfl⟩
    · have hR : fairG c L = false := fair_no fun h => hc (by omega)
      have hc' : ((n : Int) != c) = true := by simp; exact hc
      rw [hR]
      clear hR hc hv hn
      go_enter Tryz.func18, Tryz.ntmps18
      go_wp2
      go_ret
      exact ⟨rfl, rfl⟩
  · go_enter Tryz.func18, Tryz.ntmps18
    go_wp2
    go_ret
    exact ⟨rfl, rfl⟩

/-- The gains ahead of a channel, as the program asks for them. -/
def ahd (intra : Bool) (A : List (List Int)) (i : Nat) : List Int := if intra = true then [] else A.getD i []
theorem chK_ahd (intra : Bool) (x : List Int) (A : List (List Int)) (i k : Nat) : chK intra x (ahd intra A i) k = chK intra x (A.getD i []) k := by
  cases intra
  · rfl
  · exact chK_alone _ _ _ _
theorem vK_ahd (intra : Bool) (d : De) (A : List (List Int)) (i k : Nat) : vK intra d (ahd intra A i) k = vK intra d (A.getD i []) k := by
  cases intra
  · rfl
  · exact vK_alone _ _ _ _
theorem gok_ahd {intra : Bool} {c : Nat} {A : List (List Int)} (h : ahB intra c A = true) (i : Nat) (hi : i < c) : (intra || gokB (ahd intra A i)) = true := by
  cases intra
  · have h1 := fair_iff.1 (show fairG c A = true from h)
    exact h1.2 i (by have := h1.1; omega)
  · rfl
theorem rw_none (w : World) : Rw .i64 w (.slice none 0 0) [] := ⟨none, 0, rfl, .inl rfl⟩
set_option maxRecDepth 10000 in
theorem aheadOf_any {ok : Bool} (i : Nat) (a : Option Addr) (n cap : Nat) (A : List (List Int)) (intra : Bool) (w : World) (hv : Fr ok w (.slice a n cap) A) (hi : intra = true ∨ i < n) (hmax : n ≤ 9223372036854775807) :
    Calls Tryz.prog 22 #[.int .i64 (i : Nat), .slice a n cap, .bool intra] w fun e w' => (∃ ra rc, e = .returned (.slice ra (ahd intra A i).length rc) ∧ ∀ w2, Below w.heap.size w w2 → Rw .i64 w2 (.slice ra (ahd intra A i).length rc) (ahd intra A i)) ∧ w' = w := by
  cases intra
  · have hi : i < n := hi.resolve_left (by decide)
    obtain ⟨b, off, rfl, hb, ra, rc, hc1, _, hrw⟩ := hv.at i hi
    have i1 : (0 : Int) ≤ (i : Int) := by omega
    have i2 : (i : Int) < (n : Int) := by omega
    have i3 : IntKind.i64.wrap (i : Int) = i := wraps_i64 _ (by omega) (by omega)
    have HE : Hid (ahd false A i = A.getD i []) := rfl
    have HR : Hid (∀ w2, Below w.heap.size w w2 → Rw .i64 w2 (.slice ra (ahd false A i).length rc) (ahd false A i)) := fun w2 h => by rw [HE.out]; exact hrw.below h
    rw [← HE.out] at hc1
    generalize ahd false A i = y at *
    clear hrw HE
    go_enter Tryz.func22, Tryz.ntmps22
    go_wp2
    go_ret
    exact ⟨⟨ra, rc, rfl, fun w2 h => HR.out w2 h⟩, rfl⟩
  · have HE : Hid (ahd true A i = []) := rfl
    rw [HE.out]
    go_enter Tryz.func22, Tryz.ntmps22
    go_wp2
    go_ret
    exact ⟨⟨none, 0, rfl, fun w2 _ => rw_none w2⟩, rfl⟩
set_option maxRecDepth 10000 in
theorem at_any {ok : Bool} (i : Nat) (a : Option Addr) (n cap : Nat) (A : List (List Int)) (w : World) (hn : A.length = n) (hmax : n ≤ 9223372036854775807) (hi : i ≤ 9223372036854775807) (hv : Fr ok w (.slice a n cap) A) :
    Calls Tryz.prog 33 #[.slice a n cap, .int .i64 (i : Nat)] w fun e w' => (∃ ra rc, e = .returned (.slice ra (A.getD i []).length rc) ∧ ∀ w2, Below w.heap.size w w2 → Rw .i64 w2 (.slice ra (A.getD i []).length rc) (A.getD i [])) ∧ w' = w := by
  have i1 : (0 : Int) ≤ (i : Int) := by omega
  by_cases hlt : i < n
  · obtain ⟨b, off, rfl, hb, ra, rc, hc1, _, hrw⟩ := hv.at i hlt
    have i2 : (i : Int) < (n : Int) := by omega
    have i3 : IntKind.i64.wrap (i : Int) = i := wraps_i64 _ (by omega) (by omega)
    have HR := hid hrw
    generalize A.getD i [] = y at *
    clear hrw hn
    go_enter Tryz.func33, Tryz.ntmps33
    go_wp2
    go_ret
    exact ⟨⟨ra, rc, rfl, fun w2 h => HR.out.below h⟩, rfl⟩
  · have i2 : (n : Int) ≤ (i : Int) := by omega
    have HE : Hid (A.getD i [] = []) := by unfold Hid; rw [List.getD_eq_getElem?_getD, List.getElem?_eq_none (by omega)]; rfl
    rw [HE.out]
    clear hlt hn hmax hi
    go_enter Tryz.func33, Tryz.ntmps33
    go_wp2
    go_ret
    exact ⟨⟨none, 0, rfl, fun w2 _ => rw_none w2⟩, rfl⟩
end Go.Proofs.YtidppkbphkcmeaaGreat
/- Contracts of putKind, putGains, putVectors: what is put is put, where there is room. -/
namespace Go.Proofs.YtidppkbphkcmeaaGreat
open Go.RowKit
set_option linter.unusedVariables false
set_option linter.unusedSimpArgs false

theorem put_rm {e : En} {lo hi tot : Nat} (hf : Fair lo hi tot) (h : rm e [(lo, hi, tot)] = true) : putF e lo hi tot = 0 ∧ putE e lo hi tot = puts e [(lo, hi, tot)] := by
  obtain ⟨h1, h2⟩ := put_one (e := e) hf
  exact ⟨by rw [h1]; unfold rmF; rw [if_pos h], h2 h⟩
theorem num_rm {e : En} {v n : Nat} (hn : NumOk v n) (h : rm e (chs v n) = true) : putNE e v n = puts e (chs v n) ∧ putNF e v n = 0 := by
  have h1 := hn.one
  have h2 := hn.top
  have h3 := hn.lt
  by_cases hs : n ≤ 65536
  · have hc : chs v n = [(v, v + 1, n)] := if_pos hs
    rw [hc] at h ⊢
    obtain ⟨q1, q2⟩ := num_one (e := e) h3 hs
    exact ⟨q2 h, by rw [q1]; unfold rmF; rw [if_pos h]⟩
  · have hc : chs v n = [(v / 65536, v / 65536 + 1, (n - 1) / 65536 + 1), (v % 65536, v % 65536 + 1, 65536)] := if_neg hs
    have hfa := chs_fair hn
    rw [hc] at h hfa ⊢
    have f1 := hfa.cons.1
    have f2 := hfa.cons.2.cons.1
    obtain ⟨r1, r2⟩ := rm_left (l := [(v / 65536, v / 65536 + 1, (n - 1) / 65536 + 1)]) (m := [(v % 65536, v % 65536 + 1, 65536)]) h
    obtain ⟨p1, p2⟩ := put_rm f1 r1
    obtain ⟨q1, q2⟩ := put_rm f2 r2
    have c1 : (((v / 65536 : Nat) : Int) + 1) = ((v / 65536 + 1 : Nat) : Int) := by omega
    have c2 : (((v % 65536 : Nat) : Int) + 1) = ((v % 65536 + 1 : Nat) : Int) := by omega
    have hno : ¬ (n = 0 ∨ 4294967296 < n ∨ n ≤ v) := by omega
    unfold putNE putNF
    rw [if_neg hno, if_neg hno, if_neg hs, if_neg hs, c1, c2, p1, p2, if_pos rfl, if_pos rfl, q1, if_pos rfl, q2]
    exact ⟨rfl, rfl⟩
theorem puts_okk {e : En} (h : e.Ok) {l : List (Nat × Nat × Nat)} (hl : Fairs l) (hr : rm e l = true) : (puts e l).Ok := puts_ok h hl hr

/-- An encoder, as a call hands it back. -/
def PutE (w : World) (x : Ending) (w' : World) (F : En) : Prop := ∃ a' c', x = .returned (.agg #[.int .u64 F.low, .int .u32 F.R, .slice a' F.m c']) ∧ Rw .u8 w' (.slice a' F.m c') F.out ∧ Below w.heap.size w w'

set_option maxRecDepth 10000 in
set_option maxHeartbeats 2000000 in
theorem putKind_at (a : Option Addr) (cap : Nat) (e : En) (lo : Nat) (intra : Bool) (hlo : fN intra = lo) (w : World) (ho : e.Ok) (hr : Rw .u8 w (.slice a e.m cap) e.out) (hrm : rm e (cF intra) = true) :
    Calls Tryz.prog 19 #[.agg #[.int .u64 e.low, .int .u32 e.R, .slice a e.m cap], .bool intra] w fun x w' => PutE w x w' (puts e (cF intra)) := by
  have hW := below2 w (.cells #[.int .u64 e.low, .int .u32 e.R, .slice a e.m cap] 52) (.cells #[.int .u64 0, .int .u32 0, .slice none 0 0] 52)
  have hfa := cF_fair intra
  unfold cF at hrm hfa ⊢
  rw [hlo] at hrm hfa ⊢
  have hput := fun W h => put_all e.low e.R a e.m cap e lo ((lo + 1 : Nat) : Int) 2 W h
  obtain ⟨h1, h2⟩ := put_rm (hfa.cons.1) hrm
  rw [show ((2 : Nat) : Int) = 2 from rfl] at h1 h2
  rw [h1, h2] at hput
  generalize puts e [(lo, lo + 1, 2)] = F at *
  have hev := (ho.ev hr).below hW
  clear h1 h2 hrm hfa
  unfold PutE
  generalize e.low = L at *
  generalize e.R = R at *
  generalize e.m = n at *
  cases intra
  all_goals
    obtain rfl : lo = _ := hlo.symm
    go_enter Tryz.func19, Tryz.ntmps19
    go_wp2_with (go_at_call 52; refine (hput _ hev).mono ?_; rintro x w1 ⟨a1, cap1, rfl, hown, hb1⟩; have hBr := (B3.new2 w (.cells #[.int .u64 L, .int .u32 R, .slice a n cap] 52) (.int .u64 0) (.int .u32 0) (.slice none 0 0) 52).below hb1; have hBe := ((B3.new w (.int .u64 L) (.int .u32 R) (.slice a n cap) 52).below (below1 _ (.cells #[.int .u64 0, .int .u32 0, .slice none 0 0] 52))).below hb1; obtain ⟨rz, r0, r1, r2, p0, p1, p2⟩ := id hBr; obtain ⟨ez, e0, e1, e2, f0, f1, f2⟩ := id hBe)
    have hbw := bthen hW hb1 hW.size
    refine bodyPost_ret (v := .agg #[.int .u64 F.low, .int .u32 F.R, .slice a1 F.m cap1]) (by simp [results, Tryz.results19, go_sem, r0, r1, r2, p0, p1, p2, e0, e1, e2, f0, f1, f2]) rfl ⟨a1, cap1, rfl, ?_, bset3 (bset3 hbw _ _ _ _ (by omega)) _ _ _ _ (by omega)⟩
    have q := RwF.of_owns hown
    simp only [World.size_alloc] at q
    exact ((((((q.set _ _ _ (by omega)).set _ _ _ (by omega)).set _ _ _ (by omega)).set _ _ _ (by omega)).set _ _ _ (by omega)).set _ _ _ (by omega)).rw
theorem putKind_any (a : Option Addr) (cap : Nat) (e : En) (intra : Bool) (w : World) (ho : e.Ok) (hr : Rw .u8 w (.slice a e.m cap) e.out) (hrm : rm e (cF intra) = true) :
    Calls Tryz.prog 19 #[.agg #[.int .u64 e.low, .int .u32 e.R, .slice a e.m cap], .bool intra] w fun x w' => PutE w x w' (puts e (cF intra)) := putKind_at a cap e _ intra rfl w ho hr hrm

set_option maxRecDepth 10000 in
set_option maxHeartbeats 2000000 in
theorem putGains_any (a : Option Addr) (cap : Nat) (e : En) (ax : Option Addr) (cx : Nat) (x : List Int) (ay : Option Addr) (cy : Nat) (y : List Int) (intra : Bool) (w : World) (ho : e.Ok) (hr : Rw .u8 w (.slice a e.m cap) e.out) (hvx : Rw .i64 w (.slice ax x.length cx) x) (hvy : Rw .i64 w (.slice ay y.length cy) y) (hg : gpB x y intra = true) (hrm : rm e (chK intra x y 5) = true) :
    Calls Tryz.prog 21 #[.agg #[.int .u64 e.low, .int .u32 e.R, .slice a e.m cap], .slice ax x.length cx, .slice ay y.length cy, .bool intra] w fun xx w' => PutE w xx w' (puts e (chK intra x y 5)) := by
  have hW := below2 w (.cells #[.int .u64 e.low, .int .u32 e.R, .slice a e.m cap] 52) (.cells #[.int .u64 0, .int .u32 0, .slice none 0 0] 52)
  have hput := gputF_any e.low e.R a e.m cap e ax x.length cx x ay y.length cy y intra rfl rfl _ ((ho.ev hr).below hW) (hvx.below hW) (hvy.below hW)
  obtain ⟨h1, h2⟩ := gp_ok (e := e) hg hrm
  rw [h1, h2] at hput
  generalize puts e (chK intra x y 5) = F at *
  clear h1 h2 hrm hg hvx hvy hr ho
  unfold PutE
  unfold PutQ at hput
  generalize e.low = L at *
  generalize e.R = R at *
  generalize e.m = n at *
  generalize x.length = nx at *
  generalize y.length = ny at *
  go_enter Tryz.func21, Tryz.ntmps21
  go_wp2_with (go_at_call 53; refine hput.mono ?_; rintro x w1 ⟨a1, cap1, rfl, hown, hb1⟩; have hBr := (B3.new2 w (.cells #[.int .u64 L, .int .u32 R, .slice a n cap] 52) (.int .u64 0) (.int .u32 0) (.slice none 0 0) 52).below hb1; have hBe := ((B3.new w (.int .u64 L) (.int .u32 R) (.slice a n cap) 52).below (below1 _ (.cells #[.int .u64 0, .int .u32 0, .slice none 0 0] 52))).below hb1; obtain ⟨rz, r0, r1, r2, p0, p1, p2⟩ := id hBr; obtain ⟨ez, e0, e1, e2, f0, f1, f2⟩ := id hBe)
  have hbw := bthen hW hb1 hW.size
  refine bodyPost_ret (v := .agg #[.int .u64 F.low, .int .u32 F.R, .slice a1 F.m cap1]) (by simp [results, Tryz.results21, go_sem, r0, r1, r2, p0, p1, p2, e0, e1, e2, f0, f1, f2]) rfl ⟨a1, cap1, rfl, ?_, bset3 (bset3 hbw _ _ _ _ (by omega)) _ _ _ _ (by omega)⟩
  simp only [World.size_alloc] at hown
  exact ((((((hown.set _ _ _ (by omega)).set _ _ _ (by omega)).set _ _ _ (by omega)).set _ _ _ (by omega)).set _ _ _ (by omega)).set _ _ _ (by omega)).rw

theorem cV_none {y : List Int} (h : ps y = 0) : cV y = [] := if_pos h
theorem cV_some {y : List Int} (h : ¬ ps y = 0) : cV y = chs (ix y.length (ps y) y) (V y.length (ps y)) := if_neg h

set_option maxRecDepth 10000 in
set_option maxHeartbeats 8000000 in
theorem putVecs_any {ok : Bool} (a : Option Addr) (cap : Nat) (e : En) (ay : Option Addr) (cy : Nat) (l : List (List Int)) (f : Nat → Nat) (w : World) (ho : e.Ok) (hr : Rw .u8 w (.slice a e.m cap) e.out) (hl : l.length = 5) (hv : Fr ok w (.slice ay 5 cy) l) (hfit : ∀ i, Fits (l.getD i [])) (hvs : VsOk l f) (hf : ∀ b, b < 5 → f b ≤ 12) (hrm : rm e (cB l 5) = true) :
    Calls Tryz.prog 23 #[.agg #[.int .u64 e.low, .int .u32 e.R, .slice a e.m cap], .slice ay 5 cy] w fun x w' => PutE w x w' (puts e (cB l 5)) := by
  have hW := below2 w (.cells #[.int .u64 e.low, .int .u32 e.R, .slice a e.m cap] 52) (.cells #[.int .u64 0, .int .u32 0, .slice none 0 0] 52)
  have hB0 : B3 ((w.alloc (.cells #[.int .u64 e.low, .int .u32 e.R, .slice a e.m cap] 52)).alloc (.cells #[.int .u64 0, .int .u32 0, .slice none 0 0] 52)) w.heap.size (.int .u64 e.low) (.int .u32 e.R) (.slice a e.m cap) := (B3.new w _ _ _ _).below (below1 _ _)
  have hB1 : B3 ((w.alloc (.cells #[.int .u64 e.low, .int .u32 e.R, .slice a e.m cap] 52)).alloc (.cells #[.int .u64 0, .int .u32 0, .slice none 0 0] 52)) (w.heap.size + 1) (.int .u64 0) (.int .u32 0) (.slice none 0 0) := B3.new2 w _ _ _ _ _
  have HR0 := hid (hr.below hW)
  have HO := hid ho
  have HV := hid hv
  have HVS := hid hvs
  have HF := hid hf
  have HFIT := hid hfit
  have HRM := hid hrm
  have HFA : Hid (∀ b, b ≤ 5 → Fairs (cB l b)) := fun b hb => cB_fair hvs hf b hb
  unfold PutE
  clear hv hvs hf hfit hrm hr ho hl
  go_enter Tryz.func23, Tryz.ntmps23
  go_wp2
  go_loopw [14] (fun i wr => ∃ (k : Nat) (E : En) (a' : Option Addr) (c' : Nat), k ≤ 5 ∧ i = .int .i64 (k : Nat) ∧ Hid (E = puts e (cB l k)) ∧ Hid E.Ok ∧ Hid (Rw .u8 wr (.slice a' E.m c') E.out) ∧ B3 wr w.heap.size (.int .u64 E.low) (.int .u32 E.R) (.slice a' E.m c') ∧ B3 wr (w.heap.size + 1) (.int .u64 0) (.int .u32 0) (.slice none 0 0) ∧ Below w.heap.size w wr) (fun i _ => 5 - (intOf i).toNat)
  case atStart => exact ⟨0, e, a, cap, by omega, rfl, rfl, HO, HR0, hB0, hB1, hW⟩
  case round =>
    clear hB0 hB1 HR0 hW
    obtain ⟨k, E, a', c', hk5, rfl, HE, HEO, HER, hB0, hB1, hbel⟩ := hrel
    obtain ⟨W1, rfl⟩ : ∃ z, z = wr := ⟨wr, rfl⟩
    by_cases hlt : k < 5
    · obtain ⟨b, off, hbo, hb, ra, rc, hc1, _, hrw⟩ := (HV.out.below hbel).at k hlt
      have hbo' := hbo.symm
      subst hbo'
      obtain ⟨v1, v2⟩ := HVS.out k hlt
      have hfk := HF.out k hlt
      have hok := ok_of_vec hlt hfk v1 v2
      have hpl := cpulses_ok ra _ rc _ rfl hok W1 hrw
      have hnum := vec_num hlt hfk v1 v2
      have HS : Hid (cB l (k + 1) = cB l k ++ cV (l.getD k [])) := cB_succ l k
      have HRK : Hid (rm E (cV (l.getD k [])) = true) := by
        obtain ⟨m, hm⟩ := cB_more l (k + 1) (4 - k)
        rw [show k + 1 + (4 - k) = 5 by omega] at hm
        have h1 := HRM.out
        rw [hm, HS.out, List.append_assoc] at h1
        have h2 := (rm_left h1).2
        rw [← HE.out] at h2
        exact (rm_left h2).1
      have HFK : Hid (Fairs (cV (l.getD k []))) := cV_fair hlt hfk v1 v2
      have hft := HFIT.out k
      have hpk : ps (l.getD k []) ≤ 12 := by omega
      have hl1 := wd_pos hlt
      rw [← v1] at hl1
      have HVN : Hid (ps (l.getD k []) = 0 → cV (l.getD k []) = []) := cV_none
      have HVT : Hid (¬ ps (l.getD k []) = 0 → cV (l.getD k []) = chs (ix (l.getD k []).length (ps (l.getD k [])) (l.getD k [])) (V (l.getD k []).length (ps (l.getD k [])))) := cV_some
      generalize l.getD k [] = y at *
      have i1 : (0 : Int) ≤ (k : Int) := by omega
      have i2 : (k : Int) < 5 := by omega
      have i3 : IntKind.i64.wrap (k : Int) = k := wraps_i64 _ (by omega) (by omega)
      clear v1 v2 hfk
      by_cases hp : ps y = 0
      · have HN := hid (HVN.out hp)
        rw [hp] at hpl
        clear hp hnum hft hl1 hpk hok hrw HVN HVT
        generalize (y.length : Nat) = Z at *
        go_wp2_with (go_at_call 54; refine hpl.mono ?_; rintro x w9 ⟨rfl, h9⟩; have h9 := h9.symm; subst h9)
        exact ⟨⟨k + 1, E, a', c', by omega, by go_num, by unfold Hid; rw [HS.out, HN.out, List.append_nil]; exact HE.out, HEO, HER, hB0, hB1, hbel⟩, by simp [intOf]; omega⟩
      · have HN := hid (HVT.out hp)
        have hp' : ((ps y : Int) == 0) = false := by simp; omega
        have hix := index_ok (.slice ra y.length rc) y W1 hrw hft hok
        have hcn := fun W => count_any y.length (ps y) W hl1.1 hl1.2 hpk
        have HFO : Hid ((puts E (cV y)).Ok) := puts_okk HEO.out HFK.out HRK.out
        have hpn := fun (W : World) (h : Below W1.heap.size W1 W) => putNum_any E.low E.R a' E.m c' E (ix y.length (ps y) y) (V y.length (ps y)) W (HEO.out.ev (HER.out.below h))
        have hrk := HRK.out
        rw [HN.out] at hrk
        obtain ⟨q1, q2⟩ := num_rm hnum hrk
        rw [q1, q2, ← HN.out] at hpn
        unfold PutN at hpn
        clear q1 q2 hrk hp hnum hft hok hrw HVN HVT hl1 hpk HN
        generalize hF : puts E (cV y) = F at *
        have HFE := hid hF
        clear hF HFK HRK
        generalize ix y.length (ps y) y = I at *
        generalize V y.length (ps y) = V1 at *
        generalize ps y = p at *
        generalize (y.length : Nat) = Z at *
        go_wp2_with (first | (go_at_call 54; refine hpl.mono ?_; rintro x w9 ⟨rfl, h9⟩; have h9 := h9.symm; subst h9) | (go_at_call 55; refine hix.mono ?_; rintro x w1 ⟨rfl, hb1⟩) | (go_at_call 56; refine (hcn _).mono ?_; rintro x w2 ⟨rfl, hb2⟩; have hb12 := bthen' hb1 hb2; obtain ⟨ez, e0, e1, e2, f0, f1, f2⟩ := id (hB0.below hb12)) | (go_at_call 57; refine (hpn _ hb12).mono ?_; rintro x w3 ⟨a3, c3, rfl, hr3, hb3⟩; have hb13 := bthen' hb12 hb3; have hC0 := hB0.below hb13; have hC1 := hB1.below hb13; obtain ⟨gz, g0, g1, g2, k0, k1, k2⟩ := id hC0))
        exact ⟨⟨k + 1, F, a3, c3, by omega, by go_num, by unfold Hid; rw [HS.out, puts_append, ← HE.out]; exact HFE.out.symm, HFO, hC0.apart hr3.rw (fun z => by simp) (fun z => by simp) (fun z => by simp) _ _ _, hC0.set _ _ _, ((hC1.other _ _ _ (by omega)).other _ _ _ (by omega)).other _ _ _ (by omega), bset3 (bthen hbel hb13 hbel.size) _ _ _ _ (by omega)⟩, by simp [intOf]; omega⟩
    · obtain rfl : k = 5 := by omega
      obtain ⟨ez, e0, e1, e2, f0, f1, f2⟩ := id hB0
      obtain ⟨rz, r0, r1, r2, p0, p1, p2⟩ := id hB1
      clear hlt HRM HFA HVS HF HFIT
      go_wp2
      have hE := HE.out
      subst hE
      exact bodyPost_ret (v := .agg #[.int .u64 (puts e (cB l 5)).low, .int .u32 (puts e (cB l 5)).R, .slice a' (puts e (cB l 5)).m c']) (by simp [results, Tryz.results23, go_sem, r0, r1, r2, p0, p1, p2, e0, e1, e2, f0, f1, f2]) rfl ⟨a', c', rfl, hB1.apart HER.out (fun z => by simp) (fun z => by simp) (fun z => by simp) _ _ _, bset3 hbel _ _ _ _ (by omega)⟩
end Go.Proofs.YtidppkbphkcmeaaGreat
/- Contracts: packs right or not, by the program. -/
namespace Go.Proofs.YtidppkbphkcmeaaGreat
open Go.RowKit
set_option linter.unusedVariables false
set_option linter.unusedSimpArgs false

/-- A pack in memory: its gains, its vectors. -/
structure PkAt (w : World) (ag : Option Addr) (ng cg : Nat) (G : List (List Int)) (ay : Option Addr) (ny cy : Nat) (Y : List (List (List Int))) : Prop where
  lg : G.length = ng
  mg : ng ≤ 9223372036854775807
  vg : Fr false w (.slice ag ng cg) G
  ly : Y.length = ny
  my : ny ≤ 9223372036854775807
  vy : Fc false w (.slice ay ny cy) Y
  fit : ∀ i j, Fits ((Y.getD i []).getD j [])
  yl : ∀ i, (Y.getD i []).length ≤ 9223372036854775807
theorem PkAt.below {w w' : World} {ag : Option Addr} {ng cg : Nat} {G : List (List Int)} {ay : Option Addr} {ny cy : Nat} {Y : List (List (List Int))} (h : PkAt w ag ng cg G ay ny cy Y) (hb : Below w.heap.size w w') : PkAt w' ag ng cg G ay ny cy Y :=
  ⟨h.lg, h.mg, h.vg.below hb, h.ly, h.my, h.vy.below hb, h.fit, h.yl⟩
theorem pk_no1 {n c : Int} {G : List (List Int)} {Y : List (List (List Int))} (h : (rtB n c && fairG c G) = false) : pkB n c G Y = false := by
  unfold pkB; rw [h]; rfl
theorem pk_no {n : Int} {c : Nat} {G : List (List Int)} {Y : List (List (List Int))} (h : ¬ PkOk n c G Y) : pkB n c G Y = false := by
  cases hb : pkB n c G Y with
  | false => rfl
  | true =>
    obtain ⟨m, hm, hp⟩ := pk_iff.1 hb
    obtain rfl : m = c := by omega
    exact absurd hp h
theorem pk_yes {n : Int} {c : Nat} {G : List (List Int)} {Y : List (List (List Int))} (h : PkOk n c G Y) : pkB n c G Y = true := pk_iff.2 ⟨c, rfl, h⟩
theorem decide_and_vs {n : Nat} {l : List (List Int)} {f : Nat → Nat} (hn : l.length = n) : ((decide (n = 5) && vsB l f) = true ↔ l.length = 5 ∧ VsOk l f) := by
  rw [Bool.and_eq_true, decide_eq_true_eq, vs_iff, hn]

set_option maxRecDepth 10000 in
set_option maxHeartbeats 4000000 in
theorem cright_any (n c : Int) (intra : Bool) (ag : Option Addr) (ng cg : Nat) (G : List (List Int)) (ay : Option Addr) (ny cy : Nat) (Y : List (List (List Int))) (w : World) (h : PkAt w ag ng cg G ay ny cy Y) :
    Calls Tryz.prog 17 #[.int .i64 n, .int .i64 c, .agg #[.bool intra, .slice ag ng cg, .slice ay ny cy]] w fun e w' => e = .returned (.bool (pkB n c G Y)) ∧ Below w.heap.size w w' := by
  have hW := below1 w (.cells #[.bool intra, .slice ag ng cg, .slice ay ny cy] 25)
  have hB0 := B3.new w (.bool intra) (.slice ag ng cg) (.slice ay ny cy) 25
  have h1 := h.below hW
  obtain ⟨ez, e0, e1, e2, f0, f1, f2⟩ := id hB0
  cases hrf : (rtB n c && fairG c G)
  · have hpu := pulses_no n c ag ng cg G _ h1.lg h1.mg h1.vg hrf
    rw [pk_no1 hrf]
    clear hrf h1 h hB0
    go_enter Tryz.func17, Tryz.ntmps17
    go_wp2_with (go_at_call 41; refine hpu.mono ?_; rintro x w9 ⟨rfl, h9⟩; have h9 := h9.symm; subst h9)
    go_ret
    exact ⟨rfl, hW⟩
  · rw [Bool.and_eq_true] at hrf
    obtain ⟨hrt, hfg⟩ := hrf
    have hlg := h.lg
    obtain rfl : (ng : Int) = c := by have := (fair_iff.1 hfg).1; omega
    have hpu := pulses_ok n ng ag cg G _ h1.vg hrt hfg
    have hrm := rm_bd n ng
    have HIFF : Hid (PkOk n ng G Y ↔ ny = ng ∧ ∀ i, i < ng → (Y.getD i []).length = 5 ∧ VsOk (Y.getD i []) (chan (G.getD i []) (rmI n ng))) := by
      constructor
      · exact fun k => ⟨by rw [← h.ly]; exact k.ly, fun i hi => ⟨k.l5 i hi, k.vs i hi⟩⟩
      · exact fun k => ⟨hrt, hfg, by rw [h.ly]; exact k.1, fun i hi => (k.2 i hi).1, fun i hi => (k.2 i hi).2⟩
    have HYES : Hid (PkOk n ng G Y → pkB n ng G Y = true) := pk_yes
    have HNO : Hid (¬ PkOk n ng G Y → pkB n ng G Y = false) := pk_no
    generalize pkB n ng G Y = R at *
    generalize PkOk n ng G Y = PK at *
    have HAT : Hid (∀ i, i < ng → ((List.range ng).map (pul (rmI n ng) G)).getD i [] = pls (chan (G.getD i []) (rmI n ng))) := fun i hi => pul_at _ _ _ i hi
    have HCH : Hid (∀ i b, b < 5 → chan (G.getD i []) (rmI n ng) b ≤ 12) := fun i b hb => (chan_ok _ hrm.1).1.le b hb
    generalize (List.range ng).map (pul (rmI n ng) G) = K at *
    generalize rmI n ng = room at *
    by_cases hny : ny = ng
    · have hny' := hny
      subst hny'
      have HH := hid h1
      have hmy := h.my
      clear hrt hfg hlg hrm h1 hny h
      go_enter Tryz.func17, Tryz.ntmps17
      go_wp2_with (go_at_call 41; refine hpu.mono ?_; rintro x w1 ⟨GK, rfl, hfr1, hb1⟩; have hC0 := hB0.below hb1; obtain ⟨gz, g0, g1, g2, k0, k1, k2⟩ := id hC0)
      have HB1 := hid (bthen' hW hb1)
      have HH1 := hid (HH.out.below hb1)
      have HFR := hid hfr1
      clear hb1 hfr1 hpu hB0 hW HH
      go_loopw [31] (fun p wr => ∃ i : Nat, i ≤ ny ∧ p = .int .i64 i ∧ Hid (∀ j, j < i → (Y.getD j []).length = 5 ∧ VsOk (Y.getD j []) (chan (G.getD j []) room)) ∧ Hid (Below w1.heap.size w1 wr)) (fun p _ => ny - (intOf p).toNat)
      case atStart => exact ⟨0, by omega, rfl, fun j hj => by omega, Below.refl _ _⟩
      case round =>
        obtain ⟨i, hi, rfl, HP, HBR⟩ := hrel
        obtain ⟨W1, rfl⟩ : ∃ z, z = wr := ⟨wr, rfl⟩
        by_cases hlt : i < ny
        · obtain ⟨b, off, hbo, hb, ra, rc, hc1, hyr⟩ := (HH1.out.below HBR.out).vy.at i hlt
          have hbo' := hbo.symm
          subst hbo'
          obtain ⟨kb, ko, hko, hkb, ka, kc, kc1, _, hkr⟩ := (HFR.out.below HBR.out).at i hlt
          simp only [Option.some.injEq, Addr.mk.injEq, and_true] at hko
          obtain ⟨rfl, rfl⟩ := hko
          rw [HAT.out i hlt, pls_len] at kc1
          rw [HAT.out i hlt, pls_len] at hkr
          rw [Nat.zero_add] at kc1
          have hrv := rvecs_any ra (Y.getD i []).length rc (Y.getD i []) ka kc (chan (G.getD i []) room) W1 rfl (HH1.out.yl i) hyr (HH1.out.fit i) hkr (fun b hb => HCH.out i b hb)
          have HDV : Hid ((decide ((Y.getD i []).length = 5) && vsB (Y.getD i []) (chan (G.getD i []) room)) = true ↔ (Y.getD i []).length = 5 ∧ VsOk (Y.getD i []) (chan (G.getD i []) room)) := decide_and_vs rfl
          have HPN : Hid ((Y.getD i []).length = 5 ∧ VsOk (Y.getD i []) (chan (G.getD i []) room) → ∀ j, j < i + 1 → (Y.getD j []).length = 5 ∧ VsOk (Y.getD j []) (chan (G.getD j []) room)) := fun h j hj => by
            by_cases e : j < i
            · exact HP.out j e
            · obtain rfl : j = i := by omega
              exact h
          have HRN : Hid (¬ ((Y.getD i []).length = 5 ∧ VsOk (Y.getD i []) (chan (G.getD i []) room)) → R = false) := fun h => HNO.out fun k => h ((HIFF.out.1 k).2 i hlt)
          generalize (Y.getD i []).length = Z at *
          generalize chan (G.getD i []) room = fk at *
          generalize Y.getD i [] = y at *
          clear hyr hkr
          have i1 : (0 : Int) ≤ (i : Int) := by omega
          have i2 : (i : Int) < (ny : Int) := by omega
          have i3 : IntKind.i64.wrap (i : Int) = i := wraps_i64 _ (by omega) (by omega)
          cases hbb : (decide (Z = 5) && vsB y fk)
          · rw [hbb] at hrv
            have HR := hid (HRN.out (fun h => by have := HDV.out.2 h; rw [hbb] at this; cases this))
            clear hbb HDV HPN HRN
            go_wp2_with (go_at_call 50; refine hrv.mono ?_; rintro x w2 ⟨rfl, hb2⟩)
            go_ret
            exact ⟨ret_bool HR.out.symm, bthen' HB1.out (bthen' HBR.out hb2)⟩
          · rw [hbb] at hrv
            have HP2 := hid (HPN.out (HDV.out.1 hbb))
            clear hbb HDV HPN HRN
            go_wp2_with (go_at_call 50; refine hrv.mono ?_; rintro x w2 ⟨rfl, hb2⟩)
            exact ⟨⟨i + 1, by omega, by go_num, HP2, bthen' HBR.out hb2⟩, by simp [intOf]; omega⟩
        · obtain rfl : i = ny := by omega
          have HR := hid (HYES.out (HIFF.out.2 ⟨by first | rfl | trivial, HP.out⟩))
          clear hlt HYES HNO HP HAT HIFF
          go_wp2
          go_ret
          exact ⟨ret_bool HR.out.symm, bthen' HB1.out HBR.out⟩
    · have HR := hid (HNO.out (fun k => hny (HIFF.out.1 k).1))
      have k1 : ((ny : Int) != (ng : Int)) = true := by simp; omega
      have hlg2 := h.mg
      have hly2 := h.my
      clear hrt hfg hlg hrm h1 h HIFF HYES HNO
      go_enter Tryz.func17, Tryz.ntmps17
      go_wp2_with (go_at_call 41; refine hpu.mono ?_; rintro x w1 ⟨GK, rfl, hfr1, hb1⟩; have hC0 := hB0.below hb1; obtain ⟨gz, g0, g1, g2, k0, k1, k2⟩ := id hC0)
      go_ret
      exact ⟨ret_bool HR.out.symm, bthen' hW hb1⟩
end Go.Proofs.YtidppkbphkcmeaaGreat
/- Contracts: a pack is written, by the program. -/
namespace Go.Proofs.YtidppkbphkcmeaaGreat
open Go.RowKit
set_option linter.unusedVariables false
set_option linter.unusedSimpArgs false

/-! ### The encoder on the way -/
def EG (intra : Bool) (G A : List (List Int)) (k : Nat) : En := puts En.new (cF intra ++ cG intra G A k)
def EY (intra : Bool) (G A : List (List Int)) (c : Nat) (Y : List (List (List Int))) (k : Nat) : En := puts En.new (cF intra ++ cG intra G A c ++ cY Y k)
theorem EG_zero (intra : Bool) (G A : List (List Int)) : EG intra G A 0 = puts En.new (cF intra) := by unfold EG; rw [cG_zero, List.append_nil]
theorem EG_succ (intra : Bool) (G A : List (List Int)) (k : Nat) : EG intra G A (k + 1) = puts (EG intra G A k) (chK intra (G.getD k []) (A.getD k []) 5) := by unfold EG; rw [cG_succ, ← List.append_assoc, puts_append]
theorem EY_zero (intra : Bool) (G A : List (List Int)) (c : Nat) (Y : List (List (List Int))) : EY intra G A c Y 0 = EG intra G A c := by unfold EY EG; rw [cY_zero, List.append_nil]
theorem EY_succ (intra : Bool) (G A : List (List Int)) (c : Nat) (Y : List (List (List Int))) (k : Nat) : EY intra G A c Y (k + 1) = puts (EY intra G A c Y k) (cB (Y.getD k []) 5) := by unfold EY; rw [cY_succ, ← List.append_assoc, puts_append]
theorem EY_all (intra : Bool) (G A : List (List Int)) (c : Nat) (Y : List (List (List Int))) : EY intra G A c Y c = puts En.new (cP intra G A Y c) := rfl
theorem PkOk.rmG {n : Int} {c : Nat} {G : List (List Int)} {Y : List (List (List Int))} (h : PkOk n c G Y) (intra : Bool) (A : List (List Int)) {k : Nat} (hk : k ≤ c) : Go.Proofs.YtidppkbphkcmeaaGreat.rm En.new (cF intra ++ cG intra G A k) = true := by
  have h1 := h.rm intra A
  obtain ⟨m, hm⟩ := cG_more intra G A k (c - k)
  rw [show k + (c - k) = c by omega] at hm
  unfold cP at h1
  rw [hm, ← List.append_assoc, List.append_assoc] at h1
  exact (rm_left h1).1
theorem PkOk.rmY {n : Int} {c : Nat} {G : List (List Int)} {Y : List (List (List Int))} (h : PkOk n c G Y) (intra : Bool) (A : List (List Int)) {k : Nat} (hk : k ≤ c) : Go.Proofs.YtidppkbphkcmeaaGreat.rm En.new (cF intra ++ cG intra G A c ++ cY Y k) = true := by
  have h1 := h.rm intra A
  obtain ⟨m, hm⟩ := cY_more Y k (c - k)
  rw [show k + (c - k) = c by omega] at hm
  unfold cP at h1
  rw [hm, ← List.append_assoc] at h1
  exact (rm_left h1).1
theorem PkOk.okG {n : Int} {c : Nat} {G : List (List Int)} {Y : List (List (List Int))} (h : PkOk n c G Y) (intra : Bool) (A : List (List Int)) {k : Nat} (hk : k ≤ c) : (EG intra G A k).Ok :=
  puts_ok En.new_ok (Fairs.append (cF_fair _) (cG_fair intra A h.gok k hk)) (h.rmG intra A hk)
theorem PkOk.okY {n : Int} {c : Nat} {G : List (List Int)} {Y : List (List (List Int))} (h : PkOk n c G Y) (intra : Bool) (A : List (List Int)) {k : Nat} (hk : k ≤ c) : (EY intra G A c Y k).Ok :=
  puts_ok En.new_ok (Fairs.append (Fairs.append (cF_fair _) (cG_fair intra A h.gok c (Nat.le_refl _))) (cY_fair h k hk)) (h.rmY intra A hk)
theorem PkOk.stepG {n : Int} {c : Nat} {G : List (List Int)} {Y : List (List (List Int))} (h : PkOk n c G Y) (intra : Bool) (A : List (List Int)) {k : Nat} (hk : k < c) : Go.Proofs.YtidppkbphkcmeaaGreat.rm (EG intra G A k) (chK intra (G.getD k []) (A.getD k []) 5) = true := by
  have h1 := h.rmG intra A (k := k + 1) hk
  rw [cG_succ, ← List.append_assoc] at h1
  exact (rm_left h1).2
theorem PkOk.stepY {n : Int} {c : Nat} {G : List (List Int)} {Y : List (List (List Int))} (h : PkOk n c G Y) (intra : Bool) (A : List (List Int)) {k : Nat} (hk : k < c) : Go.Proofs.YtidppkbphkcmeaaGreat.rm (EY intra G A c Y k) (cB (Y.getD k []) 5) = true := by
  have h1 := h.rmY intra A (k := k + 1) hk
  rw [cY_succ, ← List.append_assoc] at h1
  exact (rm_left h1).2
theorem PkOk.rmF0 {n : Int} {c : Nat} {G : List (List Int)} {Y : List (List (List Int))} (h : PkOk n c G Y) (intra : Bool) : Go.Proofs.YtidppkbphkcmeaaGreat.rm En.new (cF intra) = true := by
  have h1 := h.rmG intra [] (k := 0) (Nat.zero_le _)
  rw [cG_zero, List.append_nil] at h1
  exact h1
/-- The packet: the coder's bytes, filled up with noughts. -/
def pkt (E : En) (N : Nat) : List Int := E.all ++ List.replicate (N - (E.m + 4)) 0
theorem pkt_len {E : En} {N : Nat} (h : E.m + 4 ≤ N) : (pkt E N).length = N := by unfold pkt; rw [List.length_append, En.all_length, List.length_replicate]; omega
theorem pkt_splice {E : En} {N : Nat} (h : E.m + 4 ≤ N) : splice (List.replicate N (Value.int .u8 0)) 0 (E.all.map (Value.int .u8)) = (pkt E N).map (Value.int .u8) := by
  unfold splice pkt
  rw [List.take_zero, List.nil_append, List.map_append, List.drop_replicate, List.length_map, En.all_length, Nat.zero_add, List.map_replicate]
theorem putKind_new (intra : Bool) (w : World) (hrm : rm En.new (cF intra) = true) :
    Calls Tryz.prog 19 #[.agg #[.int .u64 0, .int .u32 4294967295, .slice none 0 0], .bool intra] w fun x w' => PutE w x w' (puts En.new (cF intra)) :=
  putKind_any none 0 En.new intra w En.new_ok ⟨none, 0, rfl, .inl rfl⟩ hrm
end Go.Proofs.YtidppkbphkcmeaaGreat
/- Contract: Write, by the program. -/
namespace Go.Proofs.YtidppkbphkcmeaaGreat
open Go.RowKit
set_option linter.unusedVariables false
set_option linter.unusedSimpArgs false

theorem info_u8c : (Tryz.prog.info? 5).map (fun i => (i.zero, i.size, i.bytes)) = some (some (.int .u8 0), 1, 1) := by kernel_rfl

theorem with_fact {p q : Prop} (h : p) (k : p → q) : q := k h
/-- A row stays where a struct that a region made before, or amid, its calls is written. -/
theorem put_before {W y : World} {z0 z1 z2 : Value} {t : TypeId} (e : Below (W.alloc (.cells #[z0, z1, z2] t)).drew.heap.size (W.alloc (.cells #[z0, z1, z2] t)).drew y) {v : Value} {xs : List Int} (r : Rw .u8 y v xs) (h0 : ∀ z, z0 ≠ .int .u8 z) (h1 : ∀ z, z1 ≠ .int .u8 z) (h2 : ∀ z, z2 ≠ .int .u8 z) (x0 x1 x2 : Value) : Rw .u8 (((y.setCell ⟨W.heap.size, 0, none⟩ x0).setCell ⟨W.heap.size, 1, none⟩ x1).setCell ⟨W.heap.size, 2, none⟩ x2) v xs :=
  ((B3.new W z0 z1 z2 t).below (drew_below e)).apart r h0 h1 h2 x0 x1 x2
theorem put_amid {W y : World} {z0 z1 z2 : Value} {t : TypeId} (e : Below (W.alloc (.cells #[z0, z1, z2] t)).heap.size (W.alloc (.cells #[z0, z1, z2] t)) y) {v : Value} {xs : List Int} (r : Rw .u8 y v xs) (h0 : ∀ z, z0 ≠ .int .u8 z) (h1 : ∀ z, z1 ≠ .int .u8 z) (h2 : ∀ z, z2 ≠ .int .u8 z) (x0 x1 x2 : Value) : Rw .u8 (((y.setCell ⟨W.heap.size, 0, none⟩ x0).setCell ⟨W.heap.size, 1, none⟩ x1).setCell ⟨W.heap.size, 2, none⟩ x2) v xs :=
  ((B3.new W z0 z1 z2 t).below e).apart r h0 h1 h2 x0 x1 x2
theorem made3_amid {y y' wr : World} {x0 x1 x2 z0 z1 z2 : Value} {t : TypeId} (h : Below wr.heap.size wr y) (e : Below (y.alloc (.cells #[z0, z1, z2] t)).heap.size (y.alloc (.cells #[z0, z1, z2] t)) y') : Made3 wr (((y'.setCell ⟨y.heap.size, 0, none⟩ x0).setCell ⟨y.heap.size, 1, none⟩ x1).setCell ⟨y.heap.size, 2, none⟩ x2) (.pointer (some ⟨y.heap.size, 0, none⟩)) x0 x1 x2 :=
  ⟨y.heap.size, rfl, ((B3.new y z0 z1 z2 t).below e).set x0 x1 x2, h.size, bset3 (bthen (h.alloc h.size _) e (by simp; have := h.size; omega)) _ _ _ _ h.size⟩

set_option maxRecDepth 10000 in
set_option maxHeartbeats 4000000 in
theorem cwrite_no (n c : Int) (intra : Bool) (ag : Option Addr) (ng cg : Nat) (G : List (List Int)) (ay : Option Addr) (ny cy : Nat) (Y : List (List (List Int))) (aa : Option Addr) (na ca : Nat) (A : List (List Int)) (w : World) (h : PkAt w ag ng cg G ay ny cy Y) (hA : A.length = na) (hma : na ≤ 9223372036854775807) (hva : Fr false w (.slice aa na ca) A) (hno : (pkB n c G Y && ahB intra c A) = false) :
    Calls Tryz.prog 7 #[.int .i64 n, .int .i64 c, .agg #[.bool intra, .slice ag ng cg, .slice ay ny cy], .slice aa na ca] w fun x w' => x = .returned (.tuple #[.slice none 0 0, .int .i64 1]) ∧ Below w.heap.size w w' := by
  have hW := below1 w (.cells #[.bool intra, .slice ag ng cg, .slice ay ny cy] 25)
  have hB0 := B3.new w (.bool intra) (.slice ag ng cg) (.slice ay ny cy) 25
  obtain ⟨ez, e0, e1, e2, f0, f1, f2⟩ := id hB0
  have hr := cright_any n c intra ag ng cg G ay ny cy Y _ (h.below hW)
  have hra := fun W (hb : Below w.heap.size w W) => cahead_any c aa na ca A intra W hA hma (hva.below hb)
  clear h hva hA
  cases hpk : pkB n c G Y
  · rw [hpk] at hr
    clear hno hpk hra
    go_enter Tryz.func7, Tryz.ntmps7
    go_wp2_with (go_at_call 17; refine hr.mono ?_; rintro x w1 ⟨rfl, hb1⟩)
    go_ret2
    exact ⟨rfl, bthen' hW hb1⟩
  · rw [hpk, Bool.true_and] at hno
    rw [hpk] at hr
    rw [hno] at hra
    clear hno hpk
    go_enter Tryz.func7, Tryz.ntmps7
    go_wp2_with (first | (go_at_call 17; refine hr.mono ?_; rintro x w1 ⟨rfl, hb1⟩; have hb01 := bthen' hW hb1; obtain ⟨gz, g0, g1, g2, k0, k1, k2⟩ := id (hB0.below hb1)) | (go_at_call 18; refine (hra _ hb01).mono ?_; rintro x w9 ⟨rfl, h9⟩; have h9 := h9.symm; subst h9))
    go_ret2
    exact ⟨rfl, hb01⟩

set_option maxRecDepth 10000 in
set_option maxHeartbeats 8000000 in
theorem cwrite_ok (N c : Nat) (intra : Bool) (ag : Option Addr) (cg : Nat) (G : List (List Int)) (ay : Option Addr) (cy : Nat) (Y : List (List (List Int))) (aa : Option Addr) (na ca : Nat) (A : List (List Int)) (w : World) (h : PkAt w ag c cg G ay c cy Y) (hok : PkOk N c G Y) (hA : A.length = na) (hma : na ≤ 9223372036854775807) (hva : Fr false w (.slice aa na ca) A) (hah : ahB intra c A = true) :
    Calls Tryz.prog 7 #[.int .i64 (N : Nat), .int .i64 (c : Nat), .agg #[.bool intra, .slice ag c cg, .slice ay c cy], .slice aa na ca] w fun x w' => ∃ g, x = .returned (.tuple #[.slice (some ⟨g, 0, none⟩) N N, .int .i64 0]) ∧ RwF w.heap.size .u8 w' (.slice (some ⟨g, 0, none⟩) N N) (pkt (EY intra G A c Y c) N) ∧ Below w.heap.size w w' := by
  obtain ⟨i0, hi, hz0, hz1, hz2⟩ := info_parts info_u8c
  have hW := below1 w (.cells #[.bool intra, .slice ag c cg, .slice ay c cy] 25)
  have hB0 := B3.new w (.bool intra) (.slice ag c cg) (.slice ay c cy) 25
  obtain ⟨ez, e0, e1, e2, f0, f1, f2⟩ := id hB0
  have hr := cright_any N c intra ag c cg G ay c cy Y _ (h.below hW)
  rw [pk_yes hok] at hr
  have hra := fun W (hb : Below w.heap.size w W) => cahead_any c aa na ca A intra W hA hma (hva.below hb)
  rw [hah] at hra
  have hpk := fun W => putKind_new intra W (hok.rmF0 intra)
  rw [← EG_zero intra G A] at hpk
  have HOKG : Hid (∀ k, k ≤ c → (EG intra G A k).Ok) := fun k hk => hok.okG intra A hk
  have HOKY : Hid (∀ k, k ≤ c → (EY intra G A c Y k).Ok) := fun k hk => hok.okY intra A hk
  have HSTG : Hid (∀ k, k < c → rm (EG intra G A k) (chK intra (G.getD k []) (A.getD k []) 5) = true) := fun k hk => hok.stepG intra A hk
  have HSTY : Hid (∀ k, k < c → rm (EY intra G A c Y k) (cB (Y.getD k []) 5) = true) := fun k hk => hok.stepY intra A hk
  have HGP : Hid (∀ k, k < c → gpB (G.getD k []) (ahd intra A k) intra = true) := fun k hk => by unfold gpB; rw [hok.gok k hk, gok_ahd hah k hk]; rfl
  have HVS : Hid (∀ k, k < c → VsOk (Y.getD k []) (chan (G.getD k []) (rmI N c)) ∧ (Y.getD k []).length = 5 ∧ ∀ b, b < 5 → chan (G.getD k []) (rmI N c) b ≤ 12) := fun k hk => ⟨hok.vs k hk, hok.l5 k hk, fun b hb => (hok.okf k).le b hb⟩
  have HAI : Hid (∀ k, k < c → intra = true ∨ k < na) := fun k hk => by
    cases hi : intra with
    | true => exact .inl rfl
    | false =>
      have h1 : fairG c A = true := by unfold ahB at hah; rw [hi] at hah; simpa using hah
      exact .inr (by have := (fair_iff.1 h1).1; omega)
  have hsh := hok.short intra A
  rw [← EY_all] at hsh
  obtain ⟨N11, N60⟩ : 11 ≤ N ∧ N ≤ 60 := by have := rt_parts hok.rt; omega
  obtain ⟨c1, c2⟩ : 1 ≤ c ∧ c ≤ 2 := by have := rt_parts hok.rt; omega
  have HH := hid h
  have HVA := hid hva
  have HMA := hid hma
  clear h hva hah hA hok hma
  go_enter Tryz.func7, Tryz.ntmps7
  go_upto_region 3 with (first | (go_at_call 17; refine hr.mono ?_; rintro x w1 ⟨rfl, hb1⟩; have hb01 := bthen' hW hb1; obtain ⟨gz, g0, g1, g2, k0, k1, k2⟩ := id (hB0.below hb1)) | (go_at_call 18; refine (hra _ hb01).mono ?_; rintro x w9 ⟨rfl, h9⟩; have h9 := h9.symm; subst h9))
  have hB1 := hB0.below hb1
  clear e0 e1 e2 f0 f1 f2 ez hB0 hr hra
  obtain ⟨W1, rfl⟩ : ∃ z, z = w1 := ⟨w1, rfl⟩
  go_cut [10] (fun p wz => ∃ (a2 : Option Addr) (c2 : Nat), Made3 W1 wz p (.int .u64 (EG intra G A 0).low) (.int .u32 (EG intra G A 0).R) (.slice a2 (EG intra G A 0).m c2) ∧ Hid (Rw .u8 wz (.slice a2 (EG intra G A 0).m c2) (EG intra G A 0).out))
  case first =>
    generalize EG intra G A 0 = E0 at *
    unfold PutE at hpk
    go_region_held3 (fun w' => w'.cell? ⟨w.heap.size, 0, none⟩ = some (.bool intra) ∧ w'.cell? ⟨w.heap.size, 1, none⟩ = some (.slice ag c cg) ∧ w'.cell? ⟨w.heap.size, 2, none⟩ = some (.slice ay c cy)) (exact held3 (by first | exact (Below.refl _ _).drew | exact ((Below.refl _ _).alloc (Nat.le_refl _) _).drew | exact hy2 | exact hy2.alloc hy2.size _ | exact bset3 hy2 _ _ _ _ (Nat.le_refl _) | exact bset3 hy2 _ _ _ _ hy1.size | exact hy1 | exact hy1.alloc hy1.size _) hB1) (first | (go_at_call 20; refine (new_any _).mono ?_; rintro x y1 ⟨rfl, e1⟩; have hy1 : Below W1.heap.size W1 y1 := bthen' (by first | exact (Below.refl _ _).drew | exact ((Below.refl _ _).alloc (Nat.le_refl _) _).drew) e1) | (go_at_call 19; refine (hpk _).mono ?_; rintro x y2 ⟨a2, c2, rfl, r2, e2⟩; have hy2 : Below W1.heap.size W1 y2 := bthen' (by first | exact hy1 | exact hy1.alloc hy1.size _) e2; (first | (refine with_fact (((B3.new W1 (.int .u64 0) (.int .u32 0) (.slice none 0 0) 52).below (drew_below e1)).below e2) ?_; rintro ⟨s0, s1, s2, s3, s4, s5, s6⟩) | (refine with_fact ((B3.new y1 (.int .u64 0) (.int .u32 0) (.slice none 0 0) 52).below e2) ?_; rintro ⟨s0, s1, s2, s3, s4, s5, s6⟩) | skip)))
    all_goals go_wp2
    all_goals go_meet
    all_goals first | exact ⟨a2, c2, made3_after hy2, r2.below (below1 _ _)⟩ | exact ⟨a2, c2, made3_before (bthen' e1 e2), put_before (bthen' e1 e2) r2 (fun z => by simp) (fun z => by simp) (fun z => by simp) _ _ _⟩ | exact ⟨a2, c2, made3_amid hy1 e2, put_amid e2 r2 (fun z => by simp) (fun z => by simp) (fun z => by simp) _ _ _⟩
  case rest =>
    obtain ⟨a2, c2, ⟨be, rfl, hB2, hbe, hm1⟩, HR2⟩ := hcut
    have hbel0 := bthen' hb01 hm1
    have hBp0 := hB1.below hm1
    have hbe2 : w.heap.size < be := Nat.lt_of_lt_of_le hB1.z hbe
    clear gz g0 g1 g2 k0 k1 k2 hpk hbe hW
    obtain ⟨gz, g0, g1, g2, k0, k1, k2⟩ := id hBp0
    have HM1 := hid hm1
    clear hm1 hb1 hb01
    go_wp2
    clear gz g0 g1 g2 k0 k1 k2
    go_loopw [36] (fun i wr => ∃ (k : Nat) (E : En) (a' : Option Addr) (c' : Nat), k ≤ c ∧ i = .int .i64 (k : Nat) ∧ Hid (E = EG intra G A k) ∧ Hid (Rw .u8 wr (.slice a' E.m c') E.out) ∧ B3 wr be (.int .u64 E.low) (.int .u32 E.R) (.slice a' E.m c') ∧ B3 wr w.heap.size (.bool intra) (.slice ag c cg) (.slice ay c cy) ∧ Below w.heap.size w wr) (fun i _ => c - (intOf i).toNat)
    case atStart => exact ⟨0, _, a2, c2, by omega, rfl, rfl, HR2, hB2, hBp0, hbel0⟩
    case round =>
      clear hB2 HR2 hBp0 hbel0 hB1
      obtain ⟨k, E, a', c', hk, rfl, HE, HER, hBe, hBp, hbel⟩ := hrel
      obtain ⟨W2, rfl⟩ : ∃ z, z = wr := ⟨wr, rfl⟩
      by_cases hlt : k < c
      · obtain ⟨b, off, hbo, hb, ra, rc, hc1, _, hrw⟩ := (HH.out.below hbel).vg.at k hlt
        have hbo' := hbo.symm
        subst hbo'
        have hao := fun W (h : Below W2.heap.size W2 W) => aheadOf_any k aa na ca A intra W (HVA.out.below (bthen hbel h hbel.size)) (HAI.out k hlt) HMA.out
        have hpg := fun ra2 rc2 W (hb : Below W2.heap.size W2 W) (h2 : Rw .i64 W (.slice ra2 (ahd intra A k).length rc2) (ahd intra A k)) => putGains_any a' c' E ra rc (G.getD k []) ra2 rc2 (ahd intra A k) intra W (by rw [HE.out]; exact HOKG.out k (by omega)) (HER.out.below hb) (hrw.below hb) h2 (HGP.out k hlt) (by rw [HE.out, chK_ahd]; exact HSTG.out k hlt)
        have HS : Hid (EG intra G A (k + 1) = puts E (chK intra (G.getD k []) (ahd intra A k) 5)) := by unfold Hid; rw [EG_succ, chK_ahd, ← HE.out]
        generalize puts E (chK intra (G.getD k []) (ahd intra A k) 5) = F at *
        generalize (ahd intra A k) = y at *
        generalize (G.getD k []).length = nx at *
        unfold PutE at hpg
        have i1 : (0 : Int) ≤ (k : Int) := by omega
        have i2 : (k : Int) < (c : Int) := by omega
        have i3 : IntKind.i64.wrap (k : Int) = k := wraps_i64 _ (by omega) (by omega)
        obtain ⟨z0, o0, o1, o2, q0, q1, q2⟩ := id hBe
        obtain ⟨gz, g0, g1, g2, k0, k1, k2⟩ := id hBp
        clear hrw
        go_wp2
        go_region_with (first | (go_at_call 22; refine (hao _ (Below.refl _ _).drew).mono ?_; rintro xx w9 ⟨⟨ra2, rc2, rfl, hra2⟩, h9⟩; have h9 := h9.symm; subst h9) | (go_at_call 21; refine (hpg _ _ _ (Below.refl _ _).drew (hra2 _ (Below.refl _ _))).mono ?_; rintro xx y1 ⟨a3, c3, rfl, hr3, hb3'⟩; have hb3 := drew_below hb3'; have hBey := hBe.below hb3; have hBpy := hBp.below hb3; have hy1 := bthen hbel hb3 hbel.size; obtain ⟨y10, yo0, yo1, yo2, yof0, yof1, yof2⟩ := id hBey; obtain ⟨x10, xo0, xo1, xo2, xof0, xof1, xof2⟩ := id hBpy))
        all_goals go_wp2
        all_goals exact ⟨⟨k + 1, F, a3, c3, by omega, by go_num, HS.out.symm, hBey.apart hr3 (fun z => by simp) (fun z => by simp) (fun z => by simp) _ _ _, hBey.set _ _ _, ((hBpy.other _ _ _ (by omega)).other _ _ _ (by omega)).other _ _ _ (by omega), bset3 hy1 _ _ _ _ (by omega)⟩, by simp [intOf]; omega⟩
      · obtain rfl : k = c := by omega
        have HE0 : Hid (E = EY intra G A k Y 0) := by unfold Hid; rw [EY_zero]; exact HE.out
        clear hlt HE HSTG HOKG HGP HAI HVA
        obtain ⟨gz, g0, g1, g2, k0, k1, k2⟩ := id hBp
        go_wp2
        go_loopw [55] (fun i wr => ∃ (j : Nat) (E : En) (a' : Option Addr) (c' : Nat), j ≤ k ∧ i = .int .i64 (j : Nat) ∧ Hid (E = EY intra G A k Y j) ∧ Hid (Rw .u8 wr (.slice a' E.m c') E.out) ∧ B3 wr be (.int .u64 E.low) (.int .u32 E.R) (.slice a' E.m c') ∧ B3 wr w.heap.size (.bool intra) (.slice ag k cg) (.slice ay k cy) ∧ Below w.heap.size w wr) (fun i _ => k - (intOf i).toNat)
        case atStart => exact ⟨0, E, a', c', by omega, rfl, HE0, HER, hBe, hBp, hbel⟩
        case round =>
          clear gz g0 g1 g2 k0 k1 k2 hBe hBp hbel HER HE0
          obtain ⟨j, E, a', c', hj, rfl, HE, HER, hBe, hBp, hbel⟩ := hrel
          obtain ⟨W3, rfl⟩ : ∃ z, z = wr := ⟨wr, rfl⟩
          by_cases hlt : j < k
          · obtain ⟨b, off, hbo, hb, ra, rc, hc1, hyr⟩ := (HH.out.below hbel).vy.at j hlt
            have hbo' := hbo.symm
            subst hbo'
            obtain ⟨v1, v2, v3⟩ := HVS.out j hlt
            rw [v2] at hc1 hyr
            have hpv := putVecs_any a' c' E ra rc (Y.getD j []) _ W3 (by rw [HE.out]; exact HOKY.out j (by omega)) HER.out v2 hyr (HH.out.fit j) v1 v3 (by rw [HE.out]; exact HSTY.out j hlt)
            have HS : Hid (EY intra G A k Y (j + 1) = puts E (cB (Y.getD j []) 5)) := by unfold Hid; rw [EY_succ, ← HE.out]
            generalize puts E (cB (Y.getD j []) 5) = F at *
            unfold PutE at hpv
            have i1 : (0 : Int) ≤ (j : Int) := by omega
            have i2 : (j : Int) < (k : Int) := by omega
            have i3 : IntKind.i64.wrap (j : Int) = j := wraps_i64 _ (by omega) (by omega)
            obtain ⟨z0, o0, o1, o2, q0, q1, q2⟩ := id hBe
            clear hyr v1 v2 v3
            go_wp2_with (go_at_call 23; refine hpv.mono ?_; rintro xx y1 ⟨a3, c3, rfl, hr3, hb3⟩; have hBey := hBe.below hb3; have hBpy := hBp.below hb3; have hy1 := bthen hbel hb3 hbel.size; obtain ⟨y10, yo0, yo1, yo2, yof0, yof1, yof2⟩ := id hBey)
            exact ⟨⟨j + 1, F, a3, c3, by omega, by go_num, HS.out.symm, hBey.apart hr3 (fun z => by simp) (fun z => by simp) (fun z => by simp) _ _ _, hBey.set _ _ _, ((hBpy.other _ _ _ (by omega)).other _ _ _ (by omega)).other _ _ _ (by omega), bset3 hy1 _ _ _ _ (by omega)⟩, by simp [intOf]; omega⟩
          · obtain rfl : j = k := by omega
            rw [← HE.out] at hsh
            have HEO : Hid E.Ok := by unfold Hid; rw [HE.out]; exact HOKY.out j (Nat.le_refl _)
            have HPL := hid (pkt_len (E := E) (N := N) (by omega))
            have HPS := hid (pkt_splice (E := E) (N := N) (by omega))
            have HAL := hid (En.all_length E)
            have hfi := fun W (h : Below W3.heap.size W3 W) => finish_any E.low E.R a' E.m c' E W (HEO.out.ev (HER.out.below h))
            obtain ⟨M, hM⟩ : ∃ M, E.m + 4 = M := ⟨_, rfl⟩
            rw [hM] at hfi
            have HM := hid hM
            have hMN : M ≤ N := by omega
            have hM4 : 4 ≤ M := by omega
            clear hlt HSTY HOKY HVS HH hM hsh
            go_wp2_with (at_make; refine wpList_make_full _ rfl _ _ 28 rfl W3.heap.size 5 i0 (.int .u8 0) 1 Tryz.underlying28 hi hz0 hz1 .i64 .i64 _ _ N rfl rfl (by omega) (by omega) (by rw [hz2]; omega) (by unfold maxLen; omega) (by simp) ?_)
            intro w5 hown5 hgrow5
            have hb5 := grown_of_none hgrow5
            have hfull := owns_full hown5
            rw [made_one] at hfull
            have hfull1 := hfull.1
            have hlt5 := block_in hfull1
            have hbw5 := bthen hbel hb5 hbel.size
            obtain ⟨z0, o0, o1, o2, q0, q1, q2⟩ := id (hBe.below hb5)
            clear hown5 hgrow5 hfull
            go_wp2_with (first | (go_at_call 24; refine (hfi _ hb5).mono ?_; rintro xx y1 ⟨v1, rfl, hown, hy1⟩; obtain ⟨g, cc, rfl, hg1, hg2, hHl⟩ := Hl.of_owns hown (by omega); have hf1 := (hy1.block _ hlt5).trans hfull1; have hbw6 := bthen hbw5 hy1 hbw5.size) | (refine wpList_copy_splice rfl (.tmp 65) (.tmp 67) 28 28 rfl 5 Tryz.underlying28 (by kernel_rfl) _ _ _ _ _ _ rfl rfl W3.heap.size 0 (List.replicate N (.int .u8 0)) 5 hf1 (E.all.map (Value.int .u8)) ?c1 ?c2 ?c3 ?c4 w.heap.size w hbw6 hbel.size ?_))
            case c1 => simp only [List.length_map]; rw [HAL.out, HM.out]; exact (Nat.min_eq_left hMN).symm
            case c2 =>
              intro hpos q v hq
              have hql := (List.getElem?_eq_some_iff.1 hq).1
              rw [hHl.cell q hql]
              simp [List.getD_eq_getElem?_getD, hq]
            case c3 => simp only [List.length_map, List.length_replicate]; rw [HAL.out, HM.out]; omega
            case c4 => exact ints_oneCell _ _
            intro w6 HG6 hb6
            go_wp2
            go_ret2
            refine ⟨_, rfl, ?_, hb6⟩
            have hE := HE.out
            rw [← hE]
            have h6 := HG6.out
            rw [HPS.out] at h6
            exact RwF.of_owns (owns_of_full h6 hbel.size (by rw [List.length_map]; exact HPL.out) (by unfold maxLen; omega))
end Go.Proofs.YtidppkbphkcmeaaGreat
/- Contracts of takeKind, takeGains, takeVector, by the program. -/
namespace Go.Proofs.YtidppkbphkcmeaaGreat
open Go.RowKit
set_option linter.unusedVariables false
set_option linter.unusedSimpArgs false

/-- The decoder that a call hands back reads the same bytes. -/
def Src (a : Option Addr) (c : Nat) (d : De) (a2 : Option Addr) (c2 : Nat) (D : De) : Prop := ∀ w1, Rw .u8 w1 (.slice a d.B.length c) d.B → Rw .u8 w1 (.slice a2 D.B.length c2) D.B
def TkD (w : World) (x : Ending) (w' : World) (a : Option Addr) (c : Nat) (d D : De) (v : Value) : Prop := ∃ a2 c2, x = .returned (.tuple #[.agg #[.int .u64 D.C, .int .u32 D.R, .slice a2 D.B.length c2, .int .i64 D.A], v]) ∧ Src a c d a2 c2 D ∧ Below w.heap.size w w'

set_option maxRecDepth 10000 in
set_option maxHeartbeats 2000000 in
theorem takeKind_any (a : Option Addr) (cap : Nat) (d : De) (w : World) (ho : d.Ok) (hr : Rw .u8 w (.slice a d.B.length cap) d.B) :
    Calls Tryz.prog 38 #[.agg #[.int .u64 d.C, .int .u32 d.R, .slice a d.B.length cap, .int .i64 d.A]] w fun x w' => TkD w x w' a cap d (dF d) (.bool (fI d)) := by
  have hW := below2 w (.cells #[.int .u64 d.C, .int .u32 d.R, .slice a d.B.length cap, .int .i64 d.A] 75) (.cells #[.int .u64 0, .int .u32 0, .slice none 0 0, .int .i64 0] 75)
  have hlt := De.get_lt d 2 (by decide)
  have hgt := fun W h => get_any d.C d.R a d.B.length cap d.A d 2 W h (by decide) (by decide)
  have htk := fun W h => take_any d.C d.R a d.B.length cap d.A d (d.get 2) (d.get 2 + 1) 2 W h ⟨by omega, by omega, by decide⟩
  have hDB := De.take_B d (d.get 2) (d.get 2 + 1) 2
  rw [show ((d.get 2 + 1 : Nat) : Int) = (d.get 2 : Int) + 1 by omega, show ((2 : Nat) : Int) = 2 from rfl] at htk
  rw [show ((2 : Nat) : Int) = 2 from rfl] at hgt
  unfold fI dF
  unfold decV at htk
  generalize d.take (d.get 2) (d.get 2 + 1) 2 = D at *
  generalize d.get 2 = v at *
  have hdv := ho.dv hr
  have HSRC : Hid (∀ a1 c1, (∀ w1, DvOf w1 d.C d.R a d.B.length cap d.A d → Rw .u8 w1 (.slice a1 d.B.length c1) d.B) → Src a cap d a1 c1 D) := fun a1 c1 h w1 h1 => by rw [hDB]; exact h w1 (ho.dv h1)
  unfold TkD
  generalize Src a cap d = S at *
  clear hDB hr
  rcases (show v = 0 ∨ v = 1 by omega) with rfl | rfl
  all_goals
    clear hlt
    go_enter Tryz.func38, Tryz.ntmps38
    go_wp2_with (first | (go_at_call 67; refine (hgt _ (hdv.below hW)).mono ?_; rintro x w1 ⟨rfl, hb1⟩; have hbw1 := bthen hW hb1 hW.size; obtain ⟨ez, e0, e1, e2, e3, ef0, ef1, ef2, ef3⟩ := ((B4.new w (.int .u64 d.C) (.int .u32 d.R) (.slice a d.B.length cap) (.int .i64 d.A) 75).below (below1 _ (.cells #[.int .u64 0, .int .u32 0, .slice none 0 0, .int .i64 0] 75))).below hb1) | (go_at_call 68; refine (htk _ (hdv.below hbw1)).mono ?_; rintro x w2 ⟨a2, c2, rfl, hq2, hb2⟩; have hbw2 := bthen hbw1 hb2 hbw1.size; clear ez e0 e1 e2 e3 ef0 ef1 ef2 ef3; obtain ⟨ez, e0, e1, e2, e3, ef0, ef1, ef2, ef3⟩ := (((B4.new w (.int .u64 d.C) (.int .u32 d.R) (.slice a d.B.length cap) (.int .i64 d.A) 75).below (below1 _ (.cells #[.int .u64 0, .int .u32 0, .slice none 0 0, .int .i64 0] 75))).below hb1).below hb2; obtain ⟨rz, r0, r1, r2, r3, p0, p1, p2, p3⟩ := ((B4.new2 w (.cells #[.int .u64 d.C, .int .u32 d.R, .slice a d.B.length cap, .int .i64 d.A] 75) (.int .u64 0) (.int .u32 0) (.slice none 0 0) (.int .i64 0) 75).below hb1).below hb2))
    exact bodyPost_ret (by simp [results, Tryz.results38, go_sem, r0, r1, r2, r3, p0, p1, p2, p3, e0, e1, e2, e3, ef0, ef1, ef2, ef3]) rfl ⟨a2, c2, rfl, HSRC.out _ _ hq2, bset4 (bset4 hbw2 _ _ _ _ _ (by omega)) _ _ _ _ _ (by omega)⟩

def TkG (w : World) (x : Ending) (w' : World) (a : Option Addr) (c : Nat) (d D : De) (v : List Int) : Prop := ∃ a2 c2 g, x = .returned (.tuple #[.agg #[.int .u64 D.C, .int .u32 D.R, .slice a2 D.B.length c2, .int .i64 D.A], .slice (some ⟨g, 0, none⟩) 5 5]) ∧ RwF w.heap.size .i64 w' (.slice (some ⟨g, 0, none⟩) 5 5) v ∧ Src a c d a2 c2 D ∧ Below w.heap.size w w'

set_option maxRecDepth 10000 in
set_option maxHeartbeats 2000000 in
theorem takeGains_any (a : Option Addr) (cap : Nat) (d : De) (ay : Option Addr) (cy : Nat) (y : List Int) (intra : Bool) (w : World) (ho : d.Ok) (hr : Rw .u8 w (.slice a d.B.length cap) d.B) (hvy : Rw .i64 w (.slice ay y.length cy) y) (hg : (intra || gokB y) = true) :
    Calls Tryz.prog 40 #[.agg #[.int .u64 d.C, .int .u32 d.R, .slice a d.B.length cap, .int .i64 d.A], .slice ay y.length cy, .bool intra] w fun x w' => TkG w x w' a cap d (dK intra d 5) (vK intra d y 5) := by
  have hW := below2 w (.cells #[.int .u64 d.C, .int .u32 d.R, .slice a d.B.length cap, .int .i64 d.A] 75) (.cells #[.int .u64 0, .int .u32 0, .slice none 0 0, .int .i64 0] 75)
  have htk := gtake_any d.C d.R a d.B.length cap d.A d ay y.length cy y intra rfl _ ((ho.dv hr).below hW) (hvy.below hW) hg
  generalize dK intra d 5 = D at *
  generalize vK intra d y 5 = v at *
  have HSRC : Hid (∀ a1 c1, (∀ w1, DvOf w1 d.C d.R a d.B.length cap d.A d → Rw .u8 w1 (.slice a1 D.B.length c1) D.B) → Src a cap d a1 c1 D) := fun a1 c1 h w1 h1 => h w1 (ho.dv h1)
  unfold TkG
  unfold TakeP OutD at htk
  generalize Src a cap d = S at *
  clear hr hvy hg ho
  generalize y.length = ny at *
  go_enter Tryz.func40, Tryz.ntmps40
  go_wp2_with (go_at_call 70; refine htk.mono ?_; rintro x w2 ⟨a2, c2, g, rfl, hrw, hq2, hb2⟩; have hbw2 := bthen hW hb2 hW.size; obtain ⟨ez, e0, e1, e2, e3, ef0, ef1, ef2, ef3⟩ := ((B4.new w (.int .u64 d.C) (.int .u32 d.R) (.slice a d.B.length cap) (.int .i64 d.A) 75).below (below1 _ (.cells #[.int .u64 0, .int .u32 0, .slice none 0 0, .int .i64 0] 75))).below hb2; obtain ⟨rz, r0, r1, r2, r3, p0, p1, p2, p3⟩ := (B4.new2 w (.cells #[.int .u64 d.C, .int .u32 d.R, .slice a d.B.length cap, .int .i64 d.A] 75) (.int .u64 0) (.int .u32 0) (.slice none 0 0) (.int .i64 0) 75).below hb2)
  refine bodyPost_ret (v := .tuple #[.agg #[.int .u64 D.C, .int .u32 D.R, .slice a2 D.B.length c2, .int .i64 D.A], .slice (some ⟨g, 0, none⟩) 5 5]) (by simp [results, Tryz.results40, go_sem, r0, r1, r2, r3, p0, p1, p2, p3, e0, e1, e2, e3, ef0, ef1, ef2, ef3]) rfl ⟨a2, c2, g, rfl, ?_, HSRC.out _ _ hq2, bset4 (bset4 hbw2 _ _ _ _ _ (by omega)) _ _ _ _ _ (by omega)⟩
  simp only [World.size_alloc] at hrw
  exact ((((((((hrw.set _ _ _ (by omega)).set _ _ _ (by omega)).set _ _ _ (by omega)).set _ _ _ (by omega)).set _ _ _ (by omega)).set _ _ _ (by omega)).set _ _ _ (by omega)).set _ _ _ (by omega)).mono (by omega)

/-- A band's vector is taken: the number tells it. -/
def TkW (w : World) (x : Ending) (w' : World) (a : Option Addr) (c : Nat) (d D : De) (n k I : Nat) : Prop := ∃ a2 c2 g ys, x = .returned (.tuple #[.agg #[.int .u64 D.C, .int .u32 D.R, .slice a2 D.B.length c2, .int .i64 D.A], .slice (some ⟨g, 0, none⟩) n n]) ∧ RwF w.heap.size .i64 w' (.slice (some ⟨g, 0, none⟩) n n) ys ∧ ys.length = n ∧ ps ys = k ∧ ix n k ys = I ∧ Src a c d a2 c2 D ∧ Below w.heap.size w w'

set_option maxRecDepth 10000 in
set_option maxHeartbeats 2000000 in
theorem takeVec_any (a : Option Addr) (cap : Nat) (d : De) (b k : Nat) (hb : b < 5) (hk : k ≤ 12) (w : World) (ho : d.Ok) (hr : Rw .u8 w (.slice a d.B.length cap) d.B) :
    Calls Tryz.prog 75 #[.agg #[.int .u64 d.C, .int .u32 d.R, .slice a d.B.length cap, .int .i64 d.A], .int .i64 (wd b : Nat), .int .i64 (k : Nat)] w fun x w' => TkW w x w' a cap d (d.numD (V (wd b) k)) (wd b) k (d.numV (V (wd b) k)) := by
  have hW := below2 w (.cells #[.int .u64 d.C, .int .u32 d.R, .slice a d.B.length cap, .int .i64 d.A] 75) (.cells #[.int .u64 0, .int .u32 0, .slice none 0 0, .int .i64 0] 75)
  have hwp := wd_pos hb
  have hVp := V_pos (wd b) k hwp.1
  have hVt := (V_tab hb hk).1
  have hcn := fun W => count_any (wd b) k W hwp.1 hwp.2 hk
  have htk := fun W h => takeNum_any d.C d.R a d.B.length cap d.A d (V (wd b) k) hVp hVt W h
  have hlt := numV_below d hVp
  have hve := fun W => vector_ok (wd b) k (d.numV (V (wd b) k)) W hwp.1 hwp.2 hk hlt
  generalize d.numV (V (wd b) k) = I at *
  generalize hD : d.numD (V (wd b) k) = D at *
  generalize V (wd b) k = X at *
  generalize wd b = n at *
  have HSRC : Hid (∀ a1 c1, (∀ w1, DvOf w1 d.C d.R a d.B.length cap d.A d → Rw .u8 w1 (.slice a1 D.B.length c1) D.B) → Src a cap d a1 c1 D) := fun a1 c1 h w1 h1 => h w1 (ho.dv h1)
  have hdv := ho.dv hr
  unfold TkW
  unfold OutD at htk
  generalize Src a cap d = S at *
  clear hr hD hVp hVt hlt ho hwp
  go_enter Tryz.func75, Tryz.ntmps75
  go_wp2_with (first | (go_at_call 56; refine (hcn _).mono ?_; rintro x w1 ⟨rfl, hb1⟩; have hbw1 := bthen hW hb1 hW.size; have hBd1 := ((B4.new w (.int .u64 d.C) (.int .u32 d.R) (.slice a d.B.length cap) (.int .i64 d.A) 75).below (below1 _ (.cells #[.int .u64 0, .int .u32 0, .slice none 0 0, .int .i64 0] 75))).below hb1; have hBr1 := (B4.new2 w (.cells #[.int .u64 d.C, .int .u32 d.R, .slice a d.B.length cap, .int .i64 d.A] 75) (.int .u64 0) (.int .u32 0) (.slice none 0 0) (.int .i64 0) 75).below hb1; obtain ⟨ez, e0, e1, e2, e3, ef0, ef1, ef2, ef3⟩ := id hBd1) | (go_at_call 105; refine (htk _ (hdv.below hbw1)).mono ?_; rintro x w2 ⟨a2, c2, rfl, hq2, hb2⟩; have hbw2 := bthen hbw1 hb2 hbw1.size; clear ez e0 e1 e2 e3 ef0 ef1 ef2 ef3; have hBd2 := hBd1.below hb2; have hBr2 := hBr1.below hb2; obtain ⟨ez, e0, e1, e2, e3, ef0, ef1, ef2, ef3⟩ := id hBd2; have hbw3 := bset4 hbw2 w.heap.size (.int .u64 D.C) (.int .u32 D.R) (.slice a2 D.B.length c2) (.int .i64 D.A) (Nat.le_refl _); have hBd3 := hBd2.set (.int .u64 D.C) (.int .u32 D.R) (.slice a2 D.B.length c2) (.int .i64 D.A); have hBr3 := (((hBr2.other w.heap.size 0 (.int .u64 D.C) (by omega)).other w.heap.size 1 (.int .u32 D.R) (by omega)).other w.heap.size 2 (.slice a2 D.B.length c2) (by omega)).other w.heap.size 3 (.int .i64 D.A) (by omega)) | (go_at_call 106; refine (hve _).mono ?_; rintro x w4 ⟨g, ys, rfl, hrw, hl, hp, hi, hb4⟩; have hbw4 := bthen hbw3 hb4 hbw3.size; clear ez e0 e1 e2 e3 ef0 ef1 ef2 ef3; obtain ⟨ez, e0, e1, e2, e3, ef0, ef1, ef2, ef3⟩ := hBd3.below hb4; obtain ⟨rz, r0, r1, r2, r3, p0, p1, p2, p3⟩ := hBr3.below hb4; have HZ := hid hbw3.size; have HL := hid hl; have HP := hid hp; have HI := hid hi; clear hl hp hi))
  refine bodyPost_ret (v := .tuple #[.agg #[.int .u64 D.C, .int .u32 D.R, .slice a2 D.B.length c2, .int .i64 D.A], .slice (some ⟨g, 0, none⟩) n n]) (by simp [results, Tryz.results75, go_sem, r0, r1, r2, r3, p0, p1, p2, p3, e0, e1, e2, e3, ef0, ef1, ef2, ef3]) rfl ⟨a2, c2, g, ys, rfl, ?_, HL.out, HP.out, HI.out, HSRC.out _ _ hq2, bset4 hbw4 _ _ _ _ _ (by omega)⟩
  have hz2 := hBr3.z
  exact ((((hrw.set _ _ _ hz2).set _ _ _ hz2).set _ _ _ hz2).set _ _ _ hz2).mono HZ.out
end Go.Proofs.YtidppkbphkcmeaaGreat
/- Things laid into a block that was made, whatever else is written; contract of takeVectors, by the program. -/
namespace Go.Proofs.YtidppkbphkcmeaaGreat
open Go.RowKit
set_option linter.unusedVariables false
set_option linter.unusedSimpArgs false

/-- Things that the call lays into a block G, one behind the other, all in blocks of which P holds, none of them in G. -/
structure Mq {α : Type} (K : (Nat → Prop) → World → Value → α → Prop) (P : Nat → Prop) (ts : TypeId) (w : World) (G c : Nat) (L : Nat → α) (i : Nat) : Prop where
  cells : ∃ cur : Array Value, w.heap[G]? = some (.cells cur ts (0, 0)) ∧ cur.size = c
  base : P G
  rows : ∀ j, j < i → ∃ r, w.cell? ⟨G, j, none⟩ = some r ∧ K (fun b => P b ∧ b ≠ G) w r (L j)
theorem Mq.lt {α : Type} {K : (Nat → Prop) → World → Value → α → Prop} {P : Nat → Prop} {ts : TypeId} {w : World} {G c i : Nat} {L : Nat → α} (h : Mq K P ts w G c L i) : G < w.heap.size := by
  obtain ⟨cur, h, _⟩ := h.cells
  exact block_in h
theorem Mq.cell {α : Type} {K : (Nat → Prop) → World → Value → α → Prop} {P : Nat → Prop} {ts : TypeId} {w : World} {G c i : Nat} {L : Nat → α} (h : Mq K P ts w G c L i) (j : Nat) (hj : j < c) : ∃ r, w.cell? ⟨G, j, none⟩ = some r ∧ w.frozen? ⟨G, j, none⟩ = false := by
  obtain ⟨cur, h, hc⟩ := h.cells
  refine ⟨cur[j]'(by omega), ?_, ?_⟩
  · simp [World.cell?, h, hc, hj]
  · simp [World.frozen?, h]
theorem Mq.below {α : Type} {K : (Nat → Prop) → World → Value → α → Prop} (hK : Keeps K) {P : Nat → Prop} {ts : TypeId} {w w' : World} {G c i : Nat} {L : Nat → α} (h : Mq K P ts w G c L i) (hb : Below w.heap.size w w') : Mq K P ts w' G c L i := by
  have hlt := h.lt
  obtain ⟨⟨cur, h1, h2⟩, h0, h3⟩ := h
  refine ⟨⟨cur, (hb.block _ hlt).trans h1, h2⟩, h0, fun j hj => ?_⟩
  obtain ⟨r, e1, e2⟩ := h3 j hj
  exact ⟨r, ((bcell hb).1 _ _ hlt).trans e1, hK.below e2 hb⟩
theorem grown_cell (w : World) (G i : Nat) (r : Value) : w.grownBy (w.setCell ⟨G, i, none⟩ r) (some G) := grownBy_set ⟨rfl, rfl, rfl, Nat.le_refl _, fun _ _ _ => rfl⟩ i r
theorem Mq.off {α : Type} {K : (Nat → Prop) → World → Value → α → Prop} (hK : Keeps K) {P : Nat → Prop} {ts : TypeId} {w : World} {G c i : Nat} {L : Nat → α} (h : Mq K P ts w G c L i) (p o : Nat) (y : Value) (hp : ¬ P p) : Mq K P ts (w.setCell ⟨p, o, none⟩ y) G c L i := by
  have hne : G ≠ p := fun e => hp (e ▸ h.base)
  have hgr := grown_cell w p o y
  have e := Below.heap_setCell w ⟨p, o, none⟩ y G hne
  obtain ⟨⟨cur, h1, h2⟩, h0, h3⟩ := h
  refine ⟨⟨cur, e.trans h1, h2⟩, h0, fun j hj => ?_⟩
  obtain ⟨r, e1, e2⟩ := h3 j hj
  exact ⟨r, (World.cell?_of_block (w := w) e).trans e1, hK.grown e2 hgr (fun b hb q => hp (by have := Option.some.inj q; exact this ▸ hb.1))⟩
theorem Mq.off4 {α : Type} {K : (Nat → Prop) → World → Value → α → Prop} (hK : Keeps K) {P : Nat → Prop} {ts : TypeId} {w : World} {G c i : Nat} {L : Nat → α} (h : Mq K P ts w G c L i) (p : Nat) (y0 y1 y2 y3 : Value) (hp : ¬ P p) : Mq K P ts ((((w.setCell ⟨p, 0, none⟩ y0).setCell ⟨p, 1, none⟩ y1).setCell ⟨p, 2, none⟩ y2).setCell ⟨p, 3, none⟩ y3) G c L i :=
  (((h.off hK p 0 y0 hp).off hK p 1 y1 hp).off hK p 2 y2 hp).off hK p 3 y3 hp
theorem Mq.put {α : Type} {K : (Nat → Prop) → World → Value → α → Prop} (hK : Keeps K) {P : Nat → Prop} {ts : TypeId} {w : World} {G c i : Nat} {L : Nat → α} {r : Value} {x : α} (h : Mq K P ts w G c L i) (hi : i < c) (hr : K (fun b => P b ∧ b ≠ G) w r x) : Mq K P ts (w.setCell ⟨G, i, none⟩ r) G c (fun j => if j < i then L j else x) (i + 1) := by
  have hgr := grown_cell w G i r
  obtain ⟨⟨cur, h1, h2⟩, h0, h3⟩ := h
  refine ⟨⟨cur.setIfInBounds i r, ?_, by simp [h2]⟩, h0, fun j hj => ?_⟩
  · simp [World.setCell, Array.getElem?_modify, h1]
  · by_cases e : j = i
    · subst e
      refine ⟨r, ?_, ?_⟩
      · simp [World.cell?, World.setCell, Array.getElem?_modify, h1, h2, hi]
      · rw [if_neg (Nat.lt_irrefl _)]
        exact hK.grown hr hgr (fun b hp e => hp.2 (Option.some.inj e))
    · obtain ⟨r2, e1, e2⟩ := h3 j (by omega)
      refine ⟨r2, ?_, ?_⟩
      · simp [World.cell?, h1] at e1
        simp [World.cell?, World.setCell, Array.getElem?_modify, h1, Array.getElem?_setIfInBounds, Ne.symm e]
        exact e1
      · rw [if_pos (show j < i by omega)]
        exact hK.grown e2 hgr (fun b hp e => hp.2 (Option.some.inj e))
theorem Mq.all {α : Type} {K : (Nat → Prop) → World → Value → α → Prop} (hK : Keeps K) (d : α) {P : Nat → Prop} {ts : TypeId} {w : World} {G c cc : Nat} {L : Nat → α} (h : Mq K P ts w G c L c) : Lp K d P w (.slice (some ⟨G, 0, none⟩) c cc) ((List.range c).map L) := by
  refine ⟨_, cc, by simp, .inr ⟨G, 0, rfl, h.base, h.lt, fun j hj => ?_⟩⟩
  have hj : j < c := by simpa using hj
  obtain ⟨r, e1, e2⟩ := h.rows j hj
  refine ⟨r, by rw [Nat.zero_add]; exact e1, ?_⟩
  have := hK.mono (q := P) e2 fun b _ hp => hp.1
  simpa [List.getD_eq_getElem?_getD, hj] using this
theorem Mq.made {α : Type} {K : (Nat → Prop) → World → Value → α → Prop} {P : Nat → Prop} {ts : TypeId} {w : World} {G c base : Nat} {L : Nat → α} (h : w.ownsRow base ts 1 (.slice (some ⟨G, 0, none⟩) c c) c (madeCells #[.slice none 0 0] c).toList) (hB : P G) : Mq K P ts w G c L 0 := by
  obtain ⟨h1, h2, _⟩ := owns_full h
  refine ⟨⟨_, h1, ?_⟩, hB, fun j hj => by omega⟩
  rw [made_one]
  simp

/-! ### Noughts -/
theorem ps_zeros (n : Nat) : ps (List.replicate n 0) = 0 := by
  induction n with
  | zero => rfl
  | succ n ih => rw [List.replicate_succ]; simp [ps, ih]
theorem ix_zeros (n : Nat) : ix n 0 (List.replicate n 0) = 0 := by
  have h := ix_lt (List.replicate n 0) n 0 (by simp) (ps_zeros n)
  rw [V_none] at h
  omega
/-- The vectors on the way. -/
def VsT (d : De) (f : Nat → Nat) (L : Nat → List Int) (b : Nat) : Prop := ∀ j, j < b → (L j).length = wd j ∧ ps (L j) = f j ∧ ix (wd j) (f j) (L j) = vB d f j
theorem VsT.snoc {d : De} {f : Nat → Nat} {L : Nat → List Int} {b : Nat} (h : VsT d f L b) {y : List Int} (h1 : y.length = wd b) (h2 : ps y = f b) (h3 : ix (wd b) (f b) y = vB d f b) : VsT d f (fun j => if j < b then L j else y) (b + 1) := by
  intro j hj
  by_cases e : j < b
  · simp only [if_pos e]; exact h j e
  · obtain rfl : j = b := by omega
    simp only [if_neg e]; exact ⟨h1, h2, h3⟩
theorem VsT.tk {d : De} {f : Nat → Nat} {L : Nat → List Int} (h : VsT d f L 5) : TkV d f ((List.range 5).map L) := by
  have e : ∀ b, b < 5 → ((List.range 5).map L).getD b [] = L b := fun b hb => by simp [List.getD_eq_getElem?_getD, hb]
  exact ⟨by simp, fun b hb => by rw [e b hb]; exact ⟨(h b hb).1, (h b hb).2.1⟩, fun b hb => by rw [e b hb]; exact (h b hb).2.2⟩
theorem Src.refl (a : Option Addr) (c : Nat) (d : De) : Src a c d a c d := fun _ h => h
theorem Src.trans {a a2 a3 : Option Addr} {c c2 c3 : Nat} {d d2 d3 : De} (h : Src a c d a2 c2 d2) (k : Src a2 c2 d2 a3 c3 d3) : Src a c d a3 c3 d3 := fun w1 h1 => k w1 (h w1 h1)
/-- A channel's vectors are taken. -/
def TkVs (w : World) (x : Ending) (w' : World) (a : Option Addr) (c : Nat) (d D : De) (f : Nat → Nat) : Prop := ∃ a2 c2 g l, x = .returned (.tuple #[.agg #[.int .u64 D.C, .int .u32 D.R, .slice a2 D.B.length c2, .int .i64 D.A], .slice (some ⟨g, 0, none⟩) 5 5]) ∧ TkV d f l ∧ Gp (fun b => w.heap.size ≤ b) w' (.slice (some ⟨g, 0, none⟩) 5 5) l ∧ Src a c d a2 c2 D ∧ Below w.heap.size w w'

set_option maxRecDepth 10000 in
set_option maxHeartbeats 8000000 in
theorem takeVecs_any (a : Option Addr) (cap : Nat) (d : De) (ka : Option Addr) (kc : Nat) (f : Nat → Nat) (w : World) (ho : d.Ok) (hr : Rw .u8 w (.slice a d.B.length cap) d.B) (hk : Rw .i64 w (.slice ka 5 kc) (pls f)) (hf : ∀ b, b < 5 → f b ≤ 12) :
    Calls Tryz.prog 42 #[.agg #[.int .u64 d.C, .int .u32 d.R, .slice a d.B.length cap, .int .i64 d.A], .slice ka 5 kc] w fun x w' => TkVs w x w' a cap d (dB d f 5) f := by
  obtain ⟨i1, hi1, hy0, hy1, hy2⟩ := info_parts (show (Tryz.prog.info? 45).map (fun i => (i.zero, i.size, i.bytes)) = some (some (.slice none 0 0), 1, 24) by kernel_rfl)
  obtain ⟨i0, hi0, hz0, hz1, hz2⟩ := info_parts (show (Tryz.prog.info? 3).map (fun i => (i.zero, i.size, i.bytes)) = some (some (.int .i64 0), 1, 8) by kernel_rfl)
  have hW := below2 w (.cells #[.int .u64 d.C, .int .u32 d.R, .slice a d.B.length cap, .int .i64 d.A] 75) (.cells #[.int .u64 0, .int .u32 0, .slice none 0 0, .int .i64 0] 75)
  have hB3 : B4 ((w.alloc (.cells #[.int .u64 d.C, .int .u32 d.R, .slice a d.B.length cap, .int .i64 d.A] 75)).alloc (.cells #[.int .u64 0, .int .u32 0, .slice none 0 0, .int .i64 0] 75)) w.heap.size (.int .u64 d.C) (.int .u32 d.R) (.slice a d.B.length cap) (.int .i64 d.A) := (B4.new w _ _ _ _ _).below (below1 _ _)
  have hB6 : B4 ((w.alloc (.cells #[.int .u64 d.C, .int .u32 d.R, .slice a d.B.length cap, .int .i64 d.A] 75)).alloc (.cells #[.int .u64 0, .int .u32 0, .slice none 0 0, .int .i64 0] 75)) (w.heap.size + 1) (.int .u64 0) (.int .u32 0) (.slice none 0 0) (.int .i64 0) := B4.new2 w _ _ _ _ _ _
  have hsz : ((w.alloc (.cells #[.int .u64 d.C, .int .u32 d.R, .slice a d.B.length cap, .int .i64 d.A] 75)).alloc (.cells #[.int .u64 0, .int .u32 0, .slice none 0 0, .int .i64 0] 75)).heap.size = w.heap.size + 1 + 1 := by simp
  obtain ⟨kb, ko, rfl, hkb, hkc⟩ := rw_pls hk
  have HK := hid hkc
  have HF := hid hf
  have HR := hid hr
  have HOKB : Hid (∀ b, b ≤ 5 → (dB d f b).Ok) := fun b hb => dB_ok ho hf b hb
  unfold TkVs
  clear hk hf hr hkc
  go_enter Tryz.func42, Tryz.ntmps42
  go_wp2_with (at_make; refine wpList_make_full _ rfl _ _ 22 rfl ((w.alloc (.cells #[.int .u64 d.C, .int .u32 d.R, .slice a d.B.length cap, .int .i64 d.A] 75)).alloc (.cells #[.int .u64 0, .int .u32 0, .slice none 0 0, .int .i64 0] 75)).heap.size 45 i1 (.slice none 0 0) 1 Tryz.underlying22 hi1 hy0 hy1 .i64 .i64 _ _ 5 rfl rfl (by omega) (by omega) (by rw [hy2]; omega) (by unfold maxLen; omega) (by simp) ?_)
  intro w5 hown5 hgrow5
  have hb5 := grown_of_none hgrow5
  have HM0 : Hid (Mq Rp (fun b => w.heap.size + 1 + 1 ≤ b) 45 w5 (w.heap.size + 1 + 1) 5 (fun _ => []) 0) := Mq.made hown5 (Nat.le_refl _)
  have hC3 := hB3.below hb5
  have hC6 := hB6.below hb5
  have hbw5 := bthen hW hb5 hW.size
  clear hown5 hgrow5 hb5 hB3 hB6 hW hi1 hy0 hy1 hy2 i1 hsz
  go_wp2
  go_loopw [13] (fun i wr => ∃ (b : Nat) (D : De) (a' : Option Addr) (c' : Nat) (L : Nat → List Int), b ≤ 5 ∧ i = .int .i64 (b : Nat) ∧ Hid (D = dB d f b) ∧ Hid (Src a cap d a' c' D) ∧ Hid (VsT d f L b) ∧ Hid (Mq Rp (fun b => w.heap.size + 1 + 1 ≤ b) 45 wr (w.heap.size + 1 + 1) 5 L b) ∧ B4 wr w.heap.size (.int .u64 D.C) (.int .u32 D.R) (.slice a' D.B.length c') (.int .i64 D.A) ∧ B4 wr (w.heap.size + 1) (.int .u64 0) (.int .u32 0) (.slice none 0 0) (.int .i64 0) ∧ Below w.heap.size w wr) (fun i _ => 5 - (intOf i).toNat)
  case atStart => exact ⟨0, d, a, cap, _, by omega, rfl, rfl, Src.refl _ _ _, (fun j hj => by omega), HM0, hC3, hC6, hbw5⟩
  case round =>
    clear hC3 hC6 HM0 hbw5
    obtain ⟨b, D, a', c', L, hb5, rfl, HD, HS, HVT, HMQ, hB3, hB6, hbel⟩ := hrel
    obtain ⟨W1, rfl⟩ : ∃ z, z = wr := ⟨wr, rfl⟩
    by_cases hlt : b < 5
    · have hkk := ((bcell hbel).1 _ _ hkb).trans (HK.out b hlt)
      have hkb2 := Nat.lt_of_lt_of_le hkb hbel.size
      have hwd := fun w => width_b b hlt w
      have hfk := HF.out b hlt
      obtain ⟨r0, cg, cf⟩ := HMQ.out.cell b hlt
      have hDO : D.Ok := by rw [HD.out]; exact HOKB.out b (by omega)
      have hDr := HS.out _ (HR.out.below hbel)
      have hwp := wd_pos hlt
      have HVB : Hid (vB d f b = if f b = 0 then 0 else D.numV (V (wd b) (f b))) := by unfold Hid vB; rw [HD.out]
      have HDB : Hid (dB d f (b + 1) = if f b = 0 then D else D.numD (V (wd b) (f b))) := by unfold Hid; rw [dB, HD.out]
      have htv := fun W (h : Below W1.heap.size W1 W) => takeVec_any a' c' D b (f b) hlt hfk W hDO (hDr.below h)
      have HSN : Hid (∀ y : List Int, y.length = wd b → ps y = f b → ix (wd b) (f b) y = vB d f b → VsT d f (fun j => if j < b then L j else y) (b + 1)) := fun y h1 h2 h3 => HVT.out.snoc h1 h2 h3
      have i1 : (0 : Int) ≤ (b : Int) := by omega
      have i2 : (b : Int) < 5 := by omega
      have i3 : IntKind.i64.wrap (b : Int) = b := wraps_i64 _ (by omega) (by omega)
      clear hDr hDO
      by_cases h0 : f b = 0
      · have hv0 : vB d f b = 0 := by rw [HVB.out, if_pos h0]
        have hd0 : dB d f (b + 1) = D := by rw [HDB.out, if_pos h0]
        have HD2 := hid hd0
        have HSN2 := hid (HSN.out (List.replicate (wd b) 0) (by simp) (by rw [h0]; exact ps_zeros _) (by rw [h0, hv0]; exact ix_zeros _))
        rw [h0] at hkk
        clear h0 hv0 hd0 htv HVB HDB HSN hfk
        generalize wd b = n at *
        go_wp2_with (first | (go_at_call 74; refine (hwd _).mono ?_; rintro x w9 ⟨rfl, h9⟩; have h9 := h9.symm; subst h9) | (at_make; refine wpList_make_full _ rfl _ _ 45 rfl W1.heap.size 3 i0 (.int .i64 0) 1 Tryz.underlying45 hi0 hz0 hz1 .i64 .i64 _ _ n rfl rfl (by omega) (by omega) (by rw [hz2]; omega) (by unfold maxLen; omega) (by simp) ?_))
        intro w7 hown7 hgrow7
        have hb7 := grown_of_none hgrow7
        have hM7 := HMQ.out.below Rp.keeps hb7
        obtain ⟨r7, cg7, cf7⟩ := hM7.cell b hlt
        have hB3y := hB3.below hb7
        have hB6y := hB6.below hb7
        have hy7 := bthen hbel hb7 hbel.size
        rw [made_one, ← List.map_replicate] at hown7
        have hrow7 : RwF W1.heap.size .i64 w7 (.slice (some ⟨W1.heap.size, 0, none⟩) n n) (List.replicate n 0) := by
          have := RwF.of_owns (k := .i64) (xs := List.replicate n 0) hown7
          simpa using this
        have HRP : Hid (Rp (fun b => w.heap.size + 1 + 1 ≤ b ∧ b ≠ w.heap.size + 1 + 1) w7 (.slice (some ⟨W1.heap.size, 0, none⟩) n n) (List.replicate n 0)) := Rp.keeps.mono (Rp.ofF hrow7) fun q _ hq => ⟨by have := hB6.z; have := HMQ.out.lt; omega, by have := HMQ.out.lt; omega⟩
        clear hown7 hgrow7 hrow7 cg cf
        go_wp2
        exact ⟨⟨b + 1, D, a', c', _, by omega, by go_num, HD2.out.symm, HS, HSN2, hM7.put Rp.keeps hlt HRP.out, hB3y.other _ _ _ (by omega), hB6y.other _ _ _ (by omega), bset1 hy7 _ _ _ (by omega)⟩, by simp [intOf]; omega⟩
      · have hk0 : ((f b : Int) == 0) = false := by simp; omega
        rw [if_neg h0] at HVB HDB
        have HVB2 : Hid (vB d f b = D.numV (V (wd b) (f b))) := HVB.out
        have HDB2 : Hid (D.numD (V (wd b) (f b)) = dB d f (b + 1)) := HDB.out.symm
        rw [← HVB2.out, HDB2.out] at htv
        unfold TkW at htv
        clear h0 HVB HDB HVB2 HDB2 hfk hwp
        generalize hD2 : dB d f (b + 1) = D2 at *
        have HD2 := hid hD2
        clear hD2
        generalize wd b = n at *
        generalize vB d f b = I at *
        generalize f b = k at *
        have hP : ¬ (w.heap.size + 1 + 1 ≤ w.heap.size) := by omega
        obtain ⟨z3, d0, d1, d2, d3, df0, df1, df2, df3⟩ := id hB3
        go_wp2
        go_region_with (first | (go_at_call 74; refine (hwd _).mono ?_; rintro x w9 ⟨rfl, h9⟩; have h9 := h9.symm; subst h9) | (go_at_call 75; refine (htv _ (Below.refl _ _).drew).mono ?_; rintro xx y1 ⟨a2, c2, g, ys, rfl, hrw, hl, hp, hi, hsr, hb2'⟩; have hb2 := drew_below hb2'; have HL := hid hl; have HP := hid hp; have HI := hid hi; clear hl hp hi; have hB3y := hB3.below hb2; have hB6y := hB6.below hb2; have hMy := HMQ.out.below Rp.keeps hb2; have hy1 := bthen hbel hb2 hbel.size; obtain ⟨y3, e0, e1, e2, e3, ef0, ef1, ef2, ef3⟩ := id hB3y; obtain ⟨ry, cgy, cfy⟩ := hMy.cell b hlt))
        all_goals go_wp2
        all_goals exact ⟨⟨b + 1, D2, a2, c2, _, by omega, by go_num, HD2.out.symm, HS.out.trans hsr, HSN.out ys HL.out HP.out HI.out, (hMy.off4 Rp.keeps _ _ _ _ _ hP).put Rp.keeps hlt (Rp.keeps.mono (Rp.ofF ((((hrw.set _ _ _ hB3.z).set _ _ _ hB3.z).set _ _ _ hB3.z).set _ _ _ hB3.z)) fun q _ hq => ⟨by have := hB6.z; have := HMQ.out.lt; have hq2 : W1.heap.size ≤ q := hq; omega, by have := HMQ.out.lt; have hq2 : W1.heap.size ≤ q := hq; omega⟩), (hB3y.set _ _ _ _).other _ _ _ (by omega), ((((hB6y.other _ _ _ (by omega)).other _ _ _ (by omega)).other _ _ _ (by omega)).other _ _ _ (by omega)).other _ _ _ (by omega), bset1 (bset4 hy1 _ _ _ _ _ (by omega)) _ _ _ (by omega)⟩, by simp [intOf]; omega⟩
    · obtain rfl : b = 5 := by omega
      obtain ⟨z3, d0, d1, d2, d3, df0, df1, df2, df3⟩ := id hB3
      obtain ⟨rz, r0, r1, r2, r3, p0, p1, p2, p3⟩ := id hB6
      have HTK := hid (HVT.out.tk)
      clear hlt HVT HOKB
      go_wp2
      have hD := HD.out
      subst hD
      refine bodyPost_ret (v := .tuple #[.agg #[.int .u64 (dB d f 5).C, .int .u32 (dB d f 5).R, .slice a' (dB d f 5).B.length c', .int .i64 (dB d f 5).A], .slice (some ⟨w.heap.size + 1 + 1, 0, none⟩) 5 5]) (by simp [results, Tryz.results42, go_sem, r0, r1, r2, r3, p0, p1, p2, p3]) rfl ⟨a', c', _, _, rfl, HTK.out, ?_, HS.out, bset4 hbel _ _ _ _ _ (by omega)⟩
      exact Gp.keeps.mono ((HMQ.out.off4 Rp.keeps _ _ _ _ _ (by omega)).all Rp.keeps []) fun q _ hq => by have hq2 : w.heap.size + 1 + 1 ≤ q := hq; omega
end Go.Proofs.YtidppkbphkcmeaaGreat
/- Contract: Read, by the program. -/
namespace Go.Proofs.YtidppkbphkcmeaaGreat
open Go.RowKit
set_option linter.unusedVariables false
set_option linter.unusedSimpArgs false

theorem dF_B (d : De) : (dF d).B = d.B := De.take_B _ _ _ _
theorem dGs_B (intra : Bool) (d : De) (i : Nat) : (dGs intra d i).B = d.B := by
  induction i with
  | zero => rfl
  | succ i ih => rw [dGs, dK_B, ih]
theorem De.open_B (B : List Int) : (De.open B).B = B := rfl
/-- What Read answers where it tells an error. -/
def RdNo (w : World) (x : Ending) (w' : World) (er : Int) : Prop := x = .returned (.tuple #[.agg #[.bool false, .slice none 0 0, .slice none 0 0], .int .i64 er]) ∧ Below w.heap.size w w'

set_option maxRecDepth 10000 in
set_option maxHeartbeats 4000000 in
theorem cread_shape (n c : Int) (ab : Option Addr) (nb cb : Nat) (aa : Option Addr) (na ca : Nat) (w : World) (hno : rtB n c = false) :
    Calls Tryz.prog 13 #[.int .i64 n, .int .i64 c, .slice ab nb cb, .slice aa na ca] w fun x w' => RdNo w x w' 1 := by
  have hW := below1 w (.cells #[.bool false, .slice none 0 0, .slice none 0 0] 25)
  have hB0 := B3.new w (.bool false) (.slice none 0 0) (.slice none 0 0) 25
  obtain ⟨rz, r0, r1, r2, p0, p1, p2⟩ := id hB0
  have hr := fun W => aright_any n c W
  rw [hno] at hr
  unfold RdNo
  clear hno
  go_enter Tryz.func13, Tryz.ntmps13
  go_wp2_with (go_at_call 37; refine (hr _).mono ?_; rintro e w9 ⟨rfl, h9⟩; have h9 := h9.symm; subst h9)
  exact bodyPost_ret (v := .tuple #[.agg #[.bool false, .slice none 0 0, .slice none 0 0], .int .i64 1]) (by simp [results, Tryz.results13, go_sem, r0, r1, r2, p0, p1, p2]) rfl ⟨rfl, hW⟩

set_option maxRecDepth 10000 in
set_option maxHeartbeats 4000000 in
theorem cread_form (n c : Int) (ab : Option Addr) (nb cb : Nat) (aa : Option Addr) (na ca : Nat) (w : World) (hyes : rtB n c = true) (hne : ¬ (nb : Int) = n) :
    Calls Tryz.prog 13 #[.int .i64 n, .int .i64 c, .slice ab nb cb, .slice aa na ca] w fun x w' => RdNo w x w' 2 := by
  have hW := below1 w (.cells #[.bool false, .slice none 0 0, .slice none 0 0] 25)
  have hB0 := B3.new w (.bool false) (.slice none 0 0) (.slice none 0 0) 25
  obtain ⟨rz, r0, r1, r2, p0, p1, p2⟩ := id hB0
  have hr := fun W => aright_any n c W
  rw [hyes] at hr
  have k1 : ((nb : Int) != n) = true := by simp; omega
  unfold RdNo
  clear hyes hne
  go_enter Tryz.func13, Tryz.ntmps13
  go_wp2_with (go_at_call 37; refine (hr _).mono ?_; rintro e w9 ⟨rfl, h9⟩; have h9 := h9.symm; subst h9)
  exact bodyPost_ret (v := .tuple #[.agg #[.bool false, .slice none 0 0, .slice none 0 0], .int .i64 2]) (by simp [results, Tryz.results13, go_sem, r0, r1, r2, p0, p1, p2]) rfl ⟨rfl, hW⟩

set_option maxRecDepth 10000 in
set_option maxHeartbeats 4000000 in
theorem cread_ahead (N : Nat) (c : Int) (ab : Option Addr) (cb : Nat) (B : List Int) (aa : Option Addr) (na ca : Nat) (A : List (List Int)) (w : World) (hyes : rtB N c = true) (hN : B.length = N) (hby : Byts B) (hb : Rw .u8 w (.slice ab B.length cb) B) (hA : A.length = na) (hma : na ≤ 9223372036854775807) (hva : Fr false w (.slice aa na ca) A) (hno : ahB (fI (De.open B)) c A = false) :
    Calls Tryz.prog 13 #[.int .i64 (N : Nat), .int .i64 c, .slice ab N cb, .slice aa na ca] w fun x w' => RdNo w x w' 1 := by
  subst hN
  have hW := below1 w (.cells #[.bool false, .slice none 0 0, .slice none 0 0] 25)
  have hB0 := B3.new w (.bool false) (.slice none 0 0) (.slice none 0 0) 25
  have h60 : B.length ≤ 60 := by have := rt_parts hyes; omega
  have hr := fun W => aright_any B.length c W
  rw [hyes] at hr
  have hop := fun W (h : Below w.heap.size w W) => open_any ab cb B W (hb.below h) hby (by omega)
  have hok : (De.open B).Ok := De.open_ok hby (by omega)
  have htk := fun W (h : Below w.heap.size w W) => takeKind_any ab cb (De.open B) W hok (hb.below h)
  have hah := fun W (h : Below w.heap.size w W) => cahead_any c aa na ca A (fI (De.open B)) W hA hma (hva.below h)
  rw [hno] at hah
  unfold RdNo
  unfold TkD at htk
  unfold decV at hop
  rw [De.open_B] at htk
  rw [De.open_B] at hop
  generalize De.open B = d at *
  generalize dF d = D at *
  generalize fI d = intra at *
  clear hyes hno hok hb hva hA hma hby
  generalize B.length = N at *
  obtain ⟨rz, r0, r1, r2, p0, p1, p2⟩ := id hB0
  go_enter Tryz.func13, Tryz.ntmps13
  go_wp2_with (first | (go_at_call 37; refine (hr _).mono ?_; rintro e w9 ⟨rfl, h9⟩; have h9 := h9.symm; subst h9) | (go_at_call 39; refine (hop _ hW).mono ?_; rintro e w1 ⟨rfl, hb1⟩; have hbw1 := bthen' hW hb1) | (go_at_call 38; refine (htk _ hbw1).mono ?_; rintro e w2 ⟨a2, c2, rfl, hsr, hb2⟩; have hbw2 := bthen' hbw1 hb2) | (go_at_call 18; refine (hah _ (hbw2.alloc hbw2.size _)).mono ?_; rintro e w9 ⟨rfl, h9⟩; have h9 := h9.symm; subst h9; clear rz r0 r1 r2 p0 p1 p2; have hBz := ((hB0.below hb1).below hb2).below (below1 _ (.cells #[.int .u64 D.C, .int .u32 D.R, .slice a2 D.B.length c2, .int .i64 D.A] 75)); obtain ⟨rz, r0, r1, r2, p0, p1, p2⟩ := id hBz))
  exact bodyPost_ret (v := .tuple #[.agg #[.bool false, .slice none 0 0, .slice none 0 0], .int .i64 1]) (by simp [results, Tryz.results13, go_sem, r0, r1, r2, p0, p1, p2]) rfl ⟨rfl, bset3 (hbw2.alloc hbw2.size _) _ _ _ _ (by omega)⟩
end Go.Proofs.YtidppkbphkcmeaaGreat
/- Contract: pulses are told in new lists, by the program. -/
namespace Go.Proofs.YtidppkbphkcmeaaGreat
open Go.RowKit
set_option linter.unusedVariables false
set_option linter.unusedSimpArgs false

theorem Mq.congr {α : Type} {K : (Nat → Prop) → World → Value → α → Prop} {P : Nat → Prop} {ts : TypeId} {w : World} {G c i : Nat} {L L' : Nat → α} (h : Mq K P ts w G c L i) (he : ∀ j, j < i → L j = L' j) : Mq K P ts w G c L' i :=
  ⟨h.cells, h.base, fun j hj => by rw [← he j hj]; exact h.rows j hj⟩
theorem Mq.snoc {α : Type} {K : (Nat → Prop) → World → Value → α → Prop} {P : Nat → Prop} {ts : TypeId} {w : World} {G c i : Nat} {L : Nat → α} (h : Mq K P ts w G c (fun j => if j < i then L j else L i) (i + 1)) : Mq K P ts w G c L (i + 1) :=
  h.congr fun j hj => by
    by_cases e : j < i
    · simp only [if_pos e]
    · obtain rfl : j = i := by omega
      simp only [if_neg e]
set_option maxRecDepth 10000 in
set_option maxHeartbeats 4000000 in
theorem pulses_new {ok : Bool} (n : Int) (c : Nat) (a : Option Addr) (cap : Nat) (L : List (List Int)) (w : World) (hv : Fr ok w (.slice a c cap) L) (h : rtB n c = true) (hf : fairG c L = true) : Calls Tryz.prog 41 #[.int .i64 n, .int .i64 c, .slice a c cap] w fun e w' => ∃ G, e = .returned (.tuple #[.slice (some ⟨G, 0, none⟩) c c, .int .i64 0]) ∧ Gp (fun b => w.heap.size ≤ b) w' (.slice (some ⟨G, 0, none⟩) c c) ((List.range c).map (pul (rmI n c) L)) ∧ Below w.heap.size w w' := by
  obtain ⟨i1, hi1, hy0, hy1, hy2⟩ := info_parts (show (Tryz.prog.info? 45).map (fun i => (i.zero, i.size, i.bytes)) = some (some (.slice none 0 0), 1, 24) by kernel_rfl)
  obtain ⟨hl, hall⟩ := fair_iff.1 hf
  have hl : L.length = c := by omega
  have hr := fun w => aright_any n c w
  have hg := fun w hv => rgains_any (ok := ok) c a c cap L w hl (by rcases rt_parts h with h | h <;> omega) hv
  have hro := fun w => room_any n c w
  rw [h] at hr
  rw [hf] at hg
  have hc12 : 1 ≤ c ∧ c ≤ 2 := by rcases rt_parts h with h | h <;> omega
  obtain ⟨c1, c2⟩ := hc12
  have hrm := rm_bd n c
  have HALL : Hid (∀ i, i < c → gokB (L.getD i []) = true) := fun i hi => hall i (by omega)
  have HP : Hid (∀ i, pul (rmI n c) L i = pls (chan (L.getD i []) (rmI n c))) := fun _ => rfl
  have HV := hid hv
  have hg1 := hg w hv
  generalize pul (rmI n c) L = fr at *
  generalize rmI n c = room at *
  clear h hf hl hall hg
  go_enter Tryz.func41, Tryz.ntmps41
  go_wp2_with (first | (go_at_call 37; refine (hr _).mono ?_; rintro e w9 ⟨rfl, h9⟩; have h9 := h9.symm; subst h9) | (go_at_call 71; refine hg1.mono ?_; rintro e w8 ⟨rfl, h8⟩; have h8 := h8.symm; subst h8) | (at_make; refine wpList_make_full _ rfl _ _ 22 rfl w.heap.size 45 i1 (.slice none 0 0) 1 Tryz.underlying22 hi1 hy0 hy1 .i64 .i64 _ _ c rfl rfl (by omega) (by omega) (by rw [hy2]; omega) (by unfold maxLen; omega) (by simp) ?_))
  intro w5 hown5 hgrow5
  have hb5 := grown_of_none hgrow5
  have HF0 : Hid (Mq Rp (fun b => w.heap.size ≤ b) 45 w5 w.heap.size c fr 0) := Mq.made hown5 (Nat.le_refl _)
  have HB5 := hid hb5
  clear hown5 hgrow5 hb5 hv hg1 hr
  go_wp2
  go_loopw [24] (fun p wr => ∃ i : Nat, i ≤ c ∧ p = .int .i64 i ∧ Hid (Mq Rp (fun b => w.heap.size ≤ b) 45 wr w.heap.size c fr i) ∧ Hid (Below w.heap.size w wr)) (fun p _ => c - (intOf p).toNat)
  case atStart => exact ⟨0, by omega, rfl, HF0, HB5⟩
  case round =>
    obtain ⟨i, hi2, rfl, HFG, HBW⟩ := hrel
    clear HF0 HB5
    by_cases hlt : i < c
    · obtain ⟨b, off, rfl, hb, ra, rc, hc1, _, hrw⟩ := (HV.out.below HBW.out).at i hlt
      have hlen := gok_len (HALL.out i hlt)
      rw [hlen] at hc1 hrw
      have hsp := fun w' (h : Below wr.heap.size wr w') => spend_any ra rc (L.getD i []) room w' (HALL.out i hlt) (hrw.below h) hrm.1 (by omega)
      have HFI : Hid (fr i = pls (chan (L.getD i []) room)) := HP.out i
      have HIC : Hid (i < c) := hlt
      have j1 : (0 : Int) ≤ (i : Int) := by omega
      have j2 : (i : Int) < (c : Int) := by omega
      have j3 : IntKind.i64.wrap (i : Int) = i := wraps_i64 _ (by omega) (by omega)
      rw [← HFI.out] at hsp
      clear hlen hrw
      generalize L.getD i [] = g at *
      go_wp2
      go_region_with (first | (go_at_call 73; refine (hro _).mono ?_; rintro e w9 ⟨rfl, h9⟩; have h9 := h9.symm; subst h9) | (go_at_call 72; refine (hsp _ (by first | exact (Below.refl _ _).drew | exact Below.refl _ _)).mono ?_; rintro e y1 ⟨G, rfl, hG, hB1, e1⟩; have hy1 : Below wr.heap.size wr y1 := (by first | exact drew_below e1 | exact e1); have HFG2 := hid (HFG.out.below Rp.keeps hy1); obtain ⟨r2, hc2, hf2⟩ := HFG2.out.cell i HIC.out; have HB1 := hid hB1; have HY1 := hid hy1; have hG2 : wr.heap.size ≤ G := hG))
      all_goals go_wp2
      all_goals exact ⟨⟨i + 1, by omega, by go_num, (HFG2.out.put (x := fr i) Rp.keeps HIC.out (Rp.of_hl (Hl.of_blk HB1.out) (by rw [HFI.out]; exact pls_len _) ⟨by have e3 := HBW.out.size; omega, by have e3 := HFG.out.lt; omega⟩)).snoc, bset1 (bthen' HBW.out HY1.out) w.heap.size i _ (Nat.le_refl _)⟩, by simp [intOf]; omega⟩
    · obtain rfl : i = c := by omega
      have HR := hid (Mq.all (cc := i) Rp.keeps [] HFG.out)
      clear hlt HFG HV
      go_wp2
      go_ret2
      exact ⟨_, rfl, HR.out, HBW.out⟩
end Go.Proofs.YtidppkbphkcmeaaGreat
/- Contract: Read, by the program, where it reads. -/
namespace Go.Proofs.YtidppkbphkcmeaaGreat
open Go.RowKit
set_option linter.unusedVariables false
set_option linter.unusedSimpArgs false

/-- Two lists that a region makes. -/
theorem make_lists (n : Nat) (hn : n ≤ 2) : ∃ Z : Array Value, Z.size = n ∧ (∀ W : World, (Instr.makeSlice 22 (.int .i64 (n : Int)) (.int .i64 (n : Int))).run Tryz.prog W = .ok (.slice (some ⟨W.heap.size, 0, none⟩) n n) (W.alloc (.cells Z 45))) ∧ (∀ W : World, (Instr.makeSlice 23 (.int .i64 (n : Int)) (.int .i64 (n : Int))).run Tryz.prog W = .ok (.slice (some ⟨W.heap.size, 0, none⟩) n n) (W.alloc (.cells Z 22))) := by
  refine ⟨madeCells #[.slice none 0 0] n, ?_, fun W => ?_, fun W => ?_⟩
  · have h := congrArg List.length (made_one (.slice none 0 0) n)
    simpa using h
  · exact run_make_row' (P := Tryz.prog) 22 45 (.slice none 0 0) 24 Tryz.underlying22 (by kernel_rfl) rfl .i64 .i64 n (by omega) (by omega) W
  · exact run_make_row' (P := Tryz.prog) 23 22 (.slice none 0 0) 24 Tryz.underlying23 (by kernel_rfl) rfl .i64 .i64 n (by omega) (by omega) W
/-- What Read answers where it reads. -/
def RdOk (w : World) (x : Ending) (w' : World) (n : Int) (c : Nat) (d : De) (A : List (List Int)) : Prop := ∃ gG gY Y, x = .returned (.tuple #[.agg #[.bool (fI d), .slice (some ⟨gG, 0, none⟩) c c, .slice (some ⟨gY, 0, none⟩) c c], .int .i64 0]) ∧ Fr false w' (.slice (some ⟨gG, 0, none⟩) c c) (gL (fI d) (dF d) A c) ∧ TkY (dGs (fI d) (dF d) c) (kkG (rmI n c) (gL (fI d) (dF d) A c)) c Y ∧ Fc false w' (.slice (some ⟨gY, 0, none⟩) c c) Y ∧ Below w.heap.size w w'
/-- A pack whose lists are made, not yet filled. -/
def Bgn (W : World) (c : Nat) (intra : Bool) (p : Value) (wz : World) : Prop := ∃ bp gG gY, p = .pointer (some ⟨bp, 0, none⟩) ∧ W.heap.size ≤ bp ∧ W.heap.size ≤ gG ∧ W.heap.size ≤ gY ∧ bp < wz.heap.size ∧ gG ≠ gY ∧ bp ≠ gG ∧ bp ≠ gY ∧ B3 wz bp (.bool intra) (.slice (some ⟨gG, 0, none⟩) c c) (.slice (some ⟨gY, 0, none⟩) c c) ∧ (∃ cur : Array Value, wz.heap[gG]? = some (.cells cur 45 (0, 0)) ∧ cur.size = c) ∧ (∃ cur : Array Value, wz.heap[gY]? = some (.cells cur 22 (0, 0)) ∧ cur.size = c) ∧ Below W.heap.size W wz

theorem three_at (W : World) (o1 o2 o3 : Obj) : (((W.alloc o1).alloc o2).alloc o3).drew.heap[W.heap.size]? = some o1 ∧ (((W.alloc o1).alloc o2).alloc o3).drew.heap[W.heap.size + 1]? = some o2 ∧ (((W.alloc o1).alloc o2).alloc o3).drew.heap[W.heap.size + 1 + 1]? = some o3 := by
  refine ⟨?_, ?_, ?_⟩
  · have h := (below2 (W.alloc o1) o2 o3).block W.heap.size (by simp)
    exact h.trans (heap_alloc_last W o1)
  · have h := (below1 ((W.alloc o1).alloc o2) o3).block (W.heap.size + 1) (by simp)
    have h2 := heap_alloc_last (W.alloc o1) o2
    rw [World.size_alloc] at h2
    exact h.trans h2
  · have h3 := heap_alloc_last ((W.alloc o1).alloc o2) o3
    rw [World.size_alloc, World.size_alloc] at h3
    exact h3
theorem three_below (W : World) (o1 o2 o3 : Obj) : Below W.heap.size W (((W.alloc o1).alloc o2).alloc o3).drew := (below3 W o1 o2 o3).drew
theorem B3.of_block {w : World} {b : Nat} {x0 x1 x2 : Value} {t : TypeId} (h : w.heap[b]? = some (.cells #[x0, x1, x2] t (0, 0))) : B3 w b x0 x1 x2 :=
  ⟨block_in h, by simp [World.cell?, h], by simp [World.cell?, h], by simp [World.cell?, h], by simp [World.frozen?, h], by simp [World.frozen?, h], by simp [World.frozen?, h]⟩
theorem bgn_of {W wz : World} {c bp gG gY : Nat} {intra : Bool} {Z : Array Value} (hp : wz.heap[bp]? = some (.cells #[.bool intra, .slice (some ⟨gG, 0, none⟩) c c, .slice (some ⟨gY, 0, none⟩) c c] 25 (0, 0))) (hG : wz.heap[gG]? = some (.cells Z 45 (0, 0))) (hY : wz.heap[gY]? = some (.cells Z 22 (0, 0))) (hZ : Z.size = c) (h1 : W.heap.size ≤ bp) (h2 : W.heap.size ≤ gG) (h3 : W.heap.size ≤ gY) (hne : gG ≠ gY) (h4 : bp ≠ gG) (h5 : bp ≠ gY) (hb : Below W.heap.size W wz) : Bgn W c intra (.pointer (some ⟨bp, 0, none⟩)) wz :=
  ⟨bp, gG, gY, rfl, h1, h2, h3, block_in hp, hne, h4, h5, B3.of_block hp, ⟨Z, hG, hZ⟩, ⟨Z, hY, hZ⟩, hb⟩

theorem gp_off {P : Nat → Prop} {w : World} {v : Value} {L : List (List Int)} (h : Gp P w v L) (p o : Nat) (y : Value) (hp : ¬ P p) : Gp P (w.setCell ⟨p, o, none⟩ y) v L := Gp.keeps.grown h (grown_cell w p o y) fun b hb e => hp (by have := Option.some.inj e; exact this ▸ hb)
theorem gp_off4 {P : Nat → Prop} {w : World} {v : Value} {L : List (List Int)} (h : Gp P w v L) (p : Nat) (y0 y1 y2 y3 : Value) (hp : ¬ P p) : Gp P ((((w.setCell ⟨p, 0, none⟩ y0).setCell ⟨p, 1, none⟩ y1).setCell ⟨p, 2, none⟩ y2).setCell ⟨p, 3, none⟩ y3) v L := gp_off (gp_off (gp_off (gp_off h p 0 y0 hp) p 1 y1 hp) p 2 y2 hp) p 3 y3 hp

set_option maxRecDepth 10000 in
set_option maxHeartbeats 16000000 in
theorem cread_ok (N c : Nat) (ab : Option Addr) (cb : Nat) (B : List Int) (aa : Option Addr) (na ca : Nat) (A : List (List Int)) (w : World) (hyes : rtB N c = true) (hN : B.length = N) (hby : Byts B) (hb : Rw .u8 w (.slice ab B.length cb) B) (hA : A.length = na) (hma : na ≤ 9223372036854775807) (hva : Fr false w (.slice aa na ca) A) (hahb : ahB (fI (De.open B)) c A = true) :
    Calls Tryz.prog 13 #[.int .i64 (N : Nat), .int .i64 (c : Nat), .slice ab N cb, .slice aa na ca] w fun x w' => RdOk w x w' N c (De.open B) A := by
  subst hN
  have hW := below1 w (.cells #[.bool false, .slice none 0 0, .slice none 0 0] 25)
  have hB0 := B3.new w (.bool false) (.slice none 0 0) (.slice none 0 0) 25
  have h60 : B.length ≤ 60 := by have := rt_parts hyes; omega
  obtain ⟨c1, hc2⟩ : 1 ≤ c ∧ c ≤ 2 := by have := rt_parts hyes; omega
  have hr := fun W => aright_any B.length c W
  rw [hyes] at hr
  have hop := fun W (h : Below w.heap.size w W) => open_any ab cb B W (hb.below h) hby (by omega)
  have hok : (De.open B).Ok := De.open_ok hby (by omega)
  have htk := fun W (h : Below w.heap.size w W) => takeKind_any ab cb (De.open B) W hok (hb.below h)
  have hah := fun W (h : Below w.heap.size w W) => cahead_any c aa na ca A (fI (De.open B)) W hA hma (hva.below h)
  rw [hahb] at hah
  have HAI : Hid (∀ k, k < c → fI (De.open B) = true ∨ k < na) := fun k hk => by
    cases hi : fI (De.open B) with
    | true => exact .inl rfl
    | false =>
      have h1 : fairG c A = true := by unfold ahB at hahb; rw [hi] at hahb; simpa using hahb
      exact .inr (by have := (fair_iff.1 h1).1; omega)
  have HGA : Hid (∀ k, k < c → (fI (De.open B) || gokB (ahd (fI (De.open B)) A k)) = true) := fun k hk => gok_ahd hahb k hk
  unfold RdOk
  unfold TkD at htk
  unfold decV at hop
  have hDok := dF_ok hok
  have HBB : Hid (∀ w1, Below w.heap.size w w1 → Rw .u8 w1 (.slice ab (De.open B).B.length cb) (De.open B).B) := fun w1 h => hb.below h
  rw [De.open_B] at htk
  rw [De.open_B] at hop
  generalize De.open B = d at *
  generalize dF d = D at *
  generalize fI d = intra at *
  have HVA := hid hva
  have HMA := hid hma
  have HRT := hid hyes
  clear hyes hahb hok hb hva hA hma hby
  generalize B.length = N at *
  obtain ⟨rz, r0, r1, r2, p0, p1, p2⟩ := id hB0
  go_enter Tryz.func13, Tryz.ntmps13
  go_upto_region 8 with (first | (go_at_call 37; refine (hr _).mono ?_; rintro e w9 ⟨rfl, h9⟩; have h9 := h9.symm; subst h9) | (go_at_call 39; refine (hop _ hW).mono ?_; rintro e w1 ⟨rfl, hb1⟩; have hbw1 := bthen' hW hb1) | (go_at_call 38; refine (htk _ hbw1).mono ?_; rintro e w2 ⟨a2, c2, rfl, hsr, hb2⟩; have hbw2 := bthen' hbw1 hb2) | (go_at_call 18; refine (hah _ (hbw2.alloc hbw2.size _)).mono ?_; rintro e w9 ⟨rfl, h9⟩; have h9 := h9.symm; subst h9))
  have hBz := ((hB0.below hb1).below hb2).below (below1 _ (.cells #[.int .u64 D.C, .int .u32 D.R, .slice a2 D.B.length c2, .int .i64 D.A] 75))
  have hBd := B4.new w2 (.int .u64 D.C) (.int .u32 D.R) (.slice a2 D.B.length c2) (.int .i64 D.A) 75
  have hbw3 := hbw2.alloc hbw2.size (.cells #[.int .u64 D.C, .int .u32 D.R, .slice a2 D.B.length c2, .int .i64 D.A] 75)
  have hbdl : w.heap.size < w2.heap.size := Nat.lt_of_lt_of_le hB0.z (bthen' hb1 hb2).size
  generalize w2.alloc (.cells #[.int .u64 D.C, .int .u32 D.R, .slice a2 D.B.length c2, .int .i64 D.A] 75) = W8 at *
  generalize w2.heap.size = bd at *
  clear hr hop htk hah hW hB0 hb1 hbw1 hb2 hbw2 rz r0 r1 r2 p0 p1 p2
  go_cut [12] (fun p wz => Bgn W8 c intra p wz)
  case first =>
    obtain ⟨Z, hZ, hm1, hm2⟩ := make_lists c hc2
    have HZ := hid hZ
    clear hZ
    go_region
    all_goals go_wp2
    all_goals go_meet
    all_goals
      apply bgn_of (Z := Z) (hZ := HZ.out) (hb := three_below _ _ _ _)
      case hp => first | exact (three_at _ _ _ _).1 | exact (three_at _ _ _ _).2.1 | exact (three_at _ _ _ _).2.2
      case hG => first | exact (three_at _ _ _ _).1 | exact (three_at _ _ _ _).2.1 | exact (three_at _ _ _ _).2.2
      case hY => first | exact (three_at _ _ _ _).1 | exact (three_at _ _ _ _).2.1 | exact (three_at _ _ _ _).2.2
      all_goals omega
  case rest =>
    obtain ⟨bp, gG, gY, rfl, hp1, hG1, hY1, hpl, hne, hpG, hpY, hBp, hcG, hcY, hbz⟩ := hcut
    obtain ⟨W9, rfl⟩ : ∃ z, z = wc := ⟨wc, rfl⟩
    have hGl : gG < W9.heap.size := by obtain ⟨cur, h, _⟩ := hcG; exact block_in h
    have hYl : gY < W9.heap.size := by obtain ⟨cur, h, _⟩ := hcY; exact block_in h
    obtain ⟨S, hS⟩ : ∃ S, W9.heap.size = S := ⟨_, rfl⟩
    rw [hS] at hpl hGl hYl
    have HMG : Hid (Mq Rp (fun b => b = gG ∨ S ≤ b) 45 W9 gG c (vGs intra D A) 0) := ⟨hcG, .inl rfl, fun j hj => by omega⟩
    have HMY : Hid (Mq Gp (fun b => b = gY ∨ S ≤ b) 22 W9 gY c (fun _ => []) 0) := ⟨hcY, .inl rfl, fun j hj => by omega⟩
    have hBd9 := hBd.below hbz
    have hBz9 := hBz.below hbz
    have hbw9 := bthen hbw3 hbz hbw3.size
    have hS9 : S ≤ W9.heap.size := by omega
    have hdl : bd < W8.heap.size := hBd.z
    have hdS : bd < S := by omega
    have k1 : bd ≠ gG := by omega
    have k2 : bd ≠ gY := by omega
    have k3 : bp ≠ bd := by omega
    have nG1 : ¬ (bd = gG ∨ S ≤ bd) := by omega
    have nG2 : ¬ (gY = gG ∨ S ≤ gY) := by omega
    have nY1 : ¬ (bd = gY ∨ S ≤ bd) := by omega
    have nY2 : ¬ (gG = gY ∨ S ≤ gG) := by omega
    have m1 : w.heap.size ≠ bd := by omega
    have m2 : w.heap.size ≠ gG := by have := hbw3.size; omega
    have m3 : w.heap.size ≠ gY := by have := hbw3.size; omega
    have m4 : w.heap.size ≤ gG := by have := hbw3.size; omega
    have m5 : w.heap.size ≤ gY := by have := hbw3.size; omega
    have m6 : w.heap.size ≤ bd := by omega
    have HD0 : Hid (D = dGs intra D 0) := rfl
    have HSR := hid hsr
    have HDOK : Hid (∀ k, (dGs intra D k).Ok) := fun k => dGs_ok hDok intra k
    clear hBd hBz hbw3 hbz hcG hcY hdl hp1 hG1 hY1 hbdl hsr hS
    obtain ⟨z0, o0, o1, o2, q0, q1, q2⟩ := id hBp
    go_wp2
    clear z0 o0 o1 o2 q0 q1 q2
    go_loopw [48] (fun i wr => ∃ (k : Nat) (E : De) (a' : Option Addr) (c' : Nat), k ≤ c ∧ i = .int .i64 (k : Nat) ∧ Hid (E = dGs intra D k) ∧ Hid (Src ab cb d a' c' E) ∧ Hid (Mq Rp (fun b => b = gG ∨ S ≤ b) 45 wr gG c (vGs intra D A) k) ∧ Hid (Mq Gp (fun b => b = gY ∨ S ≤ b) 22 wr gY c (fun _ => []) 0) ∧ B4 wr bd (.int .u64 E.C) (.int .u32 E.R) (.slice a' E.B.length c') (.int .i64 E.A) ∧ B3 wr bp (.bool intra) (.slice (some ⟨gG, 0, none⟩) c c) (.slice (some ⟨gY, 0, none⟩) c c) ∧ B3 wr w.heap.size (.bool false) (.slice none 0 0) (.slice none 0 0) ∧ Below w.heap.size w wr ∧ S ≤ wr.heap.size) (fun i _ => c - (intOf i).toNat)
    case atStart => exact ⟨0, D, a2, c2, by omega, rfl, HD0, HSR, HMG, HMY, hBd9, hBp, hBz9, hbw9, hS9⟩
    case round =>
      clear hBd9 hBp hBz9 hbw9 hS9 HMG HMY HD0 HSR
      obtain ⟨k, E, a', c', hk, rfl, HE, HS, HMG, HMY, hBd, hBp, hBz, hbel, hSw⟩ := hrel
      obtain ⟨W2, rfl⟩ : ∃ z, z = wr := ⟨wr, rfl⟩
      by_cases hlt : k < c
      · have hao := fun W (h : Below W2.heap.size W2 W) => aheadOf_any k aa na ca A intra W (HVA.out.below (bthen hbel h hbel.size)) (HAI.out k hlt) HMA.out
        have hEO : E.Ok := by rw [HE.out]; exact HDOK.out k
        have hEr := fun W (h : Below W2.heap.size W2 W) => HS.out W (HBB.out W (bthen hbel h hbel.size))
        have htg := fun ra2 rc2 W (hb : Below W2.heap.size W2 W) (h2 : Rw .i64 W (.slice ra2 (ahd intra A k).length rc2) (ahd intra A k)) => takeGains_any a' c' E ra2 rc2 (ahd intra A k) intra W hEO (hEr W hb) h2 (HGA.out k hlt)
        have HV : Hid (vK intra E (ahd intra A k) 5 = vGs intra D A k) := by unfold Hid vGs; rw [vK_ahd, ← HE.out]
        have HDN : Hid (dK intra E 5 = dGs intra D (k + 1)) := by unfold Hid; rw [dGs, ← HE.out]
        rw [HV.out, HDN.out] at htg
        clear hEO hEr HV HDN
        generalize hF : dGs intra D (k + 1) = F at *
        have HF := hid hF
        clear hF
        generalize (ahd intra A k) = y at *
        unfold TkG at htg
        have i1 : (0 : Int) ≤ (k : Int) := by omega
        have i2 : (k : Int) < (c : Int) := by omega
        have i3 : IntKind.i64.wrap (k : Int) = k := wraps_i64 _ (by omega) (by omega)
        obtain ⟨z3, d0, d1, d2, d3, df0, df1, df2, df3⟩ := id hBd
        obtain ⟨z0, o0, o1, o2, q0, q1, q2⟩ := id hBp
        go_wp2
        go_region_with (first | (go_at_call 22; refine (hao _ (Below.refl _ _).drew).mono ?_; rintro xx w9 ⟨⟨ra2, rc2, rfl, hra2⟩, h9⟩; have h9 := h9.symm; subst h9) | (go_at_call 40; refine (htg _ _ _ (Below.refl _ _).drew (hra2 _ (Below.refl _ _))).mono ?_; rintro xx y1 ⟨a2, c2, g, rfl, hrw, hsr, hb2'⟩; have hb2 := drew_below hb2'; have hBdy := hBd.below hb2; have hBpy := hBp.below hb2; have hBzy := hBz.below hb2; have hMGy := HMG.out.below Rp.keeps hb2; have hMYy := HMY.out.below Gp.keeps hb2; have hy1 := bthen hbel hb2 hbel.size; have hsy := hb2.size; have HMGY := hid hMGy; have HMYY := hid hMYy; have HRW := hid hrw; have HSRY := hid hsr; clear hrw hsr; obtain ⟨y3, e0, e1, e2, e3, ef0, ef1, ef2, ef3⟩ := id hBdy; obtain ⟨x10, xo0, xo1, xo2, xof0, xof1, xof2⟩ := id hBpy; obtain ⟨ry, cgy, cfy⟩ := hMGy.cell k hlt; clear hMGy hMYy))
        all_goals go_wp2
        all_goals exact ⟨⟨k + 1, F, a2, c2, by omega, by go_num, HF.out.symm, HS.out.trans HSRY.out, ((HMGY.out.off4 Rp.keeps _ _ _ _ _ nG1).put (x := vGs intra D A k) Rp.keeps hlt (Rp.keeps.mono (Rp.ofF ((((HRW.out.set _ _ _ hBd.z).set _ _ _ hBd.z).set _ _ _ hBd.z).set _ _ _ hBd.z)) fun q _ hq => by have hq2 : W2.heap.size ≤ q := hq; exact ⟨.inr (by omega), by omega⟩)).snoc, (HMYY.out.off4 Gp.keeps _ _ _ _ _ nY1).off Gp.keeps _ _ _ nY2, (hBdy.set _ _ _ _).other _ _ _ k1, ((((hBpy.other _ _ _ k3).other _ _ _ k3).other _ _ _ k3).other _ _ _ k3).other _ _ _ hpG, ((((hBzy.other _ _ _ m1).other _ _ _ m1).other _ _ _ m1).other _ _ _ m1).other _ _ _ m2, bset1 (bset4 hy1 _ _ _ _ _ m6) _ _ _ m4, by simp [World.setCell]; omega⟩, by simp [intOf]; omega⟩
      · obtain rfl : k = c := by omega
        have HGG : Hid (Gp (fun b => b = gG ∨ S ≤ b) W2 (.slice (some ⟨gG, 0, none⟩) k k) (gL intra D A k)) := HMG.out.all Rp.keeps []
        have hpu := pulses_new N k (some ⟨gG, 0, none⟩) k (gL intra D A k) W2 HGG.out.fr HRT.out (gL_fair _ _ _ _)
        have hrm := rm_bd N k
        have HAT : Hid (∀ i, i < k → ((List.range k).map (pul (rmI N k) (gL intra D A k))).getD i [] = pls (kkG (rmI N k) (gL intra D A k) i)) := fun i hi => pul_at _ _ _ i hi
        have HCH : Hid (∀ i b, b < 5 → kkG (rmI N k) (gL intra D A k) i b ≤ 12) := fun i b hb => (chan_ok _ hrm.1).1.le b hb
        generalize hkk : kkG (rmI N k) (gL intra D A k) = kk at *
        generalize (List.range k).map (pul (rmI N k) (gL intra D A k)) = K at *
        have HKK := hid hkk
        clear hkk hrm
        obtain ⟨DG, hDG⟩ : ∃ DG, dGs intra D k = DG := ⟨_, rfl⟩
        have HDG := hid hDG
        have HDGO : Hid DG.Ok := by unfold Hid; rw [← hDG]; exact HDOK.out k
        have HE2 : Hid (E = dC DG kk 0) := by unfold Hid; rw [← hDG]; exact HE.out
        clear hlt HE HDOK HAI HGA HVA HMG hDG HRT
        obtain ⟨z0, o0, o1, o2, q0, q1, q2⟩ := id hBp
        have HBW := hid hbel
        have HMY0 := hid HMY.out
        go_wp2_with (go_at_call 41; refine hpu.mono ?_; rintro x w3 ⟨gK, rfl, hgk, hb3⟩; have hBp3 := hBp.below hb3; have hBd3 := hBd.below hb3; have hBz3 := hBz.below hb3; have hbel3 := bthen' HBW.out hb3; have hS3 := hb3.size; have HGK := hid hgk; have HMY3 := hid (HMY.out.below Gp.keeps hb3); have HGG3 := hid (Gp.keeps.below HGG.out hb3); clear hgk; clear z0 o0 o1 o2 q0 q1 q2; obtain ⟨z0, o0, o1, o2, q0, q1, q2⟩ := id hBp3)
        clear z0 o0 o1 o2 q0 q1 q2 hBp hBd hBz hbel HMY HMY0 HGG hpu HBW
        have hS4 : S ≤ w3.heap.size := by omega
        obtain ⟨T, hT⟩ : ∃ T, W2.heap.size = T := ⟨_, rfl⟩
        rw [hT] at hSw hS3 HGK
        clear hb3 hT
        go_loopw [77] (fun i wr => ∃ (j : Nat) (E : De) (a' : Option Addr) (c' : Nat) (L : Nat → List (List Int)), j ≤ k ∧ i = .int .i64 (j : Nat) ∧ Hid (E = dC DG kk j) ∧ Hid (Src ab cb d a' c' E) ∧ Hid (∀ q, q < j → TkV (dC DG kk q) (kk q) (L q)) ∧ Hid (Gp (fun b => b = gG ∨ S ≤ b) wr (.slice (some ⟨gG, 0, none⟩) k k) (gL intra D A k)) ∧ Hid (Gp (fun b => T ≤ b) wr (.slice (some ⟨gK, 0, none⟩) k k) K) ∧ Hid (Mq Gp (fun b => b = gY ∨ S ≤ b) 22 wr gY k L j) ∧ B4 wr bd (.int .u64 E.C) (.int .u32 E.R) (.slice a' E.B.length c') (.int .i64 E.A) ∧ B3 wr bp (.bool intra) (.slice (some ⟨gG, 0, none⟩) k k) (.slice (some ⟨gY, 0, none⟩) k k) ∧ B3 wr w.heap.size (.bool false) (.slice none 0 0) (.slice none 0 0) ∧ Below w.heap.size w wr ∧ S ≤ wr.heap.size) (fun i _ => k - (intOf i).toNat)
        case atStart => exact ⟨0, E, a', c', _, by omega, rfl, HE2, HS, (fun q hq => by omega), HGG3, HGK, HMY3, hBd3, hBp3, hBz3, hbel3, hS4⟩
        case round =>
          clear hBd3 hBp3 hBz3 hbel3 HGG3 HGK HMY3 hS4 hS3 HE2 HS
          obtain ⟨j, E, a', c', L, hj, rfl, HE, HS, HTK, HGG, HGK, HMY, hBd, hBp, hBz, hbel, hSw2⟩ := hrel
          obtain ⟨W3, rfl⟩ : ∃ z, z = wr := ⟨wr, rfl⟩
          by_cases hlt : j < k
          · obtain ⟨kb, ko, kr, hko, hkb, kc1, hkr⟩ := Lp.at HGK.out j hlt
            simp only [Option.some.injEq, Addr.mk.injEq, and_true] at hko
            obtain ⟨rfl, rfl⟩ := hko
            rw [HAT.out j hlt] at hkr
            have hkr2 := hkr.rw
            obtain ⟨ka, kc, hkv, _⟩ := id hkr2
            rw [pls_len] at hkv
            subst hkv
            rw [Nat.zero_add] at kc1
            have hEO : E.Ok := by rw [HE.out]; exact dC_ok HDGO.out HCH.out j
            have hEr := fun W (h : Below W3.heap.size W3 W) => HS.out W (HBB.out W (bthen hbel h hbel.size))
            have htv := fun W (hb : Below W3.heap.size W3 W) => takeVecs_any a' c' E ka kc (kk j) W hEO (hEr W hb) (hkr2.below hb) (HCH.out j)
            have HDN : Hid (dB E (kk j) 5 = dC DG kk (j + 1)) := by unfold Hid; rw [dC, ← HE.out]
            have HTE : Hid (∀ l, TkV E (kk j) l → TkV (dC DG kk j) (kk j) l) := fun l h => by rw [← HE.out]; exact h
            rw [HDN.out] at htv
            clear hEO hEr HDN hkr hkr2
            generalize hF : dC DG kk (j + 1) = F at *
            have HF := hid hF
            clear hF
            unfold TkVs at htv
            have HTN : Hid (∀ l, TkV (dC DG kk j) (kk j) l → ∀ q, q < j + 1 → TkV (dC DG kk q) (kk q) ((fun z => if z < j then L z else l) q)) := fun l hl q hq => by
              by_cases e : q < j
              · simp only [if_pos e]; exact HTK.out q e
              · obtain rfl : q = j := by omega
                simp only [if_neg e]; exact hl
            generalize kk j = f at *
            have i1 : (0 : Int) ≤ (j : Int) := by omega
            have i2 : (j : Int) < (k : Int) := by omega
            have i3 : IntKind.i64.wrap (j : Int) = j := wraps_i64 _ (by omega) (by omega)
            obtain ⟨z3, d0, d1, d2, d3, df0, df1, df2, df3⟩ := id hBd
            obtain ⟨z0, o0, o1, o2, q0, q1, q2⟩ := id hBp
            have nT1 : ¬ (T ≤ bd) := by omega
            have nT2 : ¬ (T ≤ gY) := by omega
            go_wp2
            go_region_with (go_at_call 42; refine (htv _ (Below.refl _ _).drew).mono ?_; rintro xx y1 ⟨a2, c2, g, l, rfl, htk, hgp, hsr, hb2'⟩; have hb2 := drew_below hb2'; have hBdy := hBd.below hb2; have hBpy := hBp.below hb2; have hBzy := hBz.below hb2; have hMYy := HMY.out.below Gp.keeps hb2; have HGG2 := hid (Gp.keeps.below HGG.out hb2); have HGK2 := hid (Gp.keeps.below HGK.out hb2); have hy1 := bthen hbel hb2 hbel.size; have hsy := hb2.size; have HMYY := hid hMYy; have HGP := hid hgp; have HSRY := hid hsr; have HTKL := hid htk; clear hgp hsr htk; obtain ⟨y3, e0, e1, e2, e3, ef0, ef1, ef2, ef3⟩ := id hBdy; obtain ⟨x10, xo0, xo1, xo2, xof0, xof1, xof2⟩ := id hBpy; obtain ⟨ry, cgy, cfy⟩ := hMYy.cell j hlt; clear hMYy)
            all_goals go_wp2
            all_goals exact ⟨⟨j + 1, F, a2, c2, _, by omega, by go_num, HF.out.symm, HS.out.trans HSRY.out, HTN.out l (HTE.out l HTKL.out), gp_off (gp_off4 HGG2.out _ _ _ _ _ nG1) _ _ _ nG2, gp_off (gp_off4 HGK2.out _ _ _ _ _ nT1) _ _ _ nT2, (HMYY.out.off4 Gp.keeps _ _ _ _ _ nY1).put (x := l) Gp.keeps hlt (Gp.keeps.mono (gp_off4 HGP.out _ _ _ _ _ (by have := hBd.z; show ¬ (W3.heap.size ≤ bd); omega)) fun q _ hq => by have hq2 : W3.heap.size ≤ q := hq; exact ⟨.inr (by omega), by omega⟩), (hBdy.set _ _ _ _).other _ _ _ k2, ((((hBpy.other _ _ _ k3).other _ _ _ k3).other _ _ _ k3).other _ _ _ k3).other _ _ _ hpY, ((((hBzy.other _ _ _ m1).other _ _ _ m1).other _ _ _ m1).other _ _ _ m1).other _ _ _ m3, bset1 (bset4 hy1 _ _ _ _ _ m6) _ _ _ m5, by simp [World.setCell]; omega⟩, by simp [intOf]; omega⟩
          · obtain rfl : j = k := by omega
            obtain ⟨z0, o0, o1, o2, q0, q1, q2⟩ := id hBp
            obtain ⟨rz, r0, r1, r2, p0, p1, p2⟩ := id hBz
            have HTY : Hid (TkY DG kk j ((List.range j).map L)) := ⟨by simp, fun i hi => by rw [show ((List.range j).map L).getD i [] = L i by simp [List.getD_eq_getElem?_getD, hi]]; exact HTK.out i hi⟩
            clear hlt HTK
            go_wp2
            refine bodyPost_ret (v := .tuple #[.agg #[.bool intra, .slice (some ⟨gG, 0, none⟩) j j, .slice (some ⟨gY, 0, none⟩) j j], .int .i64 0]) (by simp [results, Tryz.results13, go_sem, r0, r1, r2, p0, p1, p2]) rfl ⟨gG, gY, _, rfl, ?_, by rw [HDG.out, HKK.out]; exact HTY.out, ?_, bset3 hbel _ _ _ _ (Nat.le_refl _)⟩
            · exact Gp.fr (gp_off (gp_off (gp_off HGG.out _ _ _ (by omega)) _ _ _ (by omega)) _ _ _ (by omega))
            · exact Cp.fc ((((HMY.out.off Gp.keeps _ _ _ (by omega)).off Gp.keeps _ _ _ (by omega)).off Gp.keeps _ _ _ (by omega)).all Gp.keeps [])
end Go.Proofs.YtidppkbphkcmeaaGreat
