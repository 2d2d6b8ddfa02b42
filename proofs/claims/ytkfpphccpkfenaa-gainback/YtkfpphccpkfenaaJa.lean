/- Gains, plain: which lists are gains, the choices as which gains are put, room for them, what is taken of them, and that it comes back. Nothing of the program is imported by this text itself. -/
import Derived.Test.YtkfpphccpkfenaaDe
namespace Go.Proofs.Ytkfpphccpkfenaa
open Go.RowKit
set_option linter.unusedVariables false
set_option linter.unusedSimpArgs false

/-- Is the list one of gains? -/
def gokB (x : List Int) : Bool := decide (x.length = 5) && (List.range 5).all fun j => decide (0 ≤ x.getD j 0 ∧ x.getD j 0 ≤ 44)
theorem gok_iff (x : List Int) : gokB x = true ↔ x.length = 5 ∧ ∀ j, j < 5 → 0 ≤ x.getD j 0 ∧ x.getD j 0 ≤ 44 := by
  unfold gokB
  rw [Bool.and_eq_true, decide_eq_true_eq, List.all_eq_true]
  constructor
  · exact fun h => ⟨h.1, fun j hj => of_decide_eq_true (h.2 j (List.mem_range.2 hj))⟩
  · exact fun h => ⟨h.1, fun j hj => decide_eq_true (h.2 j (List.mem_range.1 hj))⟩
theorem gok_len {x : List Int} (h : gokB x = true) : x.length = 5 := ((gok_iff x).1 h).1
theorem gok_bd {x : List Int} (h : gokB x = true) (j : Nat) (hj : j < 5) : 0 ≤ x.getD j 0 ∧ x.getD j 0 ≤ 44 := ((gok_iff x).1 h).2 j hj
theorem gok_at {x : List Int} (h : gokB x = true) (j : Nat) (hj : j < 5) : ∃ G : Nat, x.getD j 0 = (G : Int) ∧ G ≤ 44 := by
  have := gok_bd h j hj
  exact ⟨(x.getD j 0).toNat, by omega, by omega⟩
theorem gok_of {x : List Int} (hl : x.length = 5) (h : ∀ j, j < 5 → 0 ≤ x.getD j 0 ∧ x.getD j 0 ≤ 44) : gokB x = true := (gok_iff x).2 ⟨hl, h⟩

/-! ### The choices -/
/-- The choices of one gain, by itself or against the one ahead. -/
def chG (intra : Bool) (G A : Nat) : List (Nat × Nat × Nat) :=
  if intra = true then [(G, G + 1, 45)] else if A ≤ G + 3 ∧ G ≤ A + 3 then [(G + 3 - A, G + 3 - A + 1, 8)] else [(7, 8, 8), (G, G + 1, 45)]
theorem fair_one {v n : Nat} (h : v < n) (hn : n ≤ 65536) : Fair v (v + 1) n := ⟨by omega, by omega, hn⟩
theorem fairs_one {v n : Nat} (h : v < n) (hn : n ≤ 65536) : Fairs [(v, v + 1, n)] := fun c hc => by
  simp at hc; subst hc; exact fair_one h hn
theorem fairs_nil : Fairs [] := fun c hc => by cases hc
theorem chG_fair (intra : Bool) {G : Nat} (A : Nat) (h : G ≤ 44) : Fairs (chG intra G A) := by
  unfold chG
  split
  · exact fairs_one (by omega) (by decide)
  · split
    · exact fairs_one (by omega) (by decide)
    · exact Fairs.append (l := [(7, 7 + 1, 8)]) (fairs_one (by decide) (by decide)) (fairs_one (v := G) (n := 45) (by omega) (by decide))
/-- The choices of the first k gains. -/
def chK (intra : Bool) (x y : List Int) (k : Nat) : List (Nat × Nat × Nat) := (List.range k).flatMap fun i => chG intra (x.getD i 0).toNat (y.getD i 0).toNat
theorem chK_zero (intra : Bool) (x y : List Int) : chK intra x y 0 = [] := rfl
theorem chK_succ (intra : Bool) (x y : List Int) (k : Nat) : chK intra x y (k + 1) = chK intra x y k ++ chG intra (x.getD k 0).toNat (y.getD k 0).toNat := by
  simp [chK, List.range_succ]
theorem chK_more (intra : Bool) (x y : List Int) (k d : Nat) : ∃ m, chK intra x y (k + d) = chK intra x y k ++ m := by
  induction d with
  | zero => exact ⟨[], by simp⟩
  | succ d ih =>
    obtain ⟨m, hm⟩ := ih
    exact ⟨m ++ chG intra (x.getD (k + d) 0).toNat (y.getD (k + d) 0).toNat, by rw [← Nat.add_assoc, chK_succ, hm, List.append_assoc]⟩
theorem chK_fair (intra : Bool) {x : List Int} (y : List Int) (h : gokB x = true) (k : Nat) (hk : k ≤ 5) : Fairs (chK intra x y k) := by
  induction k with
  | zero => exact fairs_nil
  | succ k ih =>
    rw [chK_succ]
    have := gok_bd h k (by omega)
    exact Fairs.append (ih (by omega)) (chG_fair _ _ (by omega))

/-! ### Room -/
/-- Is there room for these choices? -/
def rm : En → List (Nat × Nat × Nat) → Bool
  | _, [] => true
  | e, c :: l => decide (e.m < 3996) && rm (e.put c.1 c.2.1 c.2.2) l
theorem rm_append (e : En) (l m : List (Nat × Nat × Nat)) : rm e (l ++ m) = (rm e l && rm (puts e l) m) := by
  induction l generalizing e with
  | nil => simp [rm, puts]
  | cons c l ih => simp [rm, puts, ih, Bool.and_assoc]
theorem puts_ok {e : En} (h : e.Ok) {l : List (Nat × Nat × Nat)} (hl : Fairs l) (hr : rm e l = true) : (puts e l).Ok := by
  induction l generalizing e with
  | nil => exact h
  | cons c l ih =>
    simp only [rm, Bool.and_eq_true, decide_eq_true_eq] at hr
    exact ih (En.put_ok h hl.cons.1 hr.1) hl.cons.2 hr.2
theorem rm_one (e : En) (c : Nat × Nat × Nat) : rm e [c] = decide (e.m < 3996) := by simp [rm]
theorem rm_two (e : En) (c c' : Nat × Nat × Nat) : rm e [c, c'] = (rm e [c] && rm (puts e [c]) [c']) := rm_append e [c] [c']
/-- What a put answers of these choices. -/
def rmF (e : En) (l : List (Nat × Nat × Nat)) : Int := if rm e l = true then 0 else 3
theorem put_one {e : En} {lo hi tot : Nat} (hf : Fair lo hi tot) : putF e lo hi tot = rmF e [(lo, hi, tot)] ∧ (rm e [(lo, hi, tot)] = true → putE e lo hi tot = puts e [(lo, hi, tot)]) := by
  unfold putF putE rmF
  rw [rm_one]
  have hb := fair_nat hf
  rw [hb]
  simp only [if_true, true_and, decide_eq_true_eq]
  intro h
  rw [if_pos h]
  rfl
theorem num_one {e : En} {v n : Nat} (h : v < n) (hn : n ≤ 65536) : putNF e v n = rmF e [(v, v + 1, n)] ∧ (rm e [(v, v + 1, n)] = true → putNE e v n = puts e [(v, v + 1, n)]) := by
  have hp := put_one (e := e) (fair_one h hn)
  have hb : ¬ (n = 0 ∨ 4294967296 < n ∨ n ≤ v) := by omega
  unfold putNF putNE
  rw [if_neg hb, if_neg hb, if_pos hn, if_pos hn]
  exact hp

/-- May these be put? -/
def gpB (x y : List Int) (intra : Bool) : Bool := gokB x && (intra || gokB y)
def gpE (e : En) (x y : List Int) (intra : Bool) : En := if gpB x y intra = true ∧ rm e (chK intra x y 5) = true then puts e (chK intra x y 5) else e
def gpF (e : En) (x y : List Int) (intra : Bool) : Int := if gpB x y intra = true then rmF e (chK intra x y 5) else 1
theorem gp_arg {e : En} {x y : List Int} {intra : Bool} (h : gpB x y intra = false) : gpE e x y intra = e ∧ gpF e x y intra = 1 := by
  unfold gpE gpF; rw [h]; simp
theorem gp_full {e : En} {x y : List Int} {intra : Bool} (h : gpB x y intra = true) (hr : rm e (chK intra x y 5) = false) : gpE e x y intra = e ∧ gpF e x y intra = 3 := by
  unfold gpE gpF rmF; rw [h, hr]; simp
theorem gp_ok {e : En} {x y : List Int} {intra : Bool} (h : gpB x y intra = true) (hr : rm e (chK intra x y 5) = true) : gpE e x y intra = puts e (chK intra x y 5) ∧ gpF e x y intra = 0 := by
  unfold gpE gpF rmF; rw [h, hr]; simp
theorem gpE_ok {e : En} (he : e.Ok) (x y : List Int) (intra : Bool) : (gpE e x y intra).Ok := by
  unfold gpE
  split
  · rename_i h
    have hx : gokB x = true := by have := h.1; unfold gpB at this; simp at this; exact this.1
    exact puts_ok he (chK_fair _ _ hx 5 (Nat.le_refl _)) h.2
  · exact he
/-- A choice has no room: so have all of them. -/
theorem rm_stop {e : En} {x y : List Int} {intra : Bool} {k : Nat} (hk : k < 5) (h : rm e (chK intra x y (k + 1)) = false) : rm e (chK intra x y 5) = false := by
  obtain ⟨m, hm⟩ := chK_more intra x y (k + 1) (4 - k)
  rw [show k + 1 + (4 - k) = 5 by omega] at hm
  rw [hm, rm_append, h]; rfl
theorem gp_cases (e : En) (x y : List Int) (intra : Bool) : (gpB x y intra = true ∧ gpE e x y intra = puts e (chK intra x y 5) ∧ gpF e x y intra = 0) ∨ (gpE e x y intra = e ∧ (gpF e x y intra == 0) = false) := by
  cases hb : gpB x y intra
  · obtain ⟨h1, h2⟩ := gp_arg (e := e) hb
    exact .inr ⟨h1, by rw [h2]; rfl⟩
  · cases hr : rm e (chK intra x y 5)
    · obtain ⟨h1, h2⟩ := gp_full hb hr
      exact .inr ⟨h1, by rw [h2]; rfl⟩
    · obtain ⟨h1, h2⟩ := gp_ok hb hr
      exact .inl ⟨rfl, h1, h2⟩

/-! ### What is taken -/
def vG (intra : Bool) (d : De) (A : Int) : Int := if intra = true then (d.numV 45 : Int) else if d.numV 8 = 7 then ((d.numD 8).numV 45 : Int) else clampI (A + (d.numV 8 : Int) - 3) 0 44
def dG (intra : Bool) (d : De) : De := if intra = true then d.numD 45 else if d.numV 8 = 7 then (d.numD 8).numD 45 else d.numD 8
def dK (intra : Bool) (d : De) : Nat → De
  | 0 => d
  | k + 1 => dG intra (dK intra d k)
def vK (intra : Bool) (d : De) (y : List Int) (k : Nat) : List Int := tab k fun i => vG intra (dK intra d i) (y.getD i 0)
theorem dG_ok {d : De} (h : d.Ok) (intra : Bool) : (dG intra d).Ok := by
  unfold dG
  split
  · exact h.numD (by decide) (by decide)
  · split
    · exact (h.numD (by decide) (by decide)).numD (by decide) (by decide)
    · exact h.numD (by decide) (by decide)
theorem dK_ok {d : De} (h : d.Ok) (intra : Bool) (k : Nat) : (dK intra d k).Ok := by
  induction k with
  | zero => exact h
  | succ k ih => exact dG_ok ih intra
theorem dG_B (d : De) (intra : Bool) : (dG intra d).B = d.B := by
  unfold dG
  split
  · exact De.numD_B _ _
  · split
    · rw [De.numD_B, De.numD_B]
    · exact De.numD_B _ _
theorem dK_B (d : De) (intra : Bool) (k : Nat) : (dK intra d k).B = d.B := by
  induction k with
  | zero => rfl
  | succ k ih => exact (dG_B _ _).trans ih
theorem numV_small (d : De) {n : Nat} (h : n ≤ 65536) : d.numV n = d.get n := by unfold De.numV; rw [if_pos h]
theorem numD_small (d : De) {n : Nat} (h : n ≤ 65536) : d.numD n = d.take (d.get n) (d.get n + 1) n := by unfold De.numD; rw [if_pos h]
theorem numV_lt (d : De) {n : Nat} (h0 : 1 ≤ n) (h : n ≤ 65536) : d.numV n < n := by rw [numV_small d h]; exact De.get_lt _ _ h0
theorem clampI_bd (v : Int) : 0 ≤ clampI v 0 44 ∧ clampI v 0 44 ≤ 44 := by unfold clampI; split <;> (try split) <;> omega
theorem vG_bd (intra : Bool) (d : De) (A : Int) : 0 ≤ vG intra d A ∧ vG intra d A ≤ 44 := by
  unfold vG
  split
  · have := numV_lt d (n := 45) (by decide) (by decide); omega
  · split
    · have := numV_lt (d.numD 8) (n := 45) (by decide) (by decide); omega
    · exact clampI_bd _
theorem vK_len (intra : Bool) (d : De) (y : List Int) (k : Nat) : (vK intra d y k).length = k := tab_len _ _
theorem vK_gok (intra : Bool) (d : De) (y : List Int) : gokB (vK intra d y 5) = true :=
  gok_of (vK_len _ _ _ _) fun j hj => by unfold vK; rw [tab_at _ _ _ hj]; exact vG_bd _ _ _

/-! ### It comes back -/
theorem chs_small (v : Nat) {n : Nat} (h : n ≤ 65536) : chs v n = [(v, v + 1, n)] := by unfold chs; rw [if_pos h]
theorem Track.gain {V M : Nat} {e : En} {d : De} (h : Track V M e d) (hg : e.Good) (intra : Bool) {G A : Nat} (hG : G ≤ 44) (hA : A ≤ 44) (hw : Within V M (puts e (chG intra G A))) : vG intra d A = G ∧ Track V M (puts e (chG intra G A)) (dG intra d) := by
  have n45 : NumOk G 45 := ⟨by decide, by decide, by omega⟩
  have n7 : NumOk 7 8 := ⟨by decide, by decide, by decide⟩
  have c45 := chs_small G (n := 45) (by decide)
  have c7 : chs 7 8 = [(7, 8, 8)] := chs_small 7 (n := 8) (by decide)
  unfold vG dG
  cases intra
  · by_cases hn : A ≤ G + 3 ∧ G ≤ A + 3
    · have hc : chG false G A = chs (G + 3 - A) 8 := by
        rw [chs_small _ (by decide)]; unfold chG; rw [if_neg (by decide), if_pos hn]
      have nn : NumOk (G + 3 - A) 8 := ⟨by decide, by decide, by omega⟩
      rw [hc] at hw ⊢
      obtain ⟨h1, h2⟩ := h.num hg nn hw
      rw [h1, if_neg (by decide), if_neg (by omega), if_neg (by decide), if_neg (by omega)]
      refine ⟨?_, h2⟩
      unfold clampI
      rw [if_neg (by omega), if_neg (by omega)]
      omega
    · have hc : chG false G A = chs 7 8 ++ chs G 45 := by
        rw [c45, c7]; unfold chG; rw [if_neg (by decide), if_neg hn]; rfl
      rw [hc, puts_append] at hw ⊢
      have g1 : (puts e (chs 7 8)).Good := hg.puts (chs_fair n7)
      have w1 : Within V M (puts e (chs 7 8)) := Within.puts g1 (chs_fair n45) hw
      obtain ⟨h1, h2⟩ := h.num hg n7 w1
      obtain ⟨h3, h4⟩ := h2.num g1 n45 hw
      rw [h1, if_neg (by decide), if_pos rfl, if_neg (by decide), if_pos rfl, h3]
      exact ⟨rfl, h4⟩
  · have hc : chG true G A = chs G 45 := by rw [c45]; unfold chG; rw [if_pos rfl]
    rw [hc] at hw ⊢
    obtain ⟨h1, h2⟩ := h.num hg n45 hw
    rw [h1, if_pos rfl, if_pos rfl]
    exact ⟨rfl, h2⟩
theorem Track.gains {V M : Nat} {e : En} {d : De} (h : Track V M e d) (hg : e.Good) (intra : Bool) {x y : List Int} (hx : gokB x = true) (hy : gokB y = true) (hw : Within V M (puts e (chK intra x y 5))) : vK intra d y 5 = x ∧ Track V M (puts e (chK intra x y 5)) (dK intra d 5) := by
  have key : ∀ k, k ≤ 5 → (∀ i, i < k → vG intra (dK intra d i) (y.getD i 0) = x.getD i 0) ∧ Track V M (puts e (chK intra x y k)) (dK intra d k) := by
    intro k
    induction k with
    | zero => exact fun _ => ⟨fun i hi => by omega, h⟩
    | succ k ih =>
      intro hk
      obtain ⟨i1, i2⟩ := ih (by omega)
      obtain ⟨G, hG, hG4⟩ := gok_at hx k (by omega)
      obtain ⟨A, hA, hA4⟩ := gok_at hy k (by omega)
      obtain ⟨m, hm⟩ := chK_more intra x y (k + 1) (4 - k)
      rw [show k + 1 + (4 - k) = 5 by omega] at hm
      have hfm : Fairs m := fun c hc => chK_fair intra y hx 5 (Nat.le_refl _) c (by rw [hm]; simp [hc])
      have hw2 : Within V M (puts e (chK intra x y (k + 1))) := by
        rw [hm, puts_append] at hw
        exact Within.puts (hg.puts (chK_fair intra y hx (k + 1) hk)) hfm hw
      rw [chK_succ, hG, hA, puts_append] at hw2 ⊢
      obtain ⟨v1, v2⟩ := i2.gain (hg.puts (chK_fair intra y hx k (by omega))) intra hG4 hA4 hw2
      refine ⟨fun i hi => ?_, v2⟩
      by_cases hik : i < k
      · exact i1 i hik
      · obtain rfl : i = k := by omega
        rw [hA, hG]; exact v1
  obtain ⟨k1, k2⟩ := key 5 (Nat.le_refl _)
  refine ⟨?_, k2⟩
  have := tab_eq (gok_len hx) (f := fun i => x.getD i 0) (fun i _ => rfl)
  rw [this]
  exact tab_congr k1

/-! ### Frame by frame -/
/-- The gains of the last one of these frames; of none: a. -/
def lastG (a : List Int) : List (List Int × Bool) → List Int
  | [] => a
  | f :: K => lastG f.1 K
/-- The choices of these frames, each against the one ahead. -/
def frC (a : List Int) : List (List Int × Bool) → List (Nat × Nat × Nat)
  | [] => []
  | f :: K => chK f.2 f.1 a 5 ++ frC f.1 K
theorem lastG_snoc (a : List Int) (K : List (List Int × Bool)) (f : (List Int × Bool)) : lastG a (K ++ [f]) = f.1 := by
  induction K generalizing a with
  | nil => rfl
  | cons g K ih => exact ih g.1
theorem frC_snoc (a : List Int) (K : List (List Int × Bool)) (f : (List Int × Bool)) : frC a (K ++ [f]) = frC a K ++ chK f.2 f.1 (lastG a K) 5 := by
  induction K generalizing a with
  | nil => simp [frC, lastG]
  | cons g K ih =>
    show chK g.2 g.1 a 5 ++ frC g.1 (K ++ [f]) = (chK g.2 g.1 a 5 ++ frC g.1 K) ++ chK f.2 f.1 (lastG g.1 K) 5
    rw [ih, List.append_assoc]
def FmsOk (K : List (List Int × Bool)) : Prop := ∀ f ∈ K, gokB f.1 = true
theorem FmsOk.snoc {K : List (List Int × Bool)} {f : (List Int × Bool)} (h : FmsOk K) (hf : gokB f.1 = true) : FmsOk (K ++ [f]) := fun g hg => by
  rcases List.mem_append.1 hg with hg | hg
  · exact h g hg
  · simp at hg; subst hg; exact hf
theorem FmsOk.cons {g : (List Int × Bool)} {K : List (List Int × Bool)} (h : FmsOk (g :: K)) : gokB g.1 = true ∧ FmsOk K := ⟨h g (by simp), fun x hx => h x (by simp [hx])⟩
theorem lastG_ok {a : List Int} (ha : gokB a = true) {K : List (List Int × Bool)} (h : FmsOk K) : gokB (lastG a K) = true := by
  induction K generalizing a with
  | nil => exact ha
  | cons g K ih => exact ih h.cons.1 h.cons.2
theorem frC_fair (a : List Int) {K : List (List Int × Bool)} (h : FmsOk K) : Fairs (frC a K) := by
  induction K generalizing a with
  | nil => exact fairs_nil
  | cons g K ih => exact Fairs.append (chK_fair _ _ h.cons.1 5 (Nat.le_refl _)) (ih _ h.cons.2)
theorem frC_append (a : List Int) (K L : List (List Int × Bool)) : frC a (K ++ L) = frC a K ++ frC (lastG a K) L := by
  induction K generalizing a with
  | nil => rfl
  | cons g K ih =>
    show chK g.2 g.1 a 5 ++ frC g.1 (K ++ L) = (chK g.2 g.1 a 5 ++ frC g.1 K) ++ frC (lastG g.1 K) L
    rw [ih, List.append_assoc]
theorem fm_take {K : List (List Int × Bool)} {q : Nat} (hq : q < K.length) (f0 : (List Int × Bool)) : K.take (q + 1) = K.take q ++ [K.getD q f0] := by
  rw [List.take_add_one]; simp [hq]
def Fm0 : (List Int × Bool) := ([], false)
/-- The frame at a place is taken as it was put. -/
theorem Track.frame {z : List Int} (hz : gokB z = true) {K : List (List Int × Bool)} (hK : FmsOk K) {q : Nat} (hq : q < K.length) {d : De} (h : Track (puts En.new (frC z K)).N (puts En.new (frC z K)).m (puts En.new (frC z (K.take q))) d) :
    vK (K.getD q Fm0).2 d (lastG z (K.take q)) 5 = (K.getD q Fm0).1 ∧ Track (puts En.new (frC z K)).N (puts En.new (frC z K)).m (puts En.new (frC z (K.take (q + 1)))) (dK (K.getD q Fm0).2 d 5) := by
  have hmem : K.getD q Fm0 ∈ K := by simp [List.getD, hq]
  have hx := hK _ hmem
  have hKt : FmsOk (K.take q) := fun f hf => hK f (List.mem_of_mem_take hf)
  have hKt1 : FmsOk (K.take (q + 1)) := fun f hf => hK f (List.mem_of_mem_take hf)
  have hKd : FmsOk (K.drop (q + 1)) := fun f hf => hK f (List.mem_of_mem_drop hf)
  have hy := lastG_ok hz hKt
  have e1 := fm_take hq Fm0
  have hall : frC z K = frC z (K.take (q + 1)) ++ frC (lastG z (K.take (q + 1))) (K.drop (q + 1)) := by
    rw [← frC_append, List.take_append_drop]
  have gfull : (puts En.new (frC z K)).Good := En.new_good.puts (frC_fair z hK)
  have hw : Within (puts En.new (frC z K)).N (puts En.new (frC z K)).m (puts En.new (frC z (K.take (q + 1)))) := by
    have hs := Within.self gfull
    have : puts En.new (frC z K) = puts (puts En.new (frC z (K.take (q + 1)))) (frC (lastG z (K.take (q + 1))) (K.drop (q + 1))) := by rw [← puts_append, ← hall]
    refine Within.puts (En.new_good.puts (frC_fair z hKt1)) (frC_fair (lastG z (K.take (q + 1))) hKd) ?_
    rw [← this]; exact hs
  rw [e1, frC_snoc, puts_append] at hw ⊢
  exact h.gains (En.new_good.puts (frC_fair z hKt)) _ hx hy hw

/-! ### How long -/
theorem wb45 : wb 45 = 6 := by decide
theorem wb8 : wb 8 = 3 := by decide
def mostB (intra : Bool) : Nat := if intra = true then 30 else 45
theorem chG_sum (intra : Bool) (G A : Nat) : sumB (chG intra G A) ≤ (if intra = true then 6 else 9) ∧ (chG intra G A).length ≤ 2 := by
  unfold chG
  cases intra
  · simp only [Bool.false_eq_true, if_false]
    split <;> simp [sumB, wb45, wb8]
  · simp [sumB, wb45]
theorem chK_sum (intra : Bool) (x y : List Int) (k : Nat) : sumB (chK intra x y k) ≤ k * (if intra = true then 6 else 9) ∧ (chK intra x y k).length ≤ 2 * k := by
  induction k with
  | zero => simp [chK_zero, sumB]
  | succ k ih =>
    rw [chK_succ, sumB_append, List.length_append]
    have h2 := chG_sum intra (x.getD k 0).toNat (y.getD k 0).toNat
    refine ⟨?_, by omega⟩
    rw [Nat.succ_mul]
    omega
def mostL : List (List Int × Bool) → Nat
  | [] => 0
  | f :: K => mostB f.2 + mostL K
theorem mostL_snoc (K : List (List Int × Bool)) (f : (List Int × Bool)) : mostL (K ++ [f]) = mostL K + mostB f.2 := by
  induction K with
  | nil => simp [mostL]
  | cons g K ih => simp [mostL, ih]; omega
theorem frC_sum (a : List Int) (K : List (List Int × Bool)) : sumB (frC a K) ≤ mostL K ∧ (frC a K).length ≤ 10 * K.length := by
  induction K generalizing a with
  | nil => simp [frC, sumB]
  | cons g K ih =>
    show sumB (chK g.2 g.1 a 5 ++ frC g.1 K) ≤ mostB g.2 + mostL K ∧ (chK g.2 g.1 a 5 ++ frC g.1 K).length ≤ 10 * (K.length + 1)
    rw [sumB_append, List.length_append]
    have h1 := chK_sum g.2 g.1 a 5
    have h2 := ih g.1
    have h3 : 5 * (if g.2 = true then 6 else 9) = mostB g.2 := by unfold mostB; split <;> rfl
    omega
theorem short_frames (z : List Int) {K : List (List Int × Bool)} (hK : FmsOk K) (hl : K.length ≤ 20) : 8 * (puts En.new (frC z K)).m ≤ mostL K + 3 := by
  have h1 := short_enough (frC_fair z hK)
  have h2 := frC_sum z K
  omega
end Go.Proofs.Ytkfpphccpkfenaa
