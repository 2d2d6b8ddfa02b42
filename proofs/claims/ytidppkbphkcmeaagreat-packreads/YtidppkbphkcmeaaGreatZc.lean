/- Gains, plain: which lists are gains, the choices as which gains are put, room for them, what is taken of them, and that it comes back. Nothing of the program is imported by this text itself. -/
import Derived.Test.YtidppkbphkcmeaaGreatZb
import Derived.Deep.QuietTactic
import Derived.Deep.RegionWith
import Derived.Deep.CutRange
import Derived.Deep.DeepCutAuto
namespace Go.Proofs.YtidppkbphkcmeaaGreat
open Go.RowKit
set_option linter.unusedVariables false
set_option linter.unusedSimpArgs false

/-- Is the list one of gains? -/
def gokB (x : List Int) : Bool := decide (x.length = 5) && (List.range 5).all fun j => decide (0 ≤ x.getD j 0 ∧ x.getD j 0 ≤ 44)
theorem gok_iff (x : List Int) : gokB x = true ↔ x.length = 5 ∧ ∀ j, j < 5 → 0 ≤ x.getD j 0 ∧ x.getD j 0 ≤ 44 := by
  unfold gokB
  rw [Bool.and_eq_true, decide_eq_true_eq, List.all_eq_true]
  constructor
  · exact fun h => ⟨h.1, fun j hj => of_decide_eq_true (h.2 j (List.mem_range.2 hj))⟩
  · exact fun h => ⟨h.1, fun j hj => decide_eq_true (h.2 j (List.mem_range.1 hj))⟩
theorem gok_len {x : List Int} (h : gokB x = true) : x.length = 5 := ((gok_iff x).1 h).1
theorem gok_bd {x : List Int} (h : gokB x = true) (j : Nat) (hj : j < 5) : 0 ≤ x.getD j 0 ∧ x.getD j 0 ≤ 44 := ((gok_iff x).1 h).2 j hj
theorem gok_at {x : List Int} (h : gokB x = true) (j : Nat) (hj : j < 5) : ∃ G : Nat, x.getD j 0 = (G : Int) ∧ G ≤ 44 := by
  have := gok_bd h j hj
  exact ⟨(x.getD j 0).toNat, by omega, by omega⟩
theorem gok_of {x : List Int} (hl : x.length = 5) (h : ∀ j, j < 5 → 0 ≤ x.getD j 0 ∧ x.getD j 0 ≤ 44) : gokB x = true := (gok_iff x).2 ⟨hl, h⟩

/-! ### The choices -/
/-- The choices of one gain, by itself or against the one ahead. -/
def chG (intra : Bool) (G A : Nat) : List (Nat × Nat × Nat) :=
  if intra = true then [(G, G + 1, 45)] else if A ≤ G + 3 ∧ G ≤ A + 3 then [(G + 3 - A, G + 3 - A + 1, 8)] else [(7, 8, 8), (G, G + 1, 45)]
theorem fair_one {v n : Nat} (h : v < n) (hn : n ≤ 65536) : Fair v (v + 1) n := ⟨by omega, by omega, hn⟩
theorem fairs_one {v n : Nat} (h : v < n) (hn : n ≤ 65536) : Fairs [(v, v + 1, n)] := fun c hc => by
  simp at hc; subst hc; exact fair_one h hn
theorem fairs_nil : Fairs [] := fun c hc => by cases hc
theorem chG_fair (intra : Bool) {G : Nat} (A : Nat) (h : G ≤ 44) : Fairs (chG intra G A) := by
  unfold chG
  split
  · exact fairs_one (by omega) (by decide)
  · split
    · exact fairs_one (by omega) (by decide)
    · exact Fairs.append (l := [(7, 7 + 1, 8)]) (fairs_one (by decide) (by decide)) (fairs_one (v := G) (n := 45) (by omega) (by decide))
/-- The choices of the first k gains. -/
def chK (intra : Bool) (x y : List Int) (k : Nat) : List (Nat × Nat × Nat) := (List.range k).flatMap fun i => chG intra (x.getD i 0).toNat (y.getD i 0).toNat
theorem chK_zero (intra : Bool) (x y : List Int) : chK intra x y 0 = [] := rfl
theorem chK_succ (intra : Bool) (x y : List Int) (k : Nat) : chK intra x y (k + 1) = chK intra x y k ++ chG intra (x.getD k 0).toNat (y.getD k 0).toNat := by
  simp [chK, List.range_succ]
theorem chK_more (intra : Bool) (x y : List Int) (k d : Nat) : ∃ m, chK intra x y (k + d) = chK intra x y k ++ m := by
  induction d with
  | zero => exact ⟨[], by simp⟩
  | succ d ih =>
    obtain ⟨m, hm⟩ := ih
    exact ⟨m ++ chG intra (x.getD (k + d) 0).toNat (y.getD (k + d) 0).toNat, by rw [← Nat.add_assoc, chK_succ, hm, List.append_assoc]⟩
theorem chK_fair (intra : Bool) {x : List Int} (y : List Int) (h : gokB x = true) (k : Nat) (hk : k ≤ 5) : Fairs (chK intra x y k) := by
  induction k with
  | zero => exact fairs_nil
  | succ k ih =>
    rw [chK_succ]
    have := gok_bd h k (by omega)
    exact Fairs.append (ih (by omega)) (chG_fair _ _ (by omega))

/-! ### Room -/
/-- Is there room for these choices? -/
def rm : En → List (Nat × Nat × Nat) → Bool
  | _, [] => true
  | e, c :: l => decide (e.m < 3996) && rm (e.put c.1 c.2.1 c.2.2) l
theorem rm_append (e : En) (l m : List (Nat × Nat × Nat)) : rm e (l ++ m) = (rm e l && rm (puts e l) m) := by
  induction l generalizing e with
  | nil => simp [rm, puts]
  | cons c l ih => simp [rm, puts, ih, Bool.and_assoc]
theorem puts_ok {e : En} (h : e.Ok) {l : List (Nat × Nat × Nat)} (hl : Fairs l) (hr : rm e l = true) : (puts e l).Ok := by
  induction l generalizing e with
  | nil => exact h
  | cons c l ih =>
    simp only [rm, Bool.and_eq_true, decide_eq_true_eq] at hr
    exact ih (En.put_ok h hl.cons.1 hr.1) hl.cons.2 hr.2
theorem rm_one (e : En) (c : Nat × Nat × Nat) : rm e [c] = decide (e.m < 3996) := by simp [rm]
theorem rm_two (e : En) (c c' : Nat × Nat × Nat) : rm e [c, c'] = (rm e [c] && rm (puts e [c]) [c']) := rm_append e [c] [c']
/-- What a put answers of these choices. -/
def rmF (e : En) (l : List (Nat × Nat × Nat)) : Int := if rm e l = true then 0 else 3
theorem put_one {e : En} {lo hi tot : Nat} (hf : Fair lo hi tot) : putF e lo hi tot = rmF e [(lo, hi, tot)] ∧ (rm e [(lo, hi, tot)] = true → putE e lo hi tot = puts e [(lo, hi, tot)]) := by
  unfold putF putE rmF
  rw [rm_one]
  have hb := fair_nat hf
  rw [hb]
  simp only [if_true, true_and, decide_eq_true_eq]
  intro h
  rw [if_pos h]
  rfl
theorem num_one {e : En} {v n : Nat} (h : v < n) (hn : n ≤ 65536) : putNF e v n = rmF e [(v, v + 1, n)] ∧ (rm e [(v, v + 1, n)] = true → putNE e v n = puts e [(v, v + 1, n)]) := by
  have hp := put_one (e := e) (fair_one h hn)
  have hb : ¬ (n = 0 ∨ 4294967296 < n ∨ n ≤ v) := by omega
  unfold putNF putNE
  rw [if_neg hb, if_neg hb, if_pos hn, if_pos hn]
  exact hp

/-- May these be put? -/
def gpB (x y : List Int) (intra : Bool) : Bool := gokB x && (intra || gokB y)
def gpE (e : En) (x y : List Int) (intra : Bool) : En := if gpB x y intra = true ∧ rm e (chK intra x y 5) = true then puts e (chK intra x y 5) else e
def gpF (e : En) (x y : List Int) (intra : Bool) : Int := if gpB x y intra = true then rmF e (chK intra x y 5) else 1
theorem gp_arg {e : En} {x y : List Int} {intra : Bool} (h : gpB x y intra = false) : gpE e x y intra = e ∧ gpF e x y intra = 1 := by
  unfold gpE gpF; rw [h]; simp
theorem gp_full {e : En} {x y : List Int} {intra : Bool} (h : gpB x y intra = true) (hr : rm e (chK intra x y 5) = false) : gpE e x y intra = e ∧ gpF e x y intra = 3 := by
  unfold gpE gpF rmF; rw [h, hr]; simp
theorem gp_ok {e : En} {x y : List Int} {intra : Bool} (h : gpB x y intra = true) (hr : rm e (chK intra x y 5) = true) : gpE e x y intra = puts e (chK intra x y 5) ∧ gpF e x y intra = 0 := by
  unfold gpE gpF rmF; rw [h, hr]; simp
theorem gpE_ok {e : En} (he : e.Ok) (x y : List Int) (intra : Bool) : (gpE e x y intra).Ok := by
  unfold gpE
  split
  · rename_i h
    have hx : gokB x = true := by have := h.1; unfold gpB at this; simp at this; exact this.1
    exact puts_ok he (chK_fair _ _ hx 5 (Nat.le_refl _)) h.2
  · exact he
/-- A choice has no room: so have all of them. -/
theorem rm_stop {e : En} {x y : List Int} {intra : Bool} {k : Nat} (hk : k < 5) (h : rm e (chK intra x y (k + 1)) = false) : rm e (chK intra x y 5) = false := by
  obtain ⟨m, hm⟩ := chK_more intra x y (k + 1) (4 - k)
  rw [show k + 1 + (4 - k) = 5 by omega] at hm
  rw [hm, rm_append, h]; rfl
theorem gp_cases (e : En) (x y : List Int) (intra : Bool) : (gpB x y intra = true ∧ gpE e x y intra = puts e (chK intra x y 5) ∧ gpF e x y intra = 0) ∨ (gpE e x y intra = e ∧ (gpF e x y intra == 0) = false) := by
  cases hb : gpB x y intra
  · obtain ⟨h1, h2⟩ := gp_arg (e := e) hb
    exact .inr ⟨h1, by rw [h2]; rfl⟩
  · cases hr : rm e (chK intra x y 5)
    · obtain ⟨h1, h2⟩ := gp_full hb hr
      exact .inr ⟨h1, by rw [h2]; rfl⟩
    · obtain ⟨h1, h2⟩ := gp_ok hb hr
      exact .inl ⟨rfl, h1, h2⟩

/-! ### What is taken -/
def vG (intra : Bool) (d : De) (A : Int) : Int := if intra = true then (d.numV 45 : Int) else if d.numV 8 = 7 then ((d.numD 8).numV 45 : Int) else clampI (A + (d.numV 8 : Int) - 3) 0 44
def dG (intra : Bool) (d : De) : De := if intra = true then d.numD 45 else if d.numV 8 = 7 then (d.numD 8).numD 45 else d.numD 8
def dK (intra : Bool) (d : De) : Nat → De
  | 0 => d
  | k + 1 => dG intra (dK intra d k)
def vK (intra : Bool) (d : De) (y : List Int) (k : Nat) : List Int := tab k fun i => vG intra (dK intra d i) (y.getD i 0)
theorem dG_ok {d : De} (h : d.Ok) (intra : Bool) : (dG intra d).Ok := by
  unfold dG
  split
  · exact h.numD (by decide) (by decide)
  · split
    · exact (h.numD (by decide) (by decide)).numD (by decide) (by decide)
    · exact h.numD (by decide) (by decide)
theorem dK_ok {d : De} (h : d.Ok) (intra : Bool) (k : Nat) : (dK intra d k).Ok := by
  induction k with
  | zero => exact h
  | succ k ih => exact dG_ok ih intra
theorem dG_B (d : De) (intra : Bool) : (dG intra d).B = d.B := by
  unfold dG
  split
  · exact De.numD_B _ _
  · split
    · rw [De.numD_B, De.numD_B]
    · exact De.numD_B _ _
theorem dK_B (d : De) (intra : Bool) (k : Nat) : (dK intra d k).B = d.B := by
  induction k with
  | zero => rfl
  | succ k ih => exact (dG_B _ _).trans ih
theorem numV_small (d : De) {n : Nat} (h : n ≤ 65536) : d.numV n = d.get n := by unfold De.numV; rw [if_pos h]
theorem numD_small (d : De) {n : Nat} (h : n ≤ 65536) : d.numD n = d.take (d.get n) (d.get n + 1) n := by unfold De.numD; rw [if_pos h]
theorem numV_lt (d : De) {n : Nat} (h0 : 1 ≤ n) (h : n ≤ 65536) : d.numV n < n := by rw [numV_small d h]; exact De.get_lt _ _ h0
theorem clampI_bd (v : Int) : 0 ≤ clampI v 0 44 ∧ clampI v 0 44 ≤ 44 := by unfold clampI; split <;> (try split) <;> omega
theorem vG_bd (intra : Bool) (d : De) (A : Int) : 0 ≤ vG intra d A ∧ vG intra d A ≤ 44 := by
  unfold vG
  split
  · have := numV_lt d (n := 45) (by decide) (by decide); omega
  · split
    · have := numV_lt (d.numD 8) (n := 45) (by decide) (by decide); omega
    · exact clampI_bd _
theorem vK_len (intra : Bool) (d : De) (y : List Int) (k : Nat) : (vK intra d y k).length = k := tab_len _ _
theorem vK_gok (intra : Bool) (d : De) (y : List Int) : gokB (vK intra d y 5) = true :=
  gok_of (vK_len _ _ _ _) fun j hj => by unfold vK; rw [tab_at _ _ _ hj]; exact vG_bd _ _ _

/-! ### It comes back -/
theorem chs_small (v : Nat) {n : Nat} (h : n ≤ 65536) : chs v n = [(v, v + 1, n)] := by unfold chs; rw [if_pos h]
theorem Track.gain {V M : Nat} {e : En} {d : De} (h : Track V M e d) (hg : e.Good) (intra : Bool) {G A : Nat} (hG : G ≤ 44) (hA : A ≤ 44) (hw : Within V M (puts e (chG intra G A))) : vG intra d A = G ∧ Track V M (puts e (chG intra G A)) (dG intra d) := by
  have n45 : NumOk G 45 := ⟨by decide, by decide, by omega⟩
  have n7 : NumOk 7 8 := ⟨by decide, by decide, by decide⟩
  have c45 := chs_small G (n := 45) (by decide)
  have c7 : chs 7 8 = [(7, 8, 8)] := chs_small 7 (n := 8) (by decide)
  unfold vG dG
  cases intra
  · by_cases hn : A ≤ G + 3 ∧ G ≤ A + 3
    · have hc : chG false G A = chs (G + 3 - A) 8 := by
        rw [chs_small _ (by decide)]; unfold chG; rw [if_neg (by decide), if_pos hn]
      have nn : NumOk (G + 3 - A) 8 := ⟨by decide, by decide, by omega⟩
      rw [hc] at hw ⊢
      obtain ⟨h1, h2⟩ := h.num hg nn hw
      rw [h1, if_neg (by decide), if_neg (by omega), if_neg (by decide), if_neg (by omega)]
      refine ⟨?_, h2⟩
      unfold clampI
      rw [if_neg (by omega), if_neg (by omega)]
      omega
    · have hc : chG false G A = chs 7 8 ++ chs G 45 := by
        rw [c45, c7]; unfold chG; rw [if_neg (by decide), if_neg hn]; rfl
      rw [hc, puts_append] at hw ⊢
      have g1 : (puts e (chs 7 8)).Good := hg.puts (chs_fair n7)
      have w1 : Within V M (puts e (chs 7 8)) := Within.puts g1 (chs_fair n45) hw
      obtain ⟨h1, h2⟩ := h.num hg n7 w1
      obtain ⟨h3, h4⟩ := h2.num g1 n45 hw
      rw [h1, if_neg (by decide), if_pos rfl, if_neg (by decide), if_pos rfl, h3]
      exact ⟨rfl, h4⟩
  · have hc : chG true G A = chs G 45 := by rw [c45]; unfold chG; rw [if_pos rfl]
    rw [hc] at hw ⊢
    obtain ⟨h1, h2⟩ := h.num hg n45 hw
    rw [h1, if_pos rfl, if_pos rfl]
    exact ⟨rfl, h2⟩
theorem Track.gains {V M : Nat} {e : En} {d : De} (h : Track V M e d) (hg : e.Good) (intra : Bool) {x y : List Int} (hx : gokB x = true) (hy : gokB y = true) (hw : Within V M (puts e (chK intra x y 5))) : vK intra d y 5 = x ∧ Track V M (puts e (chK intra x y 5)) (dK intra d 5) := by
  have key : ∀ k, k ≤ 5 → (∀ i, i < k → vG intra (dK intra d i) (y.getD i 0) = x.getD i 0) ∧ Track V M (puts e (chK intra x y k)) (dK intra d k) := by
    intro k
    induction k with
    | zero => exact fun _ => ⟨fun i hi => by omega, h⟩
    | succ k ih =>
      intro hk
      obtain ⟨i1, i2⟩ := ih (by omega)
      obtain ⟨G, hG, hG4⟩ := gok_at hx k (by omega)
      obtain ⟨A, hA, hA4⟩ := gok_at hy k (by omega)
      obtain ⟨m, hm⟩ := chK_more intra x y (k + 1) (4 - k)
      rw [show k + 1 + (4 - k) = 5 by omega] at hm
      have hfm : Fairs m := fun c hc => chK_fair intra y hx 5 (Nat.le_refl _) c (by rw [hm]; simp [hc])
      have hw2 : Within V M (puts e (chK intra x y (k + 1))) := by
        rw [hm, puts_append] at hw
        exact Within.puts (hg.puts (chK_fair intra y hx (k + 1) hk)) hfm hw
      rw [chK_succ, hG, hA, puts_append] at hw2 ⊢
      obtain ⟨v1, v2⟩ := i2.gain (hg.puts (chK_fair intra y hx k (by omega))) intra hG4 hA4 hw2
      refine ⟨fun i hi => ?_, v2⟩
      by_cases hik : i < k
      · exact i1 i hik
      · obtain rfl : i = k := by omega
        rw [hA, hG]; exact v1
  obtain ⟨k1, k2⟩ := key 5 (Nat.le_refl _)
  refine ⟨?_, k2⟩
  have := tab_eq (gok_len hx) (f := fun i => x.getD i 0) (fun i _ => rfl)
  rw [this]
  exact tab_congr k1

/-! ### Frame by frame -/
/-- The gains of the last one of these frames; of none: a. -/
def lastG (a : List Int) : List (List Int × Bool) → List Int
  | [] => a
  | f :: K => lastG f.1 K
/-- The choices of these frames, each against the one ahead. -/
def frC (a : List Int) : List (List Int × Bool) → List (Nat × Nat × Nat)
  | [] => []
  | f :: K => chK f.2 f.1 a 5 ++ frC f.1 K
theorem lastG_snoc (a : List Int) (K : List (List Int × Bool)) (f : (List Int × Bool)) : lastG a (K ++ [f]) = f.1 := by
  induction K generalizing a with
  | nil => rfl
  | cons g K ih => exact ih g.1
theorem frC_snoc (a : List Int) (K : List (List Int × Bool)) (f : (List Int × Bool)) : frC a (K ++ [f]) = frC a K ++ chK f.2 f.1 (lastG a K) 5 := by
  induction K generalizing a with
  | nil => simp [frC, lastG]
  | cons g K ih =>
    show chK g.2 g.1 a 5 ++ frC g.1 (K ++ [f]) = (chK g.2 g.1 a 5 ++ frC g.1 K) ++ chK f.2 f.1 (lastG g.1 K) 5
    rw [ih, List.append_assoc]
def FmsOk (K : List (List Int × Bool)) : Prop := ∀ f ∈ K, gokB f.1 = true
theorem FmsOk.snoc {K : List (List Int × Bool)} {f : (List Int × Bool)} (h : FmsOk K) (hf : gokB f.1 = true) : FmsOk (K ++ [f]) := fun g hg => by
  rcases List.mem_append.1 hg with hg | hg
  · exact h g hg
  · simp at hg; subst hg; exact hf
theorem FmsOk.cons {g : (List Int × Bool)} {K : List (List Int × Bool)} (h : FmsOk (g :: K)) : gokB g.1 = true ∧ FmsOk K := ⟨h g (by simp), fun x hx => h x (by simp [hx])⟩
theorem lastG_ok {a : List Int} (ha : gokB a = true) {K : List (List Int × Bool)} (h : FmsOk K) : gokB (lastG a K) = true := by
  induction K generalizing a with
  | nil => exact ha
  | cons g K ih => exact ih h.cons.1 h.cons.2
theorem frC_fair (a : List Int) {K : List (List Int × Bool)} (h : FmsOk K) : Fairs (frC a K) := by
  induction K generalizing a with
  | nil => exact fairs_nil
  | cons g K ih => exact Fairs.append (chK_fair _ _ h.cons.1 5 (Nat.le_refl _)) (ih _ h.cons.2)
theorem frC_append (a : List Int) (K L : List (List Int × Bool)) : frC a (K ++ L) = frC a K ++ frC (lastG a K) L := by
  induction K generalizing a with
  | nil => rfl
  | cons g K ih =>
    show chK g.2 g.1 a 5 ++ frC g.1 (K ++ L) = (chK g.2 g.1 a 5 ++ frC g.1 K) ++ frC (lastG g.1 K) L
    rw [ih, List.append_assoc]
theorem fm_take {K : List (List Int × Bool)} {q : Nat} (hq : q < K.length) (f0 : (List Int × Bool)) : K.take (q + 1) = K.take q ++ [K.getD q f0] := by
  rw [List.take_add_one]; simp [hq]
def Fm0 : (List Int × Bool) := ([], false)
/-- The frame at a place is taken as it was put. -/
theorem Track.frame {z : List Int} (hz : gokB z = true) {K : List (List Int × Bool)} (hK : FmsOk K) {q : Nat} (hq : q < K.length) {d : De} (h : Track (puts En.new (frC z K)).N (puts En.new (frC z K)).m (puts En.new (frC z (K.take q))) d) :
    vK (K.getD q Fm0).2 d (lastG z (K.take q)) 5 = (K.getD q Fm0).1 ∧ Track (puts En.new (frC z K)).N (puts En.new (frC z K)).m (puts En.new (frC z (K.take (q + 1)))) (dK (K.getD q Fm0).2 d 5) := by
  have hmem : K.getD q Fm0 ∈ K := by simp [List.getD, hq]
  have hx := hK _ hmem
  have hKt : FmsOk (K.take q) := fun f hf => hK f (List.mem_of_mem_take hf)
  have hKt1 : FmsOk (K.take (q + 1)) := fun f hf => hK f (List.mem_of_mem_take hf)
  have hKd : FmsOk (K.drop (q + 1)) := fun f hf => hK f (List.mem_of_mem_drop hf)
  have hy := lastG_ok hz hKt
  have e1 := fm_take hq Fm0
  have hall : frC z K = frC z (K.take (q + 1)) ++ frC (lastG z (K.take (q + 1))) (K.drop (q + 1)) := by
    rw [← frC_append, List.take_append_drop]
  have gfull : (puts En.new (frC z K)).Good := En.new_good.puts (frC_fair z hK)
  have hw : Within (puts En.new (frC z K)).N (puts En.new (frC z K)).m (puts En.new (frC z (K.take (q + 1)))) := by
    have hs := Within.self gfull
    have : puts En.new (frC z K) = puts (puts En.new (frC z (K.take (q + 1)))) (frC (lastG z (K.take (q + 1))) (K.drop (q + 1))) := by rw [← puts_append, ← hall]
    refine Within.puts (En.new_good.puts (frC_fair z hKt1)) (frC_fair (lastG z (K.take (q + 1))) hKd) ?_
    rw [← this]; exact hs
  rw [e1, frC_snoc, puts_append] at hw ⊢
  exact h.gains (En.new_good.puts (frC_fair z hKt)) _ hx hy hw

/-! ### How long -/
theorem wb45 : wb 45 = 6 := by decide
theorem wb8 : wb 8 = 3 := by decide
def mostB (intra : Bool) : Nat := if intra = true then 30 else 45
theorem chG_sum (intra : Bool) (G A : Nat) : sumB (chG intra G A) ≤ (if intra = true then 6 else 9) ∧ (chG intra G A).length ≤ 2 := by
  unfold chG
  cases intra
  · simp only [Bool.false_eq_true, if_false]
    split <;> simp [sumB, wb45, wb8]
  · simp [sumB, wb45]
theorem chK_sum (intra : Bool) (x y : List Int) (k : Nat) : sumB (chK intra x y k) ≤ k * (if intra = true then 6 else 9) ∧ (chK intra x y k).length ≤ 2 * k := by
  induction k with
  | zero => simp [chK_zero, sumB]
  | succ k ih =>
    rw [chK_succ, sumB_append, List.length_append]
    have h2 := chG_sum intra (x.getD k 0).toNat (y.getD k 0).toNat
    refine ⟨?_, by omega⟩
    rw [Nat.succ_mul]
    omega
def mostL : List (List Int × Bool) → Nat
  | [] => 0
  | f :: K => mostB f.2 + mostL K
theorem mostL_snoc (K : List (List Int × Bool)) (f : (List Int × Bool)) : mostL (K ++ [f]) = mostL K + mostB f.2 := by
  induction K with
  | nil => simp [mostL]
  | cons g K ih => simp [mostL, ih]; omega
theorem frC_sum (a : List Int) (K : List (List Int × Bool)) : sumB (frC a K) ≤ mostL K ∧ (frC a K).length ≤ 10 * K.length := by
  induction K generalizing a with
  | nil => simp [frC, sumB]
  | cons g K ih =>
    show sumB (chK g.2 g.1 a 5 ++ frC g.1 K) ≤ mostB g.2 + mostL K ∧ (chK g.2 g.1 a 5 ++ frC g.1 K).length ≤ 10 * (K.length + 1)
    rw [sumB_append, List.length_append]
    have h1 := chK_sum g.2 g.1 a 5
    have h2 := ih g.1
    have h3 : 5 * (if g.2 = true then 6 else 9) = mostB g.2 := by unfold mostB; split <;> rfl
    omega
theorem short_frames (z : List Int) {K : List (List Int × Bool)} (hK : FmsOk K) (hl : K.length ≤ 20) : 8 * (puts En.new (frC z K)).m ≤ mostL K + 3 := by
  have h1 := short_enough (frC_fair z hK)
  have h2 := frC_sum z K
  omega
end Go.Proofs.YtidppkbphkcmeaaGreat
/- Contracts of both Rights, of rightAhead; more than are looked at. -/
namespace Go.Proofs.YtidppkbphkcmeaaGreat
open Go.RowKit
set_option linter.unusedVariables false
set_option linter.unusedSimpArgs false

theorem gok_no_len {x : List Int} (h : x.length ≠ 5) : gokB x = false := by
  cases hb : gokB x
  · rfl
  · exact absurd (gok_len hb) h
theorem gok_no_at {x : List Int} {k : Nat} (hk : k < 5) (h : x.getD k 0 < 0 ∨ 44 < x.getD k 0) : gokB x = false := by
  cases hb : gokB x
  · rfl
  · have := gok_bd hb k hk; omega

theorem right_any (a : Option Addr) (n cap : Nat) (x : List Int) (hn : n = x.length) (w : World) (hv : Rw .i64 w (.slice a n cap) x) : Calls Tryz.prog 51 #[.slice a n cap] w fun e w' => e = .returned (.bool (gokB x)) ∧ w' = w := by
  subst hn
  by_cases h : x.length = 5
  · have hbd : gokB x = true ∨ ∃ k, k < 5 ∧ (x.getD k 0 < 0 ∨ 44 < x.getD k 0) ∧ gokB x = false := by
      cases hb : gokB x
      · refine .inr ?_
        apply Classical.byContradiction
        intro hno
        have : gokB x = true := gok_of h fun j hj => by
          apply Classical.byContradiction
          intro hc
          exact hno ⟨j, hj, by omega, rfl⟩
        rw [this] at hb; cases hb
      · exact .inl rfl
    obtain ⟨b, off, rfl, hb, -⟩ := hv.at 0 (by omega)
    have hc : ∀ k, k < 5 → w.cell? ⟨b, off + k, none⟩ = some (.int .i64 (x.getD k 0)) := fun k hk => by
      obtain ⟨b', off', he, _, hc⟩ := hv.at k (by omega)
      simp at he
      obtain ⟨rfl, rfl⟩ := he
      exact hc
    have H5 : Hid (x.length = 5) := h
    have Hno := fun k hk h => @gok_no_at x k hk h
    have Hyes : (∀ j, j < 5 → 0 ≤ x.getD j 0 ∧ x.getD j 0 ≤ 44) → gokB x = true := fun h => gok_of H5.out h
    rw [h]
    clear hbd hv h
    go_enter Tryz.func51, Tryz.ntmps51
    go_wp2
    go_loop [7] (fun i => ∃ k : Nat, k ≤ 5 ∧ i = .int .i64 (k : Nat) ∧ (∀ j, j < k → 0 ≤ x.getD j 0 ∧ x.getD j 0 ≤ 44)) (fun i => 5 - (intOf i).toNat)
    case atStart => exact ⟨0, by omega, rfl, fun j hj => by omega⟩
    case round =>
      obtain ⟨k, hk, rfl, hall⟩ := hrel
      by_cases hlt : k < 5
      · have hck := hc k hlt
        have Hnk := Hno k hlt
        have Hall : (0 ≤ x.getD k 0 ∧ x.getD k 0 ≤ 44) → ∀ j, j < k + 1 → 0 ≤ x.getD j 0 ∧ x.getD j 0 ≤ 44 := fun h j hj => by
          by_cases e : j < k
          · exact hall j e
          · obtain rfl : j = k := by omega
            exact h
        clear hc Hno Hyes hall
        generalize x.getD k 0 = X at *
        have i1 : (0 : Int) ≤ (k : Int) := by omega
        have i2 : (k : Int) < 5 := by omega
        by_cases h0 : X < 0
        · have hg := Hnk (.inl h0)
          go_wp2
          go_ret
          exact ⟨rfl, rfl⟩
        · by_cases h1 : 44 < X
          · have hg := Hnk (.inr h1)
            go_wp2
            go_ret
            exact ⟨rfl, rfl⟩
          · have hA := Hall ⟨by omega, by omega⟩
            have h1' : X ≤ 44 := by omega
            have h0' : 0 ≤ X := by omega
            clear Hall Hnk h0 h1
            go_wp2
            exact ⟨⟨k + 1, by omega, by go_num, hA⟩, by simp [intOf]; omega⟩
      · obtain rfl : k = 5 := by omega
        have hg := Hyes hall
        clear hc Hno Hyes hall hlt
        go_wp2
        go_ret
        exact ⟨rfl, rfl⟩
  · have hg := gok_no_len h
    have h1 : ((x.length : Int) != 5) = true := by simp; omega
    generalize x.length = n at *
    rw [hg]
    clear h hv hg
    go_enter Tryz.func51, Tryz.ntmps51
    go_wp2
    go_ret
    exact ⟨rfl, rfl⟩

/-- Are the first k numbers those of gains, and the list as long? -/
def preB (x : List Int) (k : Nat) : Bool := decide (x.length = 5) && (List.range k).all fun j => decide (0 ≤ x.getD j 0 ∧ x.getD j 0 ≤ 44)
theorem preB_succ (x : List Int) (k : Nat) : preB x (k + 1) = (preB x k && decide (0 ≤ x.getD k 0 ∧ x.getD k 0 ≤ 44)) := by
  unfold preB; rw [List.range_succ, List.all_append]; simp [Bool.and_assoc]
theorem preB_all (x : List Int) : preB x x.length = gokB x := by
  unfold preB gokB
  by_cases h : x.length = 5
  · rw [h]
  · rw [decide_eq_false h]; rfl

theorem rright_any (a : Option Addr) (n cap : Nat) (x : List Int) (hn : n = x.length) (hl : x.length ≤ 100) (w : World) (hv : Rw .i64 w (.slice a n cap) x) : Calls Tryz.prog 29 #[.slice a n cap] w fun e w' => e = .returned (.bool (gokB x)) ∧ w' = w := by
  subst hn
  have he : ((x.length : Int) == 5) = preB x 0 := by
    unfold preB
    by_cases h : x.length = 5
    · rw [h]; rfl
    · rw [decide_eq_false h]; simp; omega
  have Hall : Hid (preB x x.length = gokB x) := preB_all x
  have hcell := fun i hi => hv.at i hi
  obtain ⟨n, hn⟩ : ∃ n, x.length = n := ⟨_, rfl⟩
  have hs := preB_succ x
  rw [hn] at he hl hcell Hall ⊢
  clear hv
  generalize preB x = pre at *
  generalize hP0 : pre 0 = p0 at he
  have HP0 := hid hP0
  clear hP0
  go_enter Tryz.func29, Tryz.ntmps29
  go_wp2
  go_loop [3, 4] (fun p i => ∃ k : Nat, k ≤ n ∧ i = .int .i64 (k : Nat) ∧ p = .bool (pre k)) (fun _ i => n - (intOf i).toNat)
  case atStart => exact ⟨0, by omega, rfl, by rw [HP0.out]⟩
  case round =>
    obtain ⟨k, hk, rfl, rfl⟩ := hrel
    by_cases hlt : k < n
    · obtain ⟨b, off, rfl, hb, hck⟩ := hcell k hlt
      have hsk := hs k
      clear hs hcell
      generalize x.getD k 0 = X at *
      have HQ : Hid (pre (k + 1) = (pre k && decide (0 ≤ X ∧ X ≤ 44))) := hsk
      clear hsk
      generalize pre k = r at *
      have i1 : (0 : Int) ≤ (k : Int) := by omega
      have i2 : (k : Int) < (n : Int) := by omega
      cases r
      · have HQ2 : Hid (pre (k + 1) = false) := HQ.out
        clear HQ
        go_wp2
        exact ⟨⟨k + 1, by omega, by go_num, by rw [HQ2.out]⟩, by simp [intOf]; omega⟩
      · by_cases h0 : X < 0
        · have HQ2 : Hid (pre (k + 1) = false) := by unfold Hid; rw [HQ.out, decide_eq_false (by omega)]; rfl
          clear HQ
          have h0' : decide (0 ≤ X) = false := decide_eq_false (by omega)
          go_wp2
          exact ⟨⟨k + 1, by omega, by go_num, by rw [HQ2.out]⟩, by simp [intOf]; omega⟩
        · have h0' : 0 ≤ X := by omega
          by_cases h1 : 44 < X
          · have HQ2 : Hid (pre (k + 1) = false) := by unfold Hid; rw [HQ.out, decide_eq_false (by omega)]; rfl
            clear HQ h0
            go_wp2
            exact ⟨⟨k + 1, by omega, by go_num, by rw [HQ2.out]; simp; omega⟩, by simp [intOf]; omega⟩
          · have h1' : X ≤ 44 := by omega
            have HQ2 : Hid (pre (k + 1) = true) := by unfold Hid; rw [HQ.out, decide_eq_true (by omega)]; rfl
            clear HQ h0 h1
            go_wp2
            exact ⟨⟨k + 1, by omega, by go_num, by rw [HQ2.out]⟩, by simp [intOf]; omega⟩
    · obtain rfl : k = n := by omega
      clear hs hcell hlt
      go_wp2
      go_ret
      exact ⟨ret_bool Hall.out, rfl⟩

/-! ### Rows that lie apart from a struct's cell -/
/-- A row stays as it is where a cell is written that holds no number of its kind. -/
theorem Rw.apart {k : IntKind} {w : World} {v : Value} {xs : List Int} (h : Rw k w v xs) {p o : Nat} {x0 : Value} (h0 : w.cell? ⟨p, o, none⟩ = some x0) (hk : ∀ z, x0 ≠ .int k z) (y : Value) : Rw k (w.setCell ⟨p, o, none⟩ y) v xs := by
  obtain ⟨a, cap, hv, h⟩ := h
  refine ⟨a, cap, hv, ?_⟩
  rcases h with h | ⟨b, off, ha, hlt, hc⟩
  · exact .inl h
  · refine .inr ⟨b, off, ha, by simpa [World.setCell] using hlt, fun i hi => ?_⟩
    by_cases hb : b = p
    · subst hb
      have hne : off + i ≠ o := fun e => by
        have := hc i hi
        rw [e, h0] at this
        exact hk _ (Option.some.inj this)
      have hne' : o ≠ off + i := fun e => hne e.symm
      simp [go_sem, hne, hne', hc i hi]
    · rw [World.cell?_of_block (w := w) (Below.heap_setCell w ⟨p, o, none⟩ y b hb)]
      exact hc i hi
theorem B3.apart {k : IntKind} {w : World} {v : Value} {xs : List Int} {b : Nat} {x0 x1 x2 : Value} (hB : B3 w b x0 x1 x2) (h : Rw k w v xs) (h0 : ∀ z, x0 ≠ .int k z) (h1 : ∀ z, x1 ≠ .int k z) (h2 : ∀ z, x2 ≠ .int k z) (y0 y1 y2 : Value) : Rw k (((w.setCell ⟨b, 0, none⟩ y0).setCell ⟨b, 1, none⟩ y1).setCell ⟨b, 2, none⟩ y2) v xs :=
  ((h.apart hB.c0 h0 y0).apart (hB.set0 y0).c1 h1 y1).apart ((hB.set0 y0).set1 y1).c2 h2 y2
theorem B4.apart {k : IntKind} {w : World} {v : Value} {xs : List Int} {b : Nat} {x0 x1 x2 x3 : Value} (hB : B4 w b x0 x1 x2 x3) (h : Rw k w v xs) (h0 : ∀ z, x0 ≠ .int k z) (h1 : ∀ z, x1 ≠ .int k z) (h2 : ∀ z, x2 ≠ .int k z) (h3 : ∀ z, x3 ≠ .int k z) (y0 y1 y2 y3 : Value) : Rw k ((((w.setCell ⟨b, 0, none⟩ y0).setCell ⟨b, 1, none⟩ y1).setCell ⟨b, 2, none⟩ y2).setCell ⟨b, 3, none⟩ y3) v xs :=
  (((h.apart hB.c0 h0 y0).apart (hB.set0 y0).c1 h1 y1).apart ((hB.set0 y0).set1 y1).c2 h2 y2).apart (((hB.set0 y0).set1 y1).set2 y2).c3 h3 y3
theorem B2.apart {k : IntKind} {w : World} {v : Value} {xs : List Int} {b : Nat} {x0 x1 : Value} (hB : B2 w b x0 x1) (h : Rw k w v xs) (h0 : ∀ z, x0 ≠ .int k z) (h1 : ∀ z, x1 ≠ .int k z) (y0 y1 : Value) : Rw k ((w.setCell ⟨b, 0, none⟩ y0).setCell ⟨b, 1, none⟩ y1) v xs :=
  (h.apart hB.c0 h0 y0).apart (hB.set0 y0).c1 h1 y1
/-- An encoder's bytes lie apart from an encoder's struct. -/
theorem EvOf.set3 {w : World} {L R : Int} {a : Option Addr} {n cap : Nat} {e : En} (h : EvOf w L R a n cap e) {b : Nat} {L' R' : Int} {v : Value} (hB : B3 w b (.int .u64 L') (.int .u32 R') v) (hv : ∀ z, v ≠ .int .u8 z) (y0 y1 y2 : Value) : EvOf (((w.setCell ⟨b, 0, none⟩ y0).setCell ⟨b, 1, none⟩ y1).setCell ⟨b, 2, none⟩ y2) L R a n cap e := by
  obtain ⟨hok, h⟩ := h
  refine ⟨hok, ?_⟩
  rcases h with ⟨h1, h2, h3, h4, hr⟩ | h
  · exact .inl ⟨h1, h2, h3, h4, hB.apart hr (fun z => by simp) (fun z => by simp) hv _ _ _⟩
  · exact .inr h
/-- The encoder that a call hands back. -/
theorem EvOf.encB {w : World} {L R : Int} {a : Option Addr} {n cap : Nat} {e : En} (h : EvOf w L R a n cap e) (hb : encB L R n = true) : L = e.low ∧ R = e.R ∧ n = e.m ∧ Rw .u8 w (.slice a n cap) e.out := by
  rcases h.2 with ⟨_, h2, h3, h4, hr⟩ | ⟨h1, _⟩
  · exact ⟨h2, h3, h4, hr⟩
  · rw [h1] at hb; cases hb
end Go.Proofs.YtidppkbphkcmeaaGreat
/- Contracts of rightAhead, asItWas, putAlone, putAgainst. -/
namespace Go.Proofs.YtidppkbphkcmeaaGreat
open Go.RowKit
set_option linter.unusedVariables false
set_option linter.unusedSimpArgs false

theorem rightAhead_any (a : Option Addr) (n cap : Nat) (y : List Int) (hn : n = y.length) (intra : Bool) (w : World) (hv : Rw .i64 w (.slice a n cap) y) : Calls Tryz.prog 81 #[.slice a n cap, .bool intra] w fun e w' => e = .returned (.bool (intra || gokB y)) ∧ w' = w := by
  have hr := fun W h => right_any a n cap y hn W h
  generalize gokB y = q at *
  clear hn
  cases intra
  · go_enter Tryz.func81, Tryz.ntmps81
    go_wp2_with (go_at_call 51; refine (hr _ hv).mono ?_; rintro e w9 ⟨rfl, h9⟩; have h9 := h9.symm; subst h9)
    go_ret
    exact ⟨rfl, rfl⟩
  · go_enter Tryz.func81, Tryz.ntmps81
    go_wp2
    go_ret
    exact ⟨rfl, rfl⟩

/-- An encoder in memory, as a call hands it back. -/
def EnV (w' : World) (x : Value) (F : En) : Prop := ∃ a' cap', x = .agg #[.int .u64 F.low, .int .u32 F.R, .slice a' F.m cap'] ∧ Rw .u8 w' (.slice a' F.m cap') F.out
set_option maxRecDepth 10000 in
set_option maxHeartbeats 2000000 in
theorem asItWas_any (L R : Int) (a : Option Addr) (n cap : Nat) (e : En) (w : World) (h : EvOf w L R a n cap e) :
    Calls Tryz.prog 82 #[.agg #[.int .u64 L, .int .u32 R, .slice a n cap]] w fun x w' => ∃ a' cap', x = .returned (.agg #[.int .u64 e.low, .int .u32 e.R, .slice a' e.m cap']) ∧ RwF w.heap.size .u8 w' (.slice a' e.m cap') e.out ∧ Below w.heap.size w w' := by
  have hW := below2 w (.cells #[.int .u64 L, .int .u32 R, .slice a n cap] 52) (.cells #[.int .u64 0, .int .u32 0, .slice none 0 0] 52)
  have hput := fun W h => put_arg L R a n cap e 0 0 0 W h (by decide)
  unfold encV at hput
  go_enter Tryz.func82, Tryz.ntmps82
  go_wp2_with (go_at_call 52; refine (hput _ (h.below hW)).mono ?_; rintro x w1 ⟨a1, cap1, rfl, hown, hb1⟩; have hBr := (B3.new2 w (.cells #[.int .u64 L, .int .u32 R, .slice a n cap] 52) (.int .u64 0) (.int .u32 0) (.slice none 0 0) 52).below hb1; have hBe := ((B3.new w (.int .u64 L) (.int .u32 R) (.slice a n cap) 52).below (below1 _ (.cells #[.int .u64 0, .int .u32 0, .slice none 0 0] 52))).below hb1; obtain ⟨rz, r0, r1, r2, p0, p1, p2⟩ := id hBr; obtain ⟨ez, e0, e1, e2, f0, f1, f2⟩ := id hBe)
  have hbw := bthen hW hb1 hW.size
  refine bodyPost_ret (v := .agg #[.int .u64 e.low, .int .u32 e.R, .slice a1 e.m cap1]) (by simp [results, Tryz.results82, go_sem, r0, r1, r2, p0, p1, p2, e0, e1, e2, f0, f1, f2]) rfl ⟨a1, cap1, rfl, ?_, bset3 (bset3 hbw _ _ _ _ (by omega)) _ _ _ _ (by omega)⟩
  have q := RwF.of_owns hown
  simp only [World.size_alloc] at q
  exact ((((((q.set _ _ _ (by omega)).set _ _ _ (by omega)).set _ _ _ (by omega)).set _ _ _ (by omega)).set _ _ _ (by omega)).set _ _ _ (by omega)).mono (by omega)

/-- What a call that puts choices answers. -/
def OneP (w : World) (x : Ending) (w' : World) (e : En) (l : List (Nat × Nat × Nat)) : Prop := ∃ F a' cap', F.Ok ∧ (rm e l = true → F = puts e l) ∧ x = .returned (.tuple #[.agg #[.int .u64 F.low, .int .u32 F.R, .slice a' F.m cap'], .int .i64 (rmF e l)]) ∧ RwF w.heap.size .u8 w' (.slice a' F.m cap') F.out ∧ Below w.heap.size w w'

set_option maxRecDepth 10000 in
set_option maxHeartbeats 2000000 in
theorem putAlone_any (L R : Int) (a : Option Addr) (n cap : Nat) (e : En) (G : Nat) (hG : G ≤ 44) (w : World) (h : EvOf w L R a n cap e) :
    Calls Tryz.prog 83 #[.agg #[.int .u64 L, .int .u32 R, .slice a n cap], .int .i64 G] w fun x w' => OneP w x w' e [(G, G + 1, 45)] := by
  have hW := below2 w (.cells #[.int .u64 L, .int .u32 R, .slice a n cap] 52) (.cells #[.int .u64 0, .int .u32 0, .slice none 0 0] 52)
  have hput := fun W h => putNum_any L R a n cap e G 45 W h
  obtain ⟨h1, h2⟩ := num_one (e := e) (v := G) (n := 45) (by omega) (by decide)
  have hok := putNE_ok h.1 G 45
  rw [h1] at hput
  generalize putNE e G 45 = F at *
  unfold OneP
  clear h1
  generalize rmF e [(G, G + 1, 45)] = er at *
  have i1 : IntKind.u64.wrap (G : Int) = G := nat_u64 _ (by omega)
  go_enter Tryz.func83, Tryz.ntmps83
  go_wp2_with (go_at_call 57; refine (hput _ (h.below hW)).mono ?_; rintro x w1 ⟨a1, cap1, rfl, hrw, hb1⟩; have hBr := (B3.new2 w (.cells #[.int .u64 L, .int .u32 R, .slice a n cap] 52) (.int .u64 0) (.int .u32 0) (.slice none 0 0) 52).below hb1; obtain ⟨rz, r0, r1, r2, p0, p1, p2⟩ := id hBr)
  have hbw := bthen hW hb1 hW.size
  refine bodyPost_ret (v := .tuple #[.agg #[.int .u64 F.low, .int .u32 F.R, .slice a1 F.m cap1], .int .i64 er]) (by simp [results, Tryz.results83, go_sem, r0, r1, r2, p0, p1, p2]) rfl ⟨F, a1, cap1, hok, h2, rfl, ?_, bset3 hbw _ _ _ _ (by omega)⟩
  simp only [World.size_alloc] at hrw
  exact (((hrw.set _ _ _ (by omega)).set _ _ _ (by omega)).set _ _ _ (by omega)).mono (by omega)

set_option maxRecDepth 10000 in
set_option maxHeartbeats 2000000 in
theorem putAgainst_near (L R : Int) (a : Option Addr) (n cap : Nat) (e : En) (G A : Nat) (hG : G ≤ 44) (hA : A ≤ 44) (hn : A ≤ G + 3 ∧ G ≤ A + 3) (w : World) (h : EvOf w L R a n cap e) :
    Calls Tryz.prog 84 #[.agg #[.int .u64 L, .int .u32 R, .slice a n cap], .int .i64 G, .int .i64 A] w fun x w' => OneP w x w' e (chG false G A) := by
  have hW := below2 w (.cells #[.int .u64 L, .int .u32 R, .slice a n cap] 52) (.cells #[.int .u64 0, .int .u32 0, .slice none 0 0] 52)
  have hc : chG false G A = [(G + 3 - A, G + 3 - A + 1, 8)] := by unfold chG; rw [if_neg (by decide), if_pos hn]
  rw [hc]
  clear hc
  obtain ⟨K, hK⟩ : ∃ K, G + 3 - A = K := ⟨_, rfl⟩
  have hK7 : K < 7 := by omega
  have hK2 : (G : Int) - (A : Int) + 3 = (K : Int) := by omega
  rw [hK]
  have hput := fun W h => put_all L R a n cap e K (K + 1) 8 W h
  obtain ⟨h1, h2⟩ := put_one (e := e) (lo := K) (hi := K + 1) (tot := 8) (fair_one (by omega) (by decide))
  rw [show ((K + 1 : Nat) : Int) = (K : Int) + 1 by omega] at h1 h2
  have hok := putE_ok h.1 K (K + 1) 8
  have h1' : putF e (K : Int) ((K : Int) + 1) 8 = rmF e [(K, K + 1, 8)] := h1
  have h2' : rm e [(K, K + 1, 8)] = true → putE e (K : Int) ((K : Int) + 1) 8 = puts e [(K, K + 1, 8)] := h2
  rw [h1'] at hput
  generalize putE e (K : Int) ((K : Int) + 1) 8 = F at *
  unfold OneP
  clear h1 h2 h1'
  generalize rmF e [(K, K + 1, 8)] = er at *
  have k0 : (0 : Int) ≤ (K : Int) := by omega
  have k7 : (K : Int) < 7 := by omega
  clear hn hK hK7
  go_enter Tryz.func84, Tryz.ntmps84
  go_wp2_with (go_at_call 52; refine (hput _ (h.below hW)).mono ?_; rintro x w1 ⟨a1, cap1, rfl, hown, hb1⟩; have hBr := (B3.new2 w (.cells #[.int .u64 L, .int .u32 R, .slice a n cap] 52) (.int .u64 0) (.int .u32 0) (.slice none 0 0) 52).below hb1; obtain ⟨rz, r0, r1, r2, p0, p1, p2⟩ := id hBr)
  have hbw := bthen hW hb1 hW.size
  refine bodyPost_ret (v := .tuple #[.agg #[.int .u64 F.low, .int .u32 F.R, .slice a1 F.m cap1], .int .i64 er]) (by simp [results, Tryz.results84, go_sem, r0, r1, r2, p0, p1, p2]) rfl ⟨F, a1, cap1, hok, h2', rfl, ?_, bset3 hbw _ _ _ _ (by omega)⟩
  have hrw := RwF.of_owns hown
  simp only [World.size_alloc] at hrw
  exact (((hrw.set _ _ _ (by omega)).set _ _ _ (by omega)).set _ _ _ (by omega)).mono (by omega)

set_option maxRecDepth 10000 in
set_option maxHeartbeats 2000000 in
theorem putAgainst_far (L R : Int) (a : Option Addr) (n cap : Nat) (e : En) (G A : Nat) (hG : G ≤ 44) (hA : A ≤ 44) (hn : ¬ (A ≤ G + 3 ∧ G ≤ A + 3)) (w : World) (h : EvOf w L R a n cap e) :
    Calls Tryz.prog 84 #[.agg #[.int .u64 L, .int .u32 R, .slice a n cap], .int .i64 G, .int .i64 A] w fun x w' => OneP w x w' e (chG false G A) := by
  have hW := below2 w (.cells #[.int .u64 L, .int .u32 R, .slice a n cap] 52) (.cells #[.int .u64 0, .int .u32 0, .slice none 0 0] 52)
  have hc : chG false G A = [(7, 8, 8), (G, G + 1, 45)] := by unfold chG; rw [if_neg (by decide), if_neg hn]
  rw [hc]
  clear hc
  obtain ⟨K, hK2⟩ : ∃ K, (G : Int) - (A : Int) + 3 = K := ⟨_, rfl⟩
  have hK : K < 0 ∨ 7 ≤ K := by omega
  have hput := fun W h => put_all L R a n cap e 7 8 8 W h
  obtain ⟨h1, h2⟩ := put_one (e := e) (lo := 7) (hi := 8) (tot := 8) (fair_one (by omega) (by decide))
  have hok := putE_ok h.1 7 8 8
  have h1' : putF e 7 8 8 = rmF e [(7, 8, 8)] := h1
  have h2' : rm e [(7, 8, 8)] = true → putE e 7 8 8 = puts e [(7, 8, 8)] := h2
  have h3 := rm_two e (7, 8, 8) (G, G + 1, 45)
  rw [h1'] at hput
  clear h1 h2 h1'
  have hal := fun L R a n cap W h => putAlone_any L R a n cap (putE e 7 8 8) G hG W h
  unfold OneP
  unfold OneP at hal
  have hpu : puts e [(7, 8, 8), (G, G + 1, 45)] = puts (puts e [(7, 8, 8)]) [(G, G + 1, 45)] := rfl
  cases hr : rm e [(7, 8, 8)]
  · rw [hr, Bool.false_and] at h3
    have e3 : rmF e [(7, 8, 8)] = 3 := by unfold rmF; rw [hr]; rfl
    have e4 : rmF e [(7, 8, 8), (G, G + 1, 45)] = 3 := by unfold rmF; rw [h3]; rfl
    rw [e3] at hput
    rw [e4, h3]
    clear hal hpu h2' e3 e4 h3 hr
    generalize putE e 7 8 8 = F at *
    clear hn
    go_enter Tryz.func84, Tryz.ntmps84
    rcases hK with hK | hK
    all_goals
      go_wp2_with (go_at_call 52; refine (hput _ (h.below hW)).mono ?_; rintro x w1 ⟨a1, cap1, rfl, hown, hb1⟩; have hBr := (B3.new2 w (.cells #[.int .u64 L, .int .u32 R, .slice a n cap] 52) (.int .u64 0) (.int .u32 0) (.slice none 0 0) 52).below hb1; have hBe := ((B3.new w (.int .u64 L) (.int .u32 R) (.slice a n cap) 52).below (below1 _ (.cells #[.int .u64 0, .int .u32 0, .slice none 0 0] 52))).below hb1; obtain ⟨rz, r0, r1, r2, p0, p1, p2⟩ := id hBr; obtain ⟨ez, e0, e1, e2, f0, f1, f2⟩ := id hBe)
      have hbw := bthen hW hb1 hW.size
      refine bodyPost_ret (v := .tuple #[.agg #[.int .u64 F.low, .int .u32 F.R, .slice a1 F.m cap1], .int .i64 3]) (by simp [results, Tryz.results84, go_sem, r0, r1, r2, p0, p1, p2, e0, e1, e2, f0, f1, f2]) rfl ⟨F, a1, cap1, hok, (fun hh => by cases hh), rfl, ?_, bset3 (bset3 hbw _ _ _ _ (by omega)) _ _ _ _ (by omega)⟩
      have hrw := RwF.of_owns hown
      simp only [World.size_alloc] at hrw
      exact ((((((hrw.set _ _ _ (by omega)).set _ _ _ (by omega)).set _ _ _ (by omega)).set _ _ _ (by omega)).set _ _ _ (by omega)).set _ _ _ (by omega)).mono (by omega)
  · rw [hr, Bool.true_and] at h3
    have e3 : rmF e [(7, 8, 8)] = 0 := by unfold rmF; rw [hr]; rfl
    have e4 : rmF e [(7, 8, 8), (G, G + 1, 45)] = rmF (puts e [(7, 8, 8)]) [(G, G + 1, 45)] := by unfold rmF; rw [h3]
    rw [e3] at hput
    rw [h2' hr] at hput hok hal
    rw [e4, h3, hpu]
    clear hpu h2' e3 e4 h3 hr
    generalize puts e [(7, 8, 8)] = F at *
    generalize rmF F [(G, G + 1, 45)] = er at *
    have hFe := fun (a : Option Addr) (c : Nat) (W : World) (hr : Rw .u8 W (.slice a F.m c) F.out) => hok.ev hr
    clear hn
    go_enter Tryz.func84, Tryz.ntmps84
    rcases hK with hK | hK
    all_goals
      go_wp2_with (first | (go_at_call 52; refine (hput _ (h.below hW)).mono ?_; rintro x w1 ⟨a1, cap1, rfl, hown, hb1⟩; have hBr := (B3.new2 w (.cells #[.int .u64 L, .int .u32 R, .slice a n cap] 52) (.int .u64 0) (.int .u32 0) (.slice none 0 0) 52).below hb1; have hBe := ((B3.new w (.int .u64 L) (.int .u32 R) (.slice a n cap) 52).below (below1 _ (.cells #[.int .u64 0, .int .u32 0, .slice none 0 0] 52))).below hb1; obtain ⟨ez, e0, e1, e2, f0, f1, f2⟩ := id hBe; have hbw := bthen hW hb1 hW.size; have hr0 := RwF.of_owns hown; simp only [World.size_alloc] at hr0; have hr1 := (((hr0.set w.heap.size 0 (.int .u64 F.low) (by omega)).set w.heap.size 1 (.int .u32 F.R) (by omega)).set w.heap.size 2 (.slice a1 F.m cap1) (by omega)).rw; have hbw1 := bset3 hbw w.heap.size (.int .u64 F.low) (.int .u32 F.R) (.slice a1 F.m cap1) (Nat.le_refl _); have hBr1 := ((hBr.other w.heap.size 0 (.int .u64 F.low) (by omega)).other w.heap.size 1 (.int .u32 F.R) (by omega)).other w.heap.size 2 (.slice a1 F.m cap1) (by omega)) | (go_at_call 83; refine (hal _ _ _ _ _ _ (hFe _ _ _ hr1)).mono ?_; rintro x w2 ⟨F2, a2, cap2, hok2, hF2, rfl, hrw2, hb2⟩; obtain ⟨rz, r0, r1, r2, p0, p1, p2⟩ := hBr1.below hb2))
      have hbw2 := bthen hbw1 hb2 hbw1.size
      have hz2 := hbw1.size
      refine bodyPost_ret (v := .tuple #[.agg #[.int .u64 F2.low, .int .u32 F2.R, .slice a2 F2.m cap2], .int .i64 er]) (by simp [results, Tryz.results84, go_sem, r0, r1, r2, p0, p1, p2]) rfl ⟨F2, a2, cap2, hok2, hF2, rfl, ?_, bset3 hbw2 _ _ _ _ (by omega)⟩
      have hzz := hBr1.z
      exact (((hrw2.set _ _ _ hzz).set _ _ _ hzz).set _ _ _ hzz).mono hz2
end Go.Proofs.YtidppkbphkcmeaaGreat
/- The contract of gain.Put, intra and against the gains ahead. -/
namespace Go.Proofs.YtidppkbphkcmeaaGreat
open Go.RowKit
set_option linter.unusedVariables false
set_option linter.unusedSimpArgs false

/-- What Put answers, its row a new one. -/
def PutQ (w : World) (x : Ending) (w' : World) (F : En) (er : Int) : Prop := ∃ a' cap', x = .returned (.tuple #[.agg #[.int .u64 F.low, .int .u32 F.R, .slice a' F.m cap'], .int .i64 er]) ∧ RwF w.heap.size .u8 w' (.slice a' F.m cap') F.out ∧ Below w.heap.size w w'
/-- A slice that lies in no block ahead of B, or is empty. -/
def SlGe (B : Nat) (v : Value) (xs : List Int) : Prop := xs = [] ∨ ∀ b off n c, v = .slice (some ⟨b, off, none⟩) n c → B ≤ b
theorem RwF.ge {B : Nat} {k : IntKind} {w : World} {v : Value} {xs : List Int} (h : RwF B k w v xs) : SlGe B v xs := by
  obtain ⟨a, cap, hv, h⟩ := h
  rcases h with h | ⟨b, off, ha, hB, _⟩
  · exact .inl h
  · refine .inr fun b' off' n c he => ?_
    rw [hv, ha] at he
    simp at he
    omega
theorem RwF.of_ge {B : Nat} {k : IntKind} {w : World} {v : Value} {xs : List Int} (h : Rw k w v xs) (hg : SlGe B v xs) : RwF B k w v xs := by
  obtain ⟨a, cap, hv, h⟩ := h
  refine ⟨a, cap, hv, ?_⟩
  rcases h with h | ⟨b, off, ha, hlt, hc⟩
  · exact .inl h
  · rcases hg with hg | hg
    · exact .inl hg
    · exact .inr ⟨b, off, ha, hg b off _ _ (by rw [hv, ha]), hlt, hc⟩
/-- What Put answers. -/
def PutP (w : World) (x : Ending) (w' : World) (F : En) (er : Int) : Prop := ∃ a' cap', x = .returned (.tuple #[.agg #[.int .u64 F.low, .int .u32 F.R, .slice a' F.m cap'], .int .i64 er]) ∧ Rw .u8 w' (.slice a' F.m cap') F.out ∧ Below w.heap.size w w'
theorem Rw.atn {k : IntKind} {w : World} {a : Option Addr} {n cap : Nat} {xs : List Int} (h : Rw k w (.slice a n cap) xs) (i : Nat) (hi : i < n) : ∃ b off, a = some ⟨b, off, none⟩ ∧ b < w.heap.size ∧ w.cell? ⟨b, off + i, none⟩ = some (.int k (xs.getD i 0)) := by
  have hl : n = xs.length := by
    obtain ⟨a', c', he, _⟩ := h
    simp only [Value.slice.injEq] at he
    exact he.2.1
  subst hl
  exact h.at i hi
/-- The encoder behind a choice that went well, or the one that stands. -/
theorem rmF_cases (e : En) (l : List (Nat × Nat × Nat)) : (rm e l = true ∧ rmF e l = 0) ∨ (rm e l = false ∧ rmF e l = 3) := by
  unfold rmF
  cases h : rm e l
  · exact .inr ⟨rfl, rfl⟩
  · exact .inl ⟨rfl, rfl⟩

set_option maxRecDepth 10000 in
set_option maxHeartbeats 2000000 in
theorem gput_arg (L R : Int) (a : Option Addr) (n cap : Nat) (e : En) (ax : Option Addr) (nx cx : Nat) (x : List Int) (ay : Option Addr) (ny cy : Nat) (y : List Int) (intra : Bool) (hx : nx = x.length) (hy : ny = y.length) (w : World) (h : EvOf w L R a n cap e) (hvx : Rw .i64 w (.slice ax nx cx) x) (hvy : Rw .i64 w (.slice ay ny cy) y) (hbad : gpB x y intra = false) :
    Calls Tryz.prog 53 #[.agg #[.int .u64 L, .int .u32 R, .slice a n cap], .slice ax nx cx, .slice ay ny cy, .bool intra] w fun x w' => PutQ w x w' e 1 := by
  have hW := below2 w (.cells #[.int .u64 L, .int .u32 R, .slice a n cap] 52) (.cells #[.int .u64 0, .int .u32 0, .slice none 0 0] 52)
  have hr := fun W h => right_any ax nx cx x hx W h
  have hra := fun W h => rightAhead_any ay ny cy y hy intra W h
  have has := fun W h => asItWas_any L R a n cap e W h
  have h1 := h.below hW
  have h2 := hvx.below hW
  have h3 := hvy.below hW
  have hBr := B3.new2 w (.cells #[.int .u64 L, .int .u32 R, .slice a n cap] 52) (.int .u64 0) (.int .u32 0) (.slice none 0 0) 52
  clear hx hy
  unfold gpB at hbad
  generalize gokB x = p at *
  generalize (intra || gokB y) = q at *
  unfold PutQ
  cases p
  · clear hbad
    go_enter Tryz.func53, Tryz.ntmps53
    go_wp2_with (first | (go_at_call 51; refine (hr _ h2).mono ?_; rintro x w9 ⟨rfl, h9⟩; have h9 := h9.symm; subst h9) | (go_at_call 82; refine (has _ h1).mono ?_; rintro x w1 ⟨a1, c1, rfl, hrw, hb1⟩; have hB1 := hBr.below hb1; obtain ⟨rz, r0, r1, r2, p0, p1, p2⟩ := id hB1))
    exact bodyPost_ret (v := .tuple #[.agg #[.int .u64 e.low, .int .u32 e.R, .slice a1 e.m c1], .int .i64 1]) (by simp [results, Tryz.results53, go_sem, r0, r1, r2, p0, p1, p2]) rfl ⟨a1, c1, rfl, by simp only [World.size_alloc] at hrw; exact (((hrw.set _ _ _ (by omega)).set _ _ _ (by omega)).set _ _ _ (by omega)).mono (by omega), bset3 (bthen hW hb1 hW.size) _ _ _ _ (by omega)⟩
  · simp only [Bool.true_and] at hbad
    subst hbad
    go_enter Tryz.func53, Tryz.ntmps53
    go_wp2_with (first | (go_at_call 51; refine (hr _ h2).mono ?_; rintro x w9 ⟨rfl, h9⟩; have h9 := h9.symm; subst h9) | (go_at_call 81; refine (hra _ h3).mono ?_; rintro x w9 ⟨rfl, h9⟩; have h9 := h9.symm; subst h9) | (go_at_call 82; refine (has _ h1).mono ?_; rintro x w1 ⟨a1, c1, rfl, hrw, hb1⟩; have hB1 := hBr.below hb1; obtain ⟨rz, r0, r1, r2, p0, p1, p2⟩ := id hB1))
    exact bodyPost_ret (v := .tuple #[.agg #[.int .u64 e.low, .int .u32 e.R, .slice a1 e.m c1], .int .i64 1]) (by simp [results, Tryz.results53, go_sem, r0, r1, r2, p0, p1, p2]) rfl ⟨a1, c1, rfl, by simp only [World.size_alloc] at hrw; exact (((hrw.set _ _ _ (by omega)).set _ _ _ (by omega)).set _ _ _ (by omega)).mono (by omega), bset3 (bthen hW hb1 hW.size) _ _ _ _ (by omega)⟩

theorem putAgainst_any (L R : Int) (a : Option Addr) (n cap : Nat) (e : En) (G A : Nat) (hG : G ≤ 44) (hA : A ≤ 44) (w : World) (h : EvOf w L R a n cap e) :
    Calls Tryz.prog 84 #[.agg #[.int .u64 L, .int .u32 R, .slice a n cap], .int .i64 G, .int .i64 A] w fun x w' => OneP w x w' e (chG false G A) := by
  by_cases hn : A ≤ G + 3 ∧ G ≤ A + 3
  · exact putAgainst_near L R a n cap e G A hG hA hn w h
  · exact putAgainst_far L R a n cap e G A hG hA hn w h

set_option maxRecDepth 10000 in
set_option maxHeartbeats 4000000 in
theorem gput_alone (L R : Int) (a : Option Addr) (n cap : Nat) (e : En) (ax : Option Addr) (nx cx : Nat) (x : List Int) (ay : Option Addr) (ny cy : Nat) (y : List Int) (hx : nx = x.length) (hy : ny = y.length) (w : World) (h : EvOf w L R a n cap e) (hvx : Rw .i64 w (.slice ax nx cx) x) (hvy : Rw .i64 w (.slice ay ny cy) y) (hgood : gpB x y true = true) :
    Calls Tryz.prog 53 #[.agg #[.int .u64 L, .int .u32 R, .slice a n cap], .slice ax nx cx, .slice ay ny cy, .bool true] w fun xx w' => PutQ w xx w' (gpE e x y true) (gpF e x y true) := by
  have hW := below2 w (.cells #[.int .u64 L, .int .u32 R, .slice a n cap] 52) (.cells #[.int .u64 0, .int .u32 0, .slice none 0 0] 52)
  have hW3 := below3 w (.cells #[.int .u64 L, .int .u32 R, .slice a n cap] 52) (.cells #[.int .u64 0, .int .u32 0, .slice none 0 0] 52) (.cells #[.int .u64 L, .int .u32 R, .slice a n cap] 52)
  have hr := fun W h => right_any ax nx cx x hx W h
  have hra := fun W h => rightAhead_any ay ny cy y hy true W h
  have has := fun W h => asItWas_any L R a n cap e W h
  have hgp := id hgood
  unfold gpB at hgp
  rw [Bool.and_eq_true] at hgp
  obtain ⟨hgx, hgy⟩ := hgp
  obtain rfl : nx = 5 := hx.trans (gok_len hgx)
  rw [hgx] at hr
  rw [hgy] at hra
  have h2 := hvx.below hW
  have h3 := hvy.below hW
  have hB4 : B3 (((w.alloc (.cells #[.int .u64 L, .int .u32 R, .slice a n cap] 52)).alloc (.cells #[.int .u64 0, .int .u32 0, .slice none 0 0] 52)).alloc (.cells #[.int .u64 L, .int .u32 R, .slice a n cap] 52)) w.heap.size (.int .u64 L) (.int .u32 R) (.slice a n cap) := (B3.new w _ _ _ _).below (below2 _ _ _)
  have hB8 : B3 (((w.alloc (.cells #[.int .u64 L, .int .u32 R, .slice a n cap] 52)).alloc (.cells #[.int .u64 0, .int .u32 0, .slice none 0 0] 52)).alloc (.cells #[.int .u64 L, .int .u32 R, .slice a n cap] 52)) (w.heap.size + 1) (.int .u64 0) (.int .u32 0) (.slice none 0 0) := (B3.new2 w _ _ _ _ _).below (below1 _ _)
  have hB10 : B3 (((w.alloc (.cells #[.int .u64 L, .int .u32 R, .slice a n cap] 52)).alloc (.cells #[.int .u64 0, .int .u32 0, .slice none 0 0] 52)).alloc (.cells #[.int .u64 L, .int .u32 R, .slice a n cap] 52)) (w.heap.size + 1 + 1) (.int .u64 L) (.int .u32 R) (.slice a n cap) := by
    have := B3.new2 (w.alloc (.cells #[.int .u64 L, .int .u32 R, .slice a n cap] 52)) (.cells #[.int .u64 0, .int .u32 0, .slice none 0 0] 52) (.int .u64 L) (.int .u32 R) (.slice a n cap) 52
    simpa using this
  have hev3 := h.below hW3
  have Hgood := hid hgood
  have Hgx := hid hgx
  have Hgy := hid hgy
  have Hev := hid h
  have Hvx := hid hvx
  have Hvy := hid hvy
  obtain ⟨e1, he1⟩ : ∃ e1, gpE e x y true = e1 := ⟨_, rfl⟩
  obtain ⟨er1, her1⟩ : ∃ er1, gpF e x y true = er1 := ⟨_, rfl⟩
  have HE1 := hid he1
  have HER1 := hid her1
  rw [he1, her1]
  unfold PutQ
  clear hx hy hgx hgy hgood h hvx hvy he1 her1
  go_enter Tryz.func53, Tryz.ntmps53
  go_wp2_with (first | (go_at_call 51; refine (hr _ h2).mono ?_; rintro x w9 ⟨rfl, h9⟩; have h9 := h9.symm; subst h9) | (go_at_call 81; refine (hra _ h3).mono ?_; rintro x w9 ⟨rfl, h9⟩; have h9 := h9.symm; subst h9))
  clear hr hra h2 h3 hW
  go_loopw [25, 11] (fun i f wr => ∃ (k : Nat) (E : En) (L' R' : Int) (a' : Option Addr) (n' c' : Nat), k ≤ 5 ∧ i = .int .i64 (k : Nat) ∧ f = .int .i64 0 ∧ Hid (E = puts e (chK true x y k)) ∧ Hid (rm e (chK true x y k) = true) ∧ Hid (0 < k → encB L' R' n' = true) ∧ Hid (0 < k → SlGe w.heap.size (.slice a' n' c') E.out) ∧ Hid (EvOf wr L' R' a' n' c' E) ∧ B3 wr (w.heap.size + 1 + 1) (.int .u64 L') (.int .u32 R') (.slice a' n' c') ∧ B3 wr w.heap.size (.int .u64 L) (.int .u32 R) (.slice a n cap) ∧ B3 wr (w.heap.size + 1) (.int .u64 0) (.int .u32 0) (.slice none 0 0) ∧ Below w.heap.size w wr) (fun i _ _ => 5 - (intOf i).toNat)
  case atStart => exact ⟨0, e, L, R, a, n, cap, by omega, rfl, rfl, rfl, rfl, (fun hh => absurd hh (by decide)), (fun hh => absurd hh (by decide)), hev3, hB10, hB4, hB8, hW3⟩
  case round =>
    clear hB4 hB8 hB10 hev3 hW3
    obtain ⟨k, E, L', R', a', n', c', hk, rfl, rfl, HE, HRM, Hpos, Hge, HEV, hB10, hB4, hB8, hbel⟩ := hrel
    obtain ⟨W1, rfl⟩ : ∃ z, z = wr := ⟨wr, rfl⟩
    by_cases hlt : k < 5
    · obtain ⟨G, hG, hG4⟩ := gok_at Hgx.out k hlt
      obtain ⟨b, off, rfl, hb, hcx⟩ := Hvx.out.atn k hlt
      rw [hG] at hcx
      have hbr : b < W1.heap.size := Nat.lt_of_lt_of_le hb hbel.size
      have dx := (hbel.cell (p := ⟨b, off + k, none⟩) hb).trans hcx
      have HS : Hid _ := chK_succ true x y k
      rw [hG, Int.toNat_natCast] at HS
      have Hstop : Hid _ := @rm_stop e x y true k hlt
      have hone := fun W h => putAlone_any L' R' a' n' c' E G hG4 W h
      rw [show [(G, G + 1, 45)] = chG true G (y.getD k 0).toNat from rfl] at hone
      have HF := hid (rmF_cases E (chG true G (y.getD k 0).toNat))
      unfold OneP at hone
      generalize hl : chG true G (y.getD k 0).toNat = l at *
      clear hl
      generalize hf : rmF E l = fr at *
      clear hf hcx hb
      obtain ⟨z10, o0, o1, o2, of0, of1, of2⟩ := id hB10
      have i1 : (0 : Int) ≤ (k : Int) := by omega
      have i2 : (k : Int) < 5 := by omega
      have i3 : IntKind.i64.wrap (k : Int) = k := wraps_i64 _ (by omega) (by omega)
      go_wp2
      go_cut [11] (fun f wz => ∃ (F : En) (a2 : Option Addr) (c2 : Nat), F.Ok ∧ Hid (rm E l = true → F = puts E l) ∧ f = .int .i64 fr ∧ B3 wz (w.heap.size + 1 + 1) (.int .u64 F.low) (.int .u32 F.R) (.slice a2 F.m c2) ∧ Rw .u8 wz (.slice a2 F.m c2) F.out ∧ Hid (SlGe w.heap.size (.slice a2 F.m c2) F.out) ∧ B3 wz w.heap.size (.int .u64 L) (.int .u32 R) (.slice a n cap) ∧ B3 wz (w.heap.size + 1) (.int .u64 0) (.int .u32 0) (.slice none 0 0) ∧ Below w.heap.size w wz)
      case first =>
        go_region_with (go_at_call 83; refine (hone _ (HEV.out.below (Below.refl _ _).drew)).mono ?_; rintro xx y1 ⟨F, a2, c2, hok2, hF2, rfl, hrw2, hb2'⟩; have hb2 := drew_below hb2'; have hB10y := hB10.below hb2; have hB4y := hB4.below hb2; have hB8y := hB8.below hb2; have hy1 := bthen hbel hb2 hbel.size; obtain ⟨y10, yo0, yo1, yo2, yof0, yof1, yof2⟩ := id hB10y)
        all_goals go_wp2
        all_goals go_meet
        all_goals exact ⟨F, a2, c2, hok2, hF2, rfl, hB10y.set _ _ _, hB10y.apart hrw2.rw (fun z => by simp) (fun z => by simp) (fun z => by simp) _ _ _, (hrw2.mono hbel.size).ge, ((hB4y.other _ _ _ (by omega)).other _ _ _ (by omega)).other _ _ _ (by omega), ((hB8y.other _ _ _ (by omega)).other _ _ _ (by omega)).other _ _ _ (by omega), bset3 hy1 _ _ _ _ (by omega)⟩
      case rest =>
        obtain ⟨F, a2, c2, hok2, HF2, rfl, hC10, hrC, Hgc, hC4, hC8, hbC⟩ := hcut
        rcases HF.out with ⟨hrm, rfl⟩ | ⟨hrm, rfl⟩
        · have HF3 : Hid (F = puts E l) := HF2.out hrm
          have HR3 : Hid (rm E l = true) := hrm
          clear hrm HF HF2
          go_wp2
          go_roundw
          case rel => exact ⟨k + 1, F, F.low, F.R, a2, F.m, c2, by omega, by go_num, rfl, by unfold Hid; rw [HS.out, puts_append, ← HE.out]; exact HF3.out, by unfold Hid; rw [HS.out, rm_append, HRM.out, ← HE.out, HR3.out]; rfl, (fun _ => hok2.encB), (fun _ => Hgc.out), hok2.ev hrC, hC10, hC4, hC8, hbC⟩
          case measure => simp [intOf]; omega
        · have HR3 : Hid (rm e (chK true x y 5) = false) := by
            refine Hstop.out ?_
            rw [HS.out, rm_append, HRM.out, ← HE.out, hrm]; rfl
          have hA1 := (gp_full Hgood.out HR3.out).1.symm.trans HE1.out
          have hA2 := (gp_full Hgood.out HR3.out).2.symm.trans HER1.out
          subst hA2
          obtain rfl := hA1
          have hev2 := Hev.out.below hbC
          obtain ⟨z4, q0, q1, q2, qf0, qf1, qf2⟩ := id hC4
          clear hrm HF HF2
          go_wp2_with (go_at_call 82; refine (has _ hev2).mono ?_; rintro xx w1 ⟨a1, c1, rfl, hrw, hb1⟩; have hB1 := hC8.below hb1; obtain ⟨rz, r0, r1, r2, p0, p1, p2⟩ := id hB1)
          exact bodyPost_ret (v := .tuple #[.agg #[.int .u64 e.low, .int .u32 e.R, .slice a1 e.m c1], .int .i64 3]) (by simp [results, Tryz.results53, go_sem, r0, r1, r2, p0, p1, p2]) rfl ⟨a1, c1, rfl, (((hrw.set _ _ _ hC8.z).set _ _ _ hC8.z).set _ _ _ hC8.z).mono hbC.size, bset3 (bthen hbC hb1 hbC.size) _ _ _ _ (by omega)⟩
    · obtain rfl : k = 5 := by omega
      have hA1 := (gp_ok Hgood.out HRM.out).1.symm.trans HE1.out
      have hA2 := (gp_ok Hgood.out HRM.out).2.symm.trans HER1.out
      rw [← HE.out] at hA1
      subst hA2
      obtain rfl := hA1
      obtain ⟨rfl, rfl, rfl, hrw⟩ := HEV.out.encB (Hpos.out (by decide))
      obtain ⟨z10, o0, o1, o2, of0, of1, of2⟩ := id hB10
      obtain ⟨rz, r0, r1, r2, p0, p1, p2⟩ := id hB8
      have Hg5 := hid (Hge.out (by decide))
      clear hlt HE HRM Hpos Hge HEV HE1 HER1
      go_wp2
      exact bodyPost_ret (v := .tuple #[.agg #[.int .u64 E.low, .int .u32 E.R, .slice a' E.m c'], .int .i64 0]) (by simp [results, Tryz.results53, go_sem, r0, r1, r2, p0, p1, p2]) rfl ⟨a', c', rfl, RwF.of_ge (hB8.apart hrw (fun z => by simp) (fun z => by simp) (fun z => by simp) _ _ _) Hg5.out, bset3 hbel _ _ _ _ (by omega)⟩

set_option maxRecDepth 10000 in
set_option maxHeartbeats 4000000 in
theorem gput_against (L R : Int) (a : Option Addr) (n cap : Nat) (e : En) (ax : Option Addr) (nx cx : Nat) (x : List Int) (ay : Option Addr) (ny cy : Nat) (y : List Int) (hx : nx = x.length) (hy : ny = y.length) (w : World) (h : EvOf w L R a n cap e) (hvx : Rw .i64 w (.slice ax nx cx) x) (hvy : Rw .i64 w (.slice ay ny cy) y) (hgood : gpB x y false = true) :
    Calls Tryz.prog 53 #[.agg #[.int .u64 L, .int .u32 R, .slice a n cap], .slice ax nx cx, .slice ay ny cy, .bool false] w fun xx w' => PutQ w xx w' (gpE e x y false) (gpF e x y false) := by
  have hW := below2 w (.cells #[.int .u64 L, .int .u32 R, .slice a n cap] 52) (.cells #[.int .u64 0, .int .u32 0, .slice none 0 0] 52)
  have hW3 := below3 w (.cells #[.int .u64 L, .int .u32 R, .slice a n cap] 52) (.cells #[.int .u64 0, .int .u32 0, .slice none 0 0] 52) (.cells #[.int .u64 L, .int .u32 R, .slice a n cap] 52)
  have hr := fun W h => right_any ax nx cx x hx W h
  have hra := fun W h => rightAhead_any ay ny cy y hy false W h
  have has := fun W h => asItWas_any L R a n cap e W h
  have hgp := id hgood
  unfold gpB at hgp
  rw [Bool.and_eq_true] at hgp
  obtain ⟨hgx, hgy⟩ := hgp
  obtain rfl : nx = 5 := hx.trans (gok_len hgx)
  have hgy' : gokB y = true := by simpa using hgy
  have Hgy' := hid hgy'
  obtain rfl : ny = 5 := hy.trans (gok_len hgy')
  clear hgy'
  rw [hgx] at hr
  rw [hgy] at hra
  have h2 := hvx.below hW
  have h3 := hvy.below hW
  have hB4 : B3 (((w.alloc (.cells #[.int .u64 L, .int .u32 R, .slice a n cap] 52)).alloc (.cells #[.int .u64 0, .int .u32 0, .slice none 0 0] 52)).alloc (.cells #[.int .u64 L, .int .u32 R, .slice a n cap] 52)) w.heap.size (.int .u64 L) (.int .u32 R) (.slice a n cap) := (B3.new w _ _ _ _).below (below2 _ _ _)
  have hB8 : B3 (((w.alloc (.cells #[.int .u64 L, .int .u32 R, .slice a n cap] 52)).alloc (.cells #[.int .u64 0, .int .u32 0, .slice none 0 0] 52)).alloc (.cells #[.int .u64 L, .int .u32 R, .slice a n cap] 52)) (w.heap.size + 1) (.int .u64 0) (.int .u32 0) (.slice none 0 0) := (B3.new2 w _ _ _ _ _).below (below1 _ _)
  have hB10 : B3 (((w.alloc (.cells #[.int .u64 L, .int .u32 R, .slice a n cap] 52)).alloc (.cells #[.int .u64 0, .int .u32 0, .slice none 0 0] 52)).alloc (.cells #[.int .u64 L, .int .u32 R, .slice a n cap] 52)) (w.heap.size + 1 + 1) (.int .u64 L) (.int .u32 R) (.slice a n cap) := by
    have := B3.new2 (w.alloc (.cells #[.int .u64 L, .int .u32 R, .slice a n cap] 52)) (.cells #[.int .u64 0, .int .u32 0, .slice none 0 0] 52) (.int .u64 L) (.int .u32 R) (.slice a n cap) 52
    simpa using this
  have hev3 := h.below hW3
  have Hgood := hid hgood
  have Hgx := hid hgx
  have Hgy := hid hgy
  have Hev := hid h
  have Hvx := hid hvx
  have Hvy := hid hvy
  obtain ⟨e1, he1⟩ : ∃ e1, gpE e x y false = e1 := ⟨_, rfl⟩
  obtain ⟨er1, her1⟩ : ∃ er1, gpF e x y false = er1 := ⟨_, rfl⟩
  have HE1 := hid he1
  have HER1 := hid her1
  rw [he1, her1]
  unfold PutQ
  clear hx hy hgx hgy hgood h hvx hvy he1 her1
  go_enter Tryz.func53, Tryz.ntmps53
  go_wp2_with (first | (go_at_call 51; refine (hr _ h2).mono ?_; rintro x w9 ⟨rfl, h9⟩; have h9 := h9.symm; subst h9) | (go_at_call 81; refine (hra _ h3).mono ?_; rintro x w9 ⟨rfl, h9⟩; have h9 := h9.symm; subst h9))
  clear hr hra h2 h3 hW
  go_loopw [25, 11] (fun i f wr => ∃ (k : Nat) (E : En) (L' R' : Int) (a' : Option Addr) (n' c' : Nat), k ≤ 5 ∧ i = .int .i64 (k : Nat) ∧ f = .int .i64 0 ∧ Hid (E = puts e (chK false x y k)) ∧ Hid (rm e (chK false x y k) = true) ∧ Hid (0 < k → encB L' R' n' = true) ∧ Hid (0 < k → SlGe w.heap.size (.slice a' n' c') E.out) ∧ Hid (EvOf wr L' R' a' n' c' E) ∧ B3 wr (w.heap.size + 1 + 1) (.int .u64 L') (.int .u32 R') (.slice a' n' c') ∧ B3 wr w.heap.size (.int .u64 L) (.int .u32 R) (.slice a n cap) ∧ B3 wr (w.heap.size + 1) (.int .u64 0) (.int .u32 0) (.slice none 0 0) ∧ Below w.heap.size w wr) (fun i _ _ => 5 - (intOf i).toNat)
  case atStart => exact ⟨0, e, L, R, a, n, cap, by omega, rfl, rfl, rfl, rfl, (fun hh => absurd hh (by decide)), (fun hh => absurd hh (by decide)), hev3, hB10, hB4, hB8, hW3⟩
  case round =>
    clear hB4 hB8 hB10 hev3 hW3
    obtain ⟨k, E, L', R', a', n', c', hk, rfl, rfl, HE, HRM, Hpos, Hge, HEV, hB10, hB4, hB8, hbel⟩ := hrel
    obtain ⟨W1, rfl⟩ : ∃ z, z = wr := ⟨wr, rfl⟩
    by_cases hlt : k < 5
    · obtain ⟨G, hG, hG4⟩ := gok_at Hgx.out k hlt
      obtain ⟨b, off, rfl, hb, hcx⟩ := Hvx.out.atn k hlt
      rw [hG] at hcx
      have hbr : b < W1.heap.size := Nat.lt_of_lt_of_le hb hbel.size
      have dx := (hbel.cell (p := ⟨b, off + k, none⟩) hb).trans hcx
      obtain ⟨A, hA, hA4⟩ := gok_at Hgy'.out k hlt
      obtain ⟨b', off', rfl, hb', hcy⟩ := Hvy.out.atn k hlt
      rw [hA] at hcy
      have hbr' : b' < W1.heap.size := Nat.lt_of_lt_of_le hb' hbel.size
      have dy := (hbel.cell (p := ⟨b', off' + k, none⟩) hb').trans hcy
      clear hcy hb'
      have HS : Hid _ := chK_succ false x y k
      rw [hG, hA, Int.toNat_natCast, Int.toNat_natCast] at HS
      have Hstop : Hid _ := @rm_stop e x y false k hlt
      have hone := fun W h => putAgainst_any L' R' a' n' c' E G A hG4 hA4 W h
      have HF := hid (rmF_cases E (chG false G A))
      unfold OneP at hone
      generalize hl : chG false G A = l at *
      clear hl
      generalize hf : rmF E l = fr at *
      clear hf hcx hb
      obtain ⟨z10, o0, o1, o2, of0, of1, of2⟩ := id hB10
      have i1 : (0 : Int) ≤ (k : Int) := by omega
      have i2 : (k : Int) < 5 := by omega
      have i3 : IntKind.i64.wrap (k : Int) = k := wraps_i64 _ (by omega) (by omega)
      go_wp2
      go_cut [11] (fun f wz => ∃ (F : En) (a2 : Option Addr) (c2 : Nat), F.Ok ∧ Hid (rm E l = true → F = puts E l) ∧ f = .int .i64 fr ∧ B3 wz (w.heap.size + 1 + 1) (.int .u64 F.low) (.int .u32 F.R) (.slice a2 F.m c2) ∧ Rw .u8 wz (.slice a2 F.m c2) F.out ∧ Hid (SlGe w.heap.size (.slice a2 F.m c2) F.out) ∧ B3 wz w.heap.size (.int .u64 L) (.int .u32 R) (.slice a n cap) ∧ B3 wz (w.heap.size + 1) (.int .u64 0) (.int .u32 0) (.slice none 0 0) ∧ Below w.heap.size w wz)
      case first =>
        go_region_with (go_at_call 84; refine (hone _ (HEV.out.below (Below.refl _ _).drew)).mono ?_; rintro xx y1 ⟨F, a2, c2, hok2, hF2, rfl, hrw2, hb2'⟩; have hb2 := drew_below hb2'; have hB10y := hB10.below hb2; have hB4y := hB4.below hb2; have hB8y := hB8.below hb2; have hy1 := bthen hbel hb2 hbel.size; obtain ⟨y10, yo0, yo1, yo2, yof0, yof1, yof2⟩ := id hB10y)
        all_goals go_wp2
        all_goals go_meet
        all_goals exact ⟨F, a2, c2, hok2, hF2, rfl, hB10y.set _ _ _, hB10y.apart hrw2.rw (fun z => by simp) (fun z => by simp) (fun z => by simp) _ _ _, (hrw2.mono hbel.size).ge, ((hB4y.other _ _ _ (by omega)).other _ _ _ (by omega)).other _ _ _ (by omega), ((hB8y.other _ _ _ (by omega)).other _ _ _ (by omega)).other _ _ _ (by omega), bset3 hy1 _ _ _ _ (by omega)⟩
      case rest =>
        obtain ⟨F, a2, c2, hok2, HF2, rfl, hC10, hrC, Hgc, hC4, hC8, hbC⟩ := hcut
        rcases HF.out with ⟨hrm, rfl⟩ | ⟨hrm, rfl⟩
        · have HF3 : Hid (F = puts E l) := HF2.out hrm
          have HR3 : Hid (rm E l = true) := hrm
          clear hrm HF HF2
          go_wp2
          go_roundw
          case rel => exact ⟨k + 1, F, F.low, F.R, a2, F.m, c2, by omega, by go_num, rfl, by unfold Hid; rw [HS.out, puts_append, ← HE.out]; exact HF3.out, by unfold Hid; rw [HS.out, rm_append, HRM.out, ← HE.out, HR3.out]; rfl, (fun _ => hok2.encB), (fun _ => Hgc.out), hok2.ev hrC, hC10, hC4, hC8, hbC⟩
          case measure => simp [intOf]; omega
        · have HR3 : Hid (rm e (chK false x y 5) = false) := by
            refine Hstop.out ?_
            rw [HS.out, rm_append, HRM.out, ← HE.out, hrm]; rfl
          have hA1 := (gp_full Hgood.out HR3.out).1.symm.trans HE1.out
          have hA2 := (gp_full Hgood.out HR3.out).2.symm.trans HER1.out
          subst hA2
          obtain rfl := hA1
          have hev2 := Hev.out.below hbC
          obtain ⟨z4, q0, q1, q2, qf0, qf1, qf2⟩ := id hC4
          clear hrm HF HF2
          go_wp2_with (go_at_call 82; refine (has _ hev2).mono ?_; rintro xx w1 ⟨a1, c1, rfl, hrw, hb1⟩; have hB1 := hC8.below hb1; obtain ⟨rz, r0, r1, r2, p0, p1, p2⟩ := id hB1)
          exact bodyPost_ret (v := .tuple #[.agg #[.int .u64 e.low, .int .u32 e.R, .slice a1 e.m c1], .int .i64 3]) (by simp [results, Tryz.results53, go_sem, r0, r1, r2, p0, p1, p2]) rfl ⟨a1, c1, rfl, (((hrw.set _ _ _ hC8.z).set _ _ _ hC8.z).set _ _ _ hC8.z).mono hbC.size, bset3 (bthen hbC hb1 hbC.size) _ _ _ _ (by omega)⟩
    · obtain rfl : k = 5 := by omega
      have hA1 := (gp_ok Hgood.out HRM.out).1.symm.trans HE1.out
      have hA2 := (gp_ok Hgood.out HRM.out).2.symm.trans HER1.out
      rw [← HE.out] at hA1
      subst hA2
      obtain rfl := hA1
      obtain ⟨rfl, rfl, rfl, hrw⟩ := HEV.out.encB (Hpos.out (by decide))
      obtain ⟨z10, o0, o1, o2, of0, of1, of2⟩ := id hB10
      obtain ⟨rz, r0, r1, r2, p0, p1, p2⟩ := id hB8
      have Hg5 := hid (Hge.out (by decide))
      clear hlt HE HRM Hpos Hge HEV HE1 HER1
      go_wp2
      exact bodyPost_ret (v := .tuple #[.agg #[.int .u64 E.low, .int .u32 E.R, .slice a' E.m c'], .int .i64 0]) (by simp [results, Tryz.results53, go_sem, r0, r1, r2, p0, p1, p2]) rfl ⟨a', c', rfl, RwF.of_ge (hB8.apart hrw (fun z => by simp) (fun z => by simp) (fun z => by simp) _ _ _) Hg5.out, bset3 hbel _ _ _ _ (by omega)⟩

theorem gputF_any (L R : Int) (a : Option Addr) (n cap : Nat) (e : En) (ax : Option Addr) (nx cx : Nat) (x : List Int) (ay : Option Addr) (ny cy : Nat) (y : List Int) (intra : Bool) (hx : nx = x.length) (hy : ny = y.length) (w : World) (h : EvOf w L R a n cap e) (hvx : Rw .i64 w (.slice ax nx cx) x) (hvy : Rw .i64 w (.slice ay ny cy) y) :
    Calls Tryz.prog 53 #[.agg #[.int .u64 L, .int .u32 R, .slice a n cap], .slice ax nx cx, .slice ay ny cy, .bool intra] w fun xx w' => PutQ w xx w' (gpE e x y intra) (gpF e x y intra) := by
  cases hb : gpB x y intra
  · rw [(gp_arg (e := e) hb).1, (gp_arg (e := e) hb).2]
    exact gput_arg L R a n cap e ax nx cx x ay ny cy y intra hx hy w h hvx hvy hb
  · cases intra
    · exact gput_against L R a n cap e ax nx cx x ay ny cy y hx hy w h hvx hvy hb
    · exact gput_alone L R a n cap e ax nx cx x ay ny cy y hx hy w h hvx hvy hb
theorem gput_any (L R : Int) (a : Option Addr) (n cap : Nat) (e : En) (ax : Option Addr) (nx cx : Nat) (x : List Int) (ay : Option Addr) (ny cy : Nat) (y : List Int) (intra : Bool) (hx : nx = x.length) (hy : ny = y.length) (w : World) (h : EvOf w L R a n cap e) (hvx : Rw .i64 w (.slice ax nx cx) x) (hvy : Rw .i64 w (.slice ay ny cy) y) :
    Calls Tryz.prog 53 #[.agg #[.int .u64 L, .int .u32 R, .slice a n cap], .slice ax nx cx, .slice ay ny cy, .bool intra] w fun xx w' => PutP w xx w' (gpE e x y intra) (gpF e x y intra) := by
  refine (gputF_any L R a n cap e ax nx cx x ay ny cy y intra hx hy w h hvx hvy).mono ?_
  rintro xx w' ⟨a', c', hxx, hr, hb⟩
  exact ⟨a', c', hxx, hr.rw, hb⟩
end Go.Proofs.YtidppkbphkcmeaaGreat
/- The contract of the document's Put of gains, intra and against the gains ahead. -/
namespace Go.Proofs.YtidppkbphkcmeaaGreat
open Go.RowKit
set_option linter.unusedVariables false
set_option linter.unusedSimpArgs false

theorem rEv.set2 {w : World} {R : Int} {a : Option Addr} {n cap : Nat} {e : En} (h : rEv w R a n cap e) {b : Nat} {R' : Int} {v : Value} (hB : B2 w b (.int .u64 R') v) (hv : ∀ z, v ≠ .int .i64 z) (y0 y1 : Value) : rEv ((w.setCell ⟨b, 0, none⟩ y0).setCell ⟨b, 1, none⟩ y1) R a n cap e :=
  ⟨h.1, h.2.1, h.2.2.1, hB.apart h.2.2.2 (fun z => by simp) hv _ _⟩
theorem B2.set {w : World} {b : Nat} {x0 x1 : Value} (h : B2 w b x0 x1) (y0 y1 : Value) : B2 ((w.setCell ⟨b, 0, none⟩ y0).setCell ⟨b, 1, none⟩ y1) b y0 y1 := (h.set0 y0).set1 y1
theorem bset2x {B : Nat} {a w : World} (h : Below B a w) (p : Nat) (x0 x1 : Value) (hp : B ≤ p) : Below B a ((w.setCell ⟨p, 0, none⟩ x0).setCell ⟨p, 1, none⟩ x1) := bset1 (bset1 h p 0 x0 hp) p 1 x1 hp

set_option maxRecDepth 10000 in
set_option maxHeartbeats 2000000 in
theorem rgput_arg (R : Int) (a : Option Addr) (n cap : Nat) (e : En) (ax : Option Addr) (nx cx : Nat) (x : List Int) (ay : Option Addr) (ny cy : Nat) (y : List Int) (intra : Bool) (hx : nx = x.length) (hy : ny = y.length) (hlx : x.length ≤ 100) (hly : y.length ≤ 100) (w : World) (h : rEv w R a n cap e) (hvx : Rw .i64 w (.slice ax nx cx) x) (hvy : Rw .i64 w (.slice ay ny cy) y) (hbad : gpB x y intra = false) :
    Calls Tryz.prog 32 #[.agg #[.int .u64 R, .slice a n cap], .slice ax nx cx, .slice ay ny cy, .bool intra] w fun xx w' => RPut w xx w' e 1 := by
  have hW := below2 w (.cells #[.int .u64 R, .slice a n cap] 65) (.cells #[.int .u64 0, .slice none 0 0] 65)
  have hr := fun W h => rright_any ax nx cx x hx hlx W h
  have hra := fun W h => rright_any ay ny cy y hy hly W h
  have h1 := h.below hW
  have h2 := hvx.below hW
  have h3 := hvy.below hW
  have hBr := B2.new2 w (.cells #[.int .u64 R, .slice a n cap] 65) (.int .u64 0) (.slice none 0 0) 65
  obtain ⟨rz, r0, r1, p0, p1⟩ := id hBr
  clear hx hy hlx hly
  unfold gpB at hbad
  generalize gokB x = p at *
  generalize gokB y = q at *
  unfold RPut
  cases p
  · clear hbad
    go_enter Tryz.func32, Tryz.ntmps32
    go_wp2_with ((go_at_call_of 29 (Value.slice ax nx cx); refine (hr _ h2).mono ?_; rintro x w9 ⟨rfl, h9⟩; have h9 := h9.symm; subst h9))
    exact bodyPost_ret (v := .tuple #[.agg #[.int .u64 R, .slice a n cap], .int .i64 1]) (by simp [results, Tryz.results32, go_sem, r0, r1, p0, p1]) rfl ⟨R, a, n, cap, rfl, (by first | exact h.below (below2 _ _ _) | exact h1.set2 hBr (fun z => by simp) _ _), (by first | exact below2 _ _ _ | exact bset2x hW _ _ _ (by omega))⟩
  · simp only [Bool.true_and] at hbad
    cases intra
    · simp only [Bool.false_or] at hbad
      subst hbad
      go_enter Tryz.func32, Tryz.ntmps32
      go_wp2_with (first | (go_at_call_of 29 (Value.slice ax nx cx); refine (hr _ h2).mono ?_; rintro x w9 ⟨rfl, h9⟩; have h9 := h9.symm; subst h9) | (go_at_call_of 29 (Value.slice ay ny cy); refine (hra _ h3).mono ?_; rintro x w9 ⟨rfl, h9⟩; have h9 := h9.symm; subst h9))
      exact bodyPost_ret (v := .tuple #[.agg #[.int .u64 R, .slice a n cap], .int .i64 1]) (by simp [results, Tryz.results32, go_sem, r0, r1, p0, p1]) rfl ⟨R, a, n, cap, rfl, (by first | exact h.below (below2 _ _ _) | exact h1.set2 hBr (fun z => by simp) _ _), (by first | exact below2 _ _ _ | exact bset2x hW _ _ _ (by omega))⟩
    · simp at hbad

set_option maxRecDepth 10000 in
set_option maxHeartbeats 4000000 in
theorem rgput_alone (R : Int) (a : Option Addr) (n cap : Nat) (e : En) (ax : Option Addr) (nx cx : Nat) (x : List Int) (ay : Option Addr) (ny cy : Nat) (y : List Int) (hx : nx = x.length) (hy : ny = y.length) (hlx : x.length ≤ 100) (hly : y.length ≤ 100) (w : World) (h : rEv w R a n cap e) (hvx : Rw .i64 w (.slice ax nx cx) x) (hvy : Rw .i64 w (.slice ay ny cy) y) (hgood : gpB x y true = true) :
    Calls Tryz.prog 32 #[.agg #[.int .u64 R, .slice a n cap], .slice ax nx cx, .slice ay ny cy, .bool true] w fun xx w' => RPut w xx w' (gpE e x y true) (gpF e x y true) := by
  have hW := below2 w (.cells #[.int .u64 R, .slice a n cap] 65) (.cells #[.int .u64 0, .slice none 0 0] 65)
  have hW3 := below3 w (.cells #[.int .u64 R, .slice a n cap] 65) (.cells #[.int .u64 0, .slice none 0 0] 65) (.cells #[.int .u64 R, .slice a n cap] 65)
  have hr := fun W h => rright_any ax nx cx x hx hlx W h
  have hra := fun W h => rright_any ay ny cy y hy hly W h
  have hgp := id hgood
  unfold gpB at hgp
  rw [Bool.and_eq_true] at hgp
  obtain ⟨hgx, hgy⟩ := hgp
  obtain rfl : nx = 5 := hx.trans (gok_len hgx)
  rw [hgx] at hr
  have h2 := hvx.below hW
  have h3 := hvy.below hW
  have hB4 : B2 (((w.alloc (.cells #[.int .u64 R, .slice a n cap] 65)).alloc (.cells #[.int .u64 0, .slice none 0 0] 65)).alloc (.cells #[.int .u64 R, .slice a n cap] 65)) w.heap.size (.int .u64 R) (.slice a n cap) := (B2.new w _ _ _).below (below2 _ _ _)
  have hB8 : B2 (((w.alloc (.cells #[.int .u64 R, .slice a n cap] 65)).alloc (.cells #[.int .u64 0, .slice none 0 0] 65)).alloc (.cells #[.int .u64 R, .slice a n cap] 65)) (w.heap.size + 1) (.int .u64 0) (.slice none 0 0) := (B2.new2 w _ _ _ _).below (below1 _ _)
  have hB10 : B2 (((w.alloc (.cells #[.int .u64 R, .slice a n cap] 65)).alloc (.cells #[.int .u64 0, .slice none 0 0] 65)).alloc (.cells #[.int .u64 R, .slice a n cap] 65)) (w.heap.size + 1 + 1) (.int .u64 R) (.slice a n cap) := by
    have := B2.new2 (w.alloc (.cells #[.int .u64 R, .slice a n cap] 65)) (.cells #[.int .u64 0, .slice none 0 0] 65) (.int .u64 R) (.slice a n cap) 65
    simpa using this
  have hev3 := h.below hW3
  have Hgood := hid hgood
  have Hgx := hid hgx
  have Hev := hid h
  have Hvx := hid hvx
  have Hvy := hid hvy
  obtain ⟨e1, he1⟩ : ∃ e1, gpE e x y true = e1 := ⟨_, rfl⟩
  obtain ⟨er1, her1⟩ : ∃ er1, gpF e x y true = er1 := ⟨_, rfl⟩
  have HE1 := hid he1
  have HER1 := hid her1
  rw [he1, her1]
  unfold RPut
  clear hx hy hlx hly hgx hgy hgood h hvx hvy he1 her1
  go_enter Tryz.func32, Tryz.ntmps32
  go_wp2_with (first | (go_at_call_of 29 (Value.slice ax 5 cx); refine (hr _ h2).mono ?_; rintro x w9 ⟨rfl, h9⟩; have h9 := h9.symm; subst h9) | (go_at_call_of 29 (Value.slice ay ny cy); refine (hra _ h3).mono ?_; rintro x w9 ⟨rfl, h9⟩; have h9 := h9.symm; subst h9))
  clear hr hra h2 h3 hW
  go_loopw [11] (fun i wr => ∃ (k : Nat) (E : En) (R' : Int) (a' : Option Addr) (n' c' : Nat), k ≤ 5 ∧ i = .int .i64 (k : Nat) ∧ Hid (E = puts e (chK true x y k)) ∧ Hid (rm e (chK true x y k) = true) ∧ Hid (rEv wr R' a' n' c' E) ∧ B2 wr (w.heap.size + 1 + 1) (.int .u64 R') (.slice a' n' c') ∧ B2 wr w.heap.size (.int .u64 R) (.slice a n cap) ∧ B2 wr (w.heap.size + 1) (.int .u64 0) (.slice none 0 0) ∧ Below w.heap.size w wr) (fun i _ => 5 - (intOf i).toNat)
  case atStart => exact ⟨0, e, R, a, n, cap, by omega, rfl, rfl, rfl, hev3, hB10, hB4, hB8, hW3⟩
  case round =>
    clear hB4 hB8 hB10 hev3 hW3
    obtain ⟨k, E, R', a', n', c', hk, rfl, HE, HRM, HEV, hB10, hB4, hB8, hbel⟩ := hrel
    obtain ⟨W1, rfl⟩ : ∃ z, z = wr := ⟨wr, rfl⟩
    by_cases hlt : k < 5
    · obtain ⟨G, hG, hG4⟩ := gok_at Hgx.out k hlt
      obtain ⟨b, off, rfl, hb, hcx⟩ := Hvx.out.atn k hlt
      rw [hG] at hcx
      have hbr : b < W1.heap.size := Nat.lt_of_lt_of_le hb hbel.size
      have dx := (hbel.cell (p := ⟨b, off + k, none⟩) hb).trans hcx
      have Hstop : Hid _ := @rm_stop e x y true k hlt
      have i1 : (0 : Int) ≤ (k : Int) := by omega
      have i2 : (k : Int) < 5 := by omega
      have i3 : IntKind.i64.wrap (k : Int) = k := wraps_i64 _ (by omega) (by omega)
      have i4 : IntKind.u64.wrap (G : Int) = G := nat_u64 _ (by omega)
      have HS : Hid _ := chK_succ true x y k
      rw [hG, Int.toNat_natCast, show ∀ A, chG true G A = [(G, G + 1, 45)] from fun A => rfl] at HS
      obtain ⟨z10, o0, o1, of0, of1⟩ := id hB10
      clear hcx hb
      go_wp2
      have hn1 := num_one (e := E) (v := G) (n := 45) (by omega) (by decide)
      have hone := fun W h => rputNum_any R' a' n' c' E G 45 W h
      rw [hn1.1] at hone
      have HF0 := hid hn1.2
      have HF := hid (rmF_cases E [(G, G + 1, 45)])
      generalize putNE E G 45 = F at hone HF0
      clear hn1
      generalize hf : rmF E [(G, G + 1, 45)] = fr at hone HF
      clear hf
      go_cut [12] (fun f wz => ∃ (R2 : Int) (a2 : Option Addr) (n2 c2 : Nat), f = .int .i64 fr ∧ Hid (rEv wz R2 a2 n2 c2 F) ∧ B2 wz (w.heap.size + 1 + 1) (.int .u64 R2) (.slice a2 n2 c2) ∧ B2 wz w.heap.size (.int .u64 R) (.slice a n cap) ∧ B2 wz (w.heap.size + 1) (.int .u64 0) (.slice none 0 0) ∧ Below w.heap.size w wz)
      case first =>
        go_region_with (go_at_call 34; refine (hone _ (HEV.out.below (Below.refl _ _).drew)).mono ?_; rintro xx y1 ⟨R2, a2, n2, c2, rfl, hrw2, hb2'⟩; have hb2 := drew_below hb2'; have hB10y := hB10.below hb2; have hB4y := hB4.below hb2; have hB8y := hB8.below hb2; have hy1 := bthen hbel hb2 hbel.size; obtain ⟨y10, yo0, yo1, yof0, yof1⟩ := id hB10y)
        all_goals go_wp2
        all_goals go_meet
        all_goals exact ⟨R2, a2, n2, c2, rfl, hrw2.set2 hB10y (fun z => by simp) _ _, hB10y.set _ _, (hB4y.other _ _ _ (by omega)).other _ _ _ (by omega), (hB8y.other _ _ _ (by omega)).other _ _ _ (by omega), bset2x hy1 _ _ _ (by omega)⟩
      case rest =>
        obtain ⟨R2, a2, n2, c2, rfl, HEV2, hC10, hC4, hC8, hbC⟩ := hcut
        rcases HF.out with ⟨hrm, rfl⟩ | ⟨hrm, rfl⟩
        · have HF3 : Hid (F = puts E [(G, G + 1, 45)]) := HF0.out hrm
          have HR3 : Hid (rm E [(G, G + 1, 45)] = true) := hrm
          clear hrm HF HF0
          go_wp2
          go_roundw
          case rel => exact ⟨k + 1, F, R2, a2, n2, c2, by omega, by go_num, by unfold Hid; rw [HS.out, puts_append, ← HE.out]; exact HF3.out, by unfold Hid; rw [HS.out, rm_append, HRM.out, ← HE.out]; exact HR3.out, HEV2.out, hC10, hC4, hC8, hbC⟩
          case measure => simp [intOf]; omega
        · have Hrm := hid hrm
          have HR3 : Hid (rm e (chK true x y 5) = false) := by
            refine Hstop.out ?_
            rw [HS.out, rm_append, HRM.out, ← HE.out]; exact Hrm.out
          have hA1 := (gp_full Hgood.out HR3.out).1.symm.trans HE1.out
          have hA2 := (gp_full Hgood.out HR3.out).2.symm.trans HER1.out
          subst hA2
          obtain rfl := hA1
          obtain ⟨z4, q0, q1, qf0, qf1⟩ := id hC4
          obtain ⟨rz, r0, r1, p0, p1⟩ := id hC8
          clear hrm HF HF0
          go_wp2
          exact bodyPost_ret (v := .tuple #[.agg #[.int .u64 R, .slice a n cap], .int .i64 3]) (by simp [results, Tryz.results32, go_sem, r0, r1, p0, p1]) rfl ⟨R, a, n, cap, rfl, (Hev.out.below hbC).set2 hC8 (fun z => by simp) _ _, bset2x hbC _ _ _ (by omega)⟩
    · obtain rfl : k = 5 := by omega
      have hA1 := (gp_ok Hgood.out HRM.out).1.symm.trans HE1.out
      have hA2 := (gp_ok Hgood.out HRM.out).2.symm.trans HER1.out
      rw [← HE.out] at hA1
      subst hA2
      obtain rfl := hA1
      obtain ⟨z10, o0, o1, of0, of1⟩ := id hB10
      obtain ⟨rz, r0, r1, p0, p1⟩ := id hB8
      clear hlt HE HRM HE1 HER1
      go_wp2
      exact bodyPost_ret (v := .tuple #[.agg #[.int .u64 R', .slice a' n' c'], .int .i64 0]) (by simp [results, Tryz.results32, go_sem, r0, r1, p0, p1]) rfl ⟨R', a', n', c', rfl, HEV.out.set2 hB8 (fun z => by simp) _ _, bset2x hbel _ _ _ (by omega)⟩

set_option maxRecDepth 10000 in
set_option maxHeartbeats 4000000 in
theorem rgput_against (R : Int) (a : Option Addr) (n cap : Nat) (e : En) (ax : Option Addr) (nx cx : Nat) (x : List Int) (ay : Option Addr) (ny cy : Nat) (y : List Int) (hx : nx = x.length) (hy : ny = y.length) (hlx : x.length ≤ 100) (hly : y.length ≤ 100) (w : World) (h : rEv w R a n cap e) (hvx : Rw .i64 w (.slice ax nx cx) x) (hvy : Rw .i64 w (.slice ay ny cy) y) (hgood : gpB x y false = true) :
    Calls Tryz.prog 32 #[.agg #[.int .u64 R, .slice a n cap], .slice ax nx cx, .slice ay ny cy, .bool false] w fun xx w' => RPut w xx w' (gpE e x y false) (gpF e x y false) := by
  have hW := below2 w (.cells #[.int .u64 R, .slice a n cap] 65) (.cells #[.int .u64 0, .slice none 0 0] 65)
  have hW3 := below3 w (.cells #[.int .u64 R, .slice a n cap] 65) (.cells #[.int .u64 0, .slice none 0 0] 65) (.cells #[.int .u64 R, .slice a n cap] 65)
  have hr := fun W h => rright_any ax nx cx x hx hlx W h
  have hra := fun W h => rright_any ay ny cy y hy hly W h
  have hgp := id hgood
  unfold gpB at hgp
  rw [Bool.and_eq_true] at hgp
  obtain ⟨hgx, hgy⟩ := hgp
  obtain rfl : nx = 5 := hx.trans (gok_len hgx)
  have hgy' : gokB y = true := by simpa using hgy
  have Hgy' := hid hgy'
  obtain rfl : ny = 5 := hy.trans (gok_len hgy')
  rw [hgy'] at hra
  clear hgy'
  rw [hgx] at hr
  have h2 := hvx.below hW
  have h3 := hvy.below hW
  have hB4 : B2 (((w.alloc (.cells #[.int .u64 R, .slice a n cap] 65)).alloc (.cells #[.int .u64 0, .slice none 0 0] 65)).alloc (.cells #[.int .u64 R, .slice a n cap] 65)) w.heap.size (.int .u64 R) (.slice a n cap) := (B2.new w _ _ _).below (below2 _ _ _)
  have hB8 : B2 (((w.alloc (.cells #[.int .u64 R, .slice a n cap] 65)).alloc (.cells #[.int .u64 0, .slice none 0 0] 65)).alloc (.cells #[.int .u64 R, .slice a n cap] 65)) (w.heap.size + 1) (.int .u64 0) (.slice none 0 0) := (B2.new2 w _ _ _ _).below (below1 _ _)
  have hB10 : B2 (((w.alloc (.cells #[.int .u64 R, .slice a n cap] 65)).alloc (.cells #[.int .u64 0, .slice none 0 0] 65)).alloc (.cells #[.int .u64 R, .slice a n cap] 65)) (w.heap.size + 1 + 1) (.int .u64 R) (.slice a n cap) := by
    have := B2.new2 (w.alloc (.cells #[.int .u64 R, .slice a n cap] 65)) (.cells #[.int .u64 0, .slice none 0 0] 65) (.int .u64 R) (.slice a n cap) 65
    simpa using this
  have hev3 := h.below hW3
  have Hgood := hid hgood
  have Hgx := hid hgx
  have Hev := hid h
  have Hvx := hid hvx
  have Hvy := hid hvy
  obtain ⟨e1, he1⟩ : ∃ e1, gpE e x y false = e1 := ⟨_, rfl⟩
  obtain ⟨er1, her1⟩ : ∃ er1, gpF e x y false = er1 := ⟨_, rfl⟩
  have HE1 := hid he1
  have HER1 := hid her1
  rw [he1, her1]
  unfold RPut
  clear hx hy hlx hly hgx hgy hgood h hvx hvy he1 her1
  go_enter Tryz.func32, Tryz.ntmps32
  go_wp2_with (first | (go_at_call_of 29 (Value.slice ax 5 cx); refine (hr _ h2).mono ?_; rintro x w9 ⟨rfl, h9⟩; have h9 := h9.symm; subst h9) | (go_at_call_of 29 (Value.slice ay 5 cy); refine (hra _ h3).mono ?_; rintro x w9 ⟨rfl, h9⟩; have h9 := h9.symm; subst h9))
  clear hr hra h2 h3 hW
  go_loopw [11] (fun i wr => ∃ (k : Nat) (E : En) (R' : Int) (a' : Option Addr) (n' c' : Nat), k ≤ 5 ∧ i = .int .i64 (k : Nat) ∧ Hid (E = puts e (chK false x y k)) ∧ Hid (rm e (chK false x y k) = true) ∧ Hid (rEv wr R' a' n' c' E) ∧ B2 wr (w.heap.size + 1 + 1) (.int .u64 R') (.slice a' n' c') ∧ B2 wr w.heap.size (.int .u64 R) (.slice a n cap) ∧ B2 wr (w.heap.size + 1) (.int .u64 0) (.slice none 0 0) ∧ Below w.heap.size w wr) (fun i _ => 5 - (intOf i).toNat)
  case atStart => exact ⟨0, e, R, a, n, cap, by omega, rfl, rfl, rfl, hev3, hB10, hB4, hB8, hW3⟩
  case round =>
    clear hB4 hB8 hB10 hev3 hW3
    obtain ⟨k, E, R', a', n', c', hk, rfl, HE, HRM, HEV, hB10, hB4, hB8, hbel⟩ := hrel
    obtain ⟨W1, rfl⟩ : ∃ z, z = wr := ⟨wr, rfl⟩
    by_cases hlt : k < 5
    · obtain ⟨G, hG, hG4⟩ := gok_at Hgx.out k hlt
      obtain ⟨b, off, rfl, hb, hcx⟩ := Hvx.out.atn k hlt
      rw [hG] at hcx
      have Hb := hid hb
      have Hcx := hid hcx
      have hbr : b < W1.heap.size := Nat.lt_of_lt_of_le hb hbel.size
      have dx := (hbel.cell (p := ⟨b, off + k, none⟩) hb).trans hcx
      have Hstop : Hid _ := @rm_stop e x y false k hlt
      have i1 : (0 : Int) ≤ (k : Int) := by omega
      have i2 : (k : Int) < 5 := by omega
      have i3 : IntKind.i64.wrap (k : Int) = k := wraps_i64 _ (by omega) (by omega)
      have i4 : IntKind.u64.wrap (G : Int) = G := nat_u64 _ (by omega)
      obtain ⟨A, hA, hA4⟩ := gok_at Hgy'.out k hlt
      obtain ⟨b', off', rfl, hb', hcy⟩ := Hvy.out.atn k hlt
      rw [hA] at hcy
      have hbr' : b' < W1.heap.size := Nat.lt_of_lt_of_le hb' hbel.size
      have dy := (hbel.cell (p := ⟨b', off' + k, none⟩) hb').trans hcy
      obtain ⟨z10, o0, o1, of0, of1⟩ := id hB10
      clear hcy hb' hcx hb
      by_cases hn : A ≤ G + 3 ∧ G ≤ A + 3
      · obtain ⟨K, hK⟩ : ∃ K, G + 3 - A = K := ⟨_, rfl⟩
        have hK7 : (K : Int) ≤ 6 := by omega
        have hK2 : (G : Int) - (A : Int) + 3 = (K : Int) := by omega
        have HS : Hid _ := chK_succ false x y k
        rw [hG, hA, Int.toNat_natCast, Int.toNat_natCast, show chG false G A = [(K, K + 1, 8)] from by unfold chG; rw [if_neg (by decide), if_pos hn, hK]] at HS
        have hp1 := put_one (e := E) (lo := K) (hi := K + 1) (tot := 8) (fair_one (by omega) (by decide))
        have hput := fun W h => rput_all R' a' n' c' E (K : Int) ((K : Int) + 1) 8 W h
        have hq : putF E (K : Int) ((K : Int) + 1) 8 = rmF E [(K, K + 1, 8)] := hp1.1
        have HQ : Hid (rm E [(K, K + 1, 8)] = true → putE E (K : Int) ((K : Int) + 1) 8 = puts E [(K, K + 1, 8)]) := hp1.2
        rw [hq] at hput
        clear hp1 hq hK hn
        generalize putE E (K : Int) ((K : Int) + 1) 8 = F at hput HQ
        have HF := hid (rmF_cases E [(K, K + 1, 8)])
        generalize hf : rmF E [(K, K + 1, 8)] = fr at hput HF
        clear hf
        have k0 : (0 : Int) ≤ (K : Int) := by omega
        have i5 : IntKind.i64.wrap ((G : Int) - (A : Int)) = (G : Int) - (A : Int) := wraps_i64 _ (by omega) (by omega)
        go_wp2
        go_region
        have hbd := (Below.refl W1.heap.size W1).drew
        have hbrd : b < W1.drew.heap.size := hbr
        replace HEV := hid (HEV.out.below hbd)
        replace hB10 := hB10.below hbd
        replace hB4 := hB4.below hbd
        replace hB8 := hB8.below hbd
        replace hbel := bthen hbel hbd hbel.size
        clear z10 o0 o1 of0 of1 dx dy hbr' hbr hbd
        generalize W1.drew = W3 at *
        obtain ⟨z10, o0, o1, of0, of1⟩ := id hB10
        rcases HF.out with ⟨hrm, rfl⟩ | ⟨hrm, rfl⟩
        · have HF3 : Hid (F = puts E [(K, K + 1, 8)]) := HQ.out hrm
          have HR3 : Hid (rm E [(K, K + 1, 8)] = true) := hrm
          clear hrm HF HQ
          go_wp2_with (go_at_call 31; refine (hput _ HEV.out).mono ?_; rintro xx w1 ⟨R2, a2, n2, c2, rfl, hrw2, hb2⟩; have hB10y := hB10.below hb2; have hB4y := hB4.below hb2; have hB8y := hB8.below hb2; have hy1 := bthen hbel hb2 hbel.size; obtain ⟨y10, yo0, yo1, yof0, yof1⟩ := id hB10y; obtain ⟨z4, q0, q1, qf0, qf1⟩ := id hB4y; obtain ⟨rz, r0, r1, p0, p1⟩ := id hB8y)
          have hC10 := hB10y.set (.int .u64 R2) (.slice a2 n2 c2)
          have hC4 : B2 ((w1.setCell ⟨w.heap.size + 1 + 1, 0, none⟩ (.int .u64 R2)).setCell ⟨w.heap.size + 1 + 1, 1, none⟩ (.slice a2 n2 c2)) w.heap.size (.int .u64 R) (.slice a n cap) := (hB4y.other _ _ _ (by omega)).other _ _ _ (by omega)
          have hC8 : B2 ((w1.setCell ⟨w.heap.size + 1 + 1, 0, none⟩ (.int .u64 R2)).setCell ⟨w.heap.size + 1 + 1, 1, none⟩ (.slice a2 n2 c2)) (w.heap.size + 1) (.int .u64 0) (.slice none 0 0) := (hB8y.other _ _ _ (by omega)).other _ _ _ (by omega)
          have hbC := bset2x hy1 (w.heap.size + 1 + 1) (.int .u64 R2) (.slice a2 n2 c2) (by omega)
          have HEV2 := hid (hrw2.set2 hB10y (fun z => by simp) (.int .u64 R2) (.slice a2 n2 c2))
          go_roundw
          case rel => exact ⟨k + 1, F, R2, a2, n2, c2, by omega, by go_num, by unfold Hid; rw [HS.out, puts_append, ← HE.out]; exact HF3.out, by unfold Hid; rw [HS.out, rm_append, HRM.out, ← HE.out]; exact HR3.out, HEV2.out, hC10, hC4, hC8, hbC⟩
          case measure => simp [intOf]; omega
        · have Hrm := hid hrm
          have HR3 : Hid (rm e (chK false x y 5) = false) := by
            refine Hstop.out ?_
            rw [HS.out, rm_append, HRM.out, ← HE.out]; exact Hrm.out
          have hA1 := (gp_full Hgood.out HR3.out).1.symm.trans HE1.out
          have hA2 := (gp_full Hgood.out HR3.out).2.symm.trans HER1.out
          subst hA2
          obtain rfl := hA1
          clear hrm HF HQ
          go_wp2_with (go_at_call 31; refine (hput _ HEV.out).mono ?_; rintro xx w1 ⟨R2, a2, n2, c2, rfl, hrw2, hb2⟩; have hB10y := hB10.below hb2; have hB4y := hB4.below hb2; have hB8y := hB8.below hb2; have hy1 := bthen hbel hb2 hbel.size; obtain ⟨y10, yo0, yo1, yof0, yof1⟩ := id hB10y; obtain ⟨z4, q0, q1, qf0, qf1⟩ := id hB4y; obtain ⟨rz, r0, r1, p0, p1⟩ := id hB8y)
          have hC10 := hB10y.set (.int .u64 R2) (.slice a2 n2 c2)
          have hC4 : B2 ((w1.setCell ⟨w.heap.size + 1 + 1, 0, none⟩ (.int .u64 R2)).setCell ⟨w.heap.size + 1 + 1, 1, none⟩ (.slice a2 n2 c2)) w.heap.size (.int .u64 R) (.slice a n cap) := (hB4y.other _ _ _ (by omega)).other _ _ _ (by omega)
          have hC8 : B2 ((w1.setCell ⟨w.heap.size + 1 + 1, 0, none⟩ (.int .u64 R2)).setCell ⟨w.heap.size + 1 + 1, 1, none⟩ (.slice a2 n2 c2)) (w.heap.size + 1) (.int .u64 0) (.slice none 0 0) := (hB8y.other _ _ _ (by omega)).other _ _ _ (by omega)
          have hbC := bset2x hy1 (w.heap.size + 1 + 1) (.int .u64 R2) (.slice a2 n2 c2) (by omega)
          have HEV2 := hid (hrw2.set2 hB10y (fun z => by simp) (.int .u64 R2) (.slice a2 n2 c2))
          exact bodyPost_ret (v := .tuple #[.agg #[.int .u64 R, .slice a n cap], .int .i64 3]) (by simp [results, Tryz.results32, go_sem, r0, r1, p0, p1]) rfl ⟨R, a, n, cap, rfl, (Hev.out.below hbC).set2 hC8 (fun z => by simp) _ _, bset2x hbC _ _ _ (by omega)⟩
      · obtain ⟨K, hK2⟩ : ∃ K, (G : Int) - (A : Int) + 3 = K := ⟨_, rfl⟩
        have hK : K < 0 ∨ (0 ≤ K ∧ 6 < K) := by omega
        have HS : Hid _ := chK_succ false x y k
        rw [hG, hA, Int.toNat_natCast, Int.toNat_natCast, show chG false G A = [(7, 8, 8), (G, G + 1, 45)] from by unfold chG; rw [if_neg (by decide), if_neg hn]] at HS
        have HT := hid (rm_two E (7, 8, 8) (G, G + 1, 45))
        have hp1 := put_one (e := E) (lo := 7) (hi := 8) (tot := 8) (fair_one (by omega) (by decide))
        have hput := fun W h => rput_all R' a' n' c' E 7 8 8 W h
        have hq : putF E 7 8 8 = rmF E [(7, 8, 8)] := hp1.1
        have HQ : Hid (rm E [(7, 8, 8)] = true → putE E 7 8 8 = puts E [(7, 8, 8)]) := hp1.2
        rw [hq] at hput
        clear hp1 hq hn
        generalize putE E 7 8 8 = F at hput HQ
        have HF := hid (rmF_cases E [(7, 8, 8)])
        generalize hf : rmF E [(7, 8, 8)] = fr at hput HF
        clear hf
        have i5 : IntKind.i64.wrap ((G : Int) - (A : Int)) = (G : Int) - (A : Int) := wraps_i64 _ (by omega) (by omega)
        go_wp2
        go_region
        have hbd := (Below.refl W1.heap.size W1).drew
        have hbrd : b < W1.drew.heap.size := hbr
        replace HEV := hid (HEV.out.below hbd)
        replace hB10 := hB10.below hbd
        replace hB4 := hB4.below hbd
        replace hB8 := hB8.below hbd
        replace hbel := bthen hbel hbd hbel.size
        clear z10 o0 o1 of0 of1 dx dy hbr' hbr hbd
        generalize W1.drew = W3 at *
        obtain ⟨z10, o0, o1, of0, of1⟩ := id hB10
        rcases HF.out with ⟨hrm, rfl⟩ | ⟨hrm, rfl⟩
        · have hFE := HQ.out hrm
          have HR7 : Hid (rm E [(7, 8, 8)] = true) := hrm
          rw [hFE] at hput
          clear hrm HF HQ hFE
          generalize hE2 : puts E [(7, 8, 8)] = E2 at hput
          have HE2 := hid hE2
          clear hE2 F
          rcases hK with hK | ⟨hK0, hK⟩
          all_goals
            go_wp2_with (go_at_call 31; refine (hput _ HEV.out).mono ?_; rintro xx w1 ⟨R2, a2, n2, c2, rfl, hrw2, hb2⟩; have hB10y := hB10.below hb2; have hB4y := hB4.below hb2; have hB8y := hB8.below hb2; have hy1 := bthen hbel hb2 hbel.size; obtain ⟨y10, yo0, yo1, yof0, yof1⟩ := id hB10y; obtain ⟨z4, q0, q1, qf0, qf1⟩ := id hB4y; obtain ⟨rz, r0, r1, p0, p1⟩ := id hB8y)
            have hC10 := hB10y.set (.int .u64 R2) (.slice a2 n2 c2)
            have hC4 : B2 ((w1.setCell ⟨w.heap.size + 1 + 1, 0, none⟩ (.int .u64 R2)).setCell ⟨w.heap.size + 1 + 1, 1, none⟩ (.slice a2 n2 c2)) w.heap.size (.int .u64 R) (.slice a n cap) := (hB4y.other _ _ _ (by omega)).other _ _ _ (by omega)
            have hC8 : B2 ((w1.setCell ⟨w.heap.size + 1 + 1, 0, none⟩ (.int .u64 R2)).setCell ⟨w.heap.size + 1 + 1, 1, none⟩ (.slice a2 n2 c2)) (w.heap.size + 1) (.int .u64 0) (.slice none 0 0) := (hB8y.other _ _ _ (by omega)).other _ _ _ (by omega)
            have hbC := bset2x hy1 (w.heap.size + 1 + 1) (.int .u64 R2) (.slice a2 n2 c2) (by omega)
            have HEV2 := hid (hrw2.set2 hB10y (fun z => by simp) (.int .u64 R2) (.slice a2 n2 c2))
            clear HEV hB10 hB4 hB8 hB10y hB4y hB8y hb2 hbel hrw2 y10 yo0 yo1 yof0 yof1 z4 q0 q1 qf0 qf1 rz r0 r1 p0 p1 z10 o0 o1 of0 of1
            have dx2 := (hbC.cell (p := ⟨b, off + k, none⟩) Hb.out).trans Hcx.out
            generalize ((w1.setCell ⟨w.heap.size + 1 + 1, 0, none⟩ (.int .u64 R2)).setCell ⟨w.heap.size + 1 + 1, 1, none⟩ (.slice a2 n2 c2)) = W2 at *
            obtain ⟨z10, o0, o1, of0, of1⟩ := id hC10
            have hn1 := num_one (e := E2) (v := G) (n := 45) (by omega) (by decide)
            have hone := fun W h => rputNum_any R2 a2 n2 c2 E2 G 45 W h
            rw [hn1.1] at hone
            have HF0 := hid hn1.2
            have HF := hid (rmF_cases E2 [(G, G + 1, 45)])
            generalize putNE E2 G 45 = F at hone HF0
            clear hn1
            generalize hf : rmF E2 [(G, G + 1, 45)] = fr at hone HF
            clear hf
            go_cut [12] (fun f wz => ∃ (R2 : Int) (a2 : Option Addr) (n2 c2 : Nat), f = .int .i64 fr ∧ Hid (rEv wz R2 a2 n2 c2 F) ∧ B2 wz (w.heap.size + 1 + 1) (.int .u64 R2) (.slice a2 n2 c2) ∧ B2 wz w.heap.size (.int .u64 R) (.slice a n cap) ∧ B2 wz (w.heap.size + 1) (.int .u64 0) (.slice none 0 0) ∧ Below w.heap.size w wz)
            case first =>
              go_region_with (go_at_call 34; refine (hone _ (HEV2.out.below (Below.refl _ _).drew)).mono ?_; rintro xx y1 ⟨R2, a2, n2, c2, rfl, hrw2, hb2'⟩; have hb2 := drew_below hb2'; have hB10y := hC10.below hb2; have hB4y := hC4.below hb2; have hB8y := hC8.below hb2; have hy1 := bthen hbC hb2 hbC.size; obtain ⟨y10, yo0, yo1, yof0, yof1⟩ := id hB10y)
              all_goals go_wp2
              all_goals go_meet
              all_goals exact ⟨R2, a2, n2, c2, rfl, hrw2.set2 hB10y (fun z => by simp) _ _, hB10y.set _ _, (hB4y.other _ _ _ (by omega)).other _ _ _ (by omega), (hB8y.other _ _ _ (by omega)).other _ _ _ (by omega), bset2x hy1 _ _ _ (by omega)⟩
            case rest =>
              obtain ⟨R2, a2, n2, c2, rfl, HEV2, hC10, hC4, hC8, hbC⟩ := hcut
              rcases HF.out with ⟨hrm, rfl⟩ | ⟨hrm, rfl⟩
              · have HF3 : Hid (F = puts E2 [(G, G + 1, 45)]) := HF0.out hrm
                have HR3 : Hid (rm E2 [(G, G + 1, 45)] = true) := hrm
                clear hrm HF HF0
                go_wp2
                go_roundw
                case rel => exact ⟨k + 1, F, R2, a2, n2, c2, by omega, by go_num, by unfold Hid; rw [HS.out, puts_append, ← HE.out]; exact HF3.out.trans (by rw [← HE2.out]; rfl), by unfold Hid; rw [HS.out, rm_append, HRM.out, ← HE.out]; exact (by rw [HT.out, HR7.out, HE2.out, HR3.out]; rfl), HEV2.out, hC10, hC4, hC8, hbC⟩
                case measure => simp [intOf]; omega
              · have Hrm := hid hrm
                have HR3 : Hid (rm e (chK false x y 5) = false) := by
                  refine Hstop.out ?_
                  rw [HS.out, rm_append, HRM.out, ← HE.out]; exact (by rw [HT.out, HR7.out, HE2.out, Hrm.out]; rfl)
                have hA1 := (gp_full Hgood.out HR3.out).1.symm.trans HE1.out
                have hA2 := (gp_full Hgood.out HR3.out).2.symm.trans HER1.out
                subst hA2
                obtain rfl := hA1
                obtain ⟨z4, q0, q1, qf0, qf1⟩ := id hC4
                obtain ⟨rz, r0, r1, p0, p1⟩ := id hC8
                clear hrm HF HF0
                go_wp2
                exact bodyPost_ret (v := .tuple #[.agg #[.int .u64 R, .slice a n cap], .int .i64 3]) (by simp [results, Tryz.results32, go_sem, r0, r1, p0, p1]) rfl ⟨R, a, n, cap, rfl, (Hev.out.below hbC).set2 hC8 (fun z => by simp) _ _, bset2x hbC _ _ _ (by omega)⟩
        · have Hrm : Hid (rm E [(7, 8, 8), (G, G + 1, 45)] = false) := by unfold Hid; rw [HT.out, hrm]; rfl
          have HR3 : Hid (rm e (chK false x y 5) = false) := by
            refine Hstop.out ?_
            rw [HS.out, rm_append, HRM.out, ← HE.out]; exact Hrm.out
          have hA1 := (gp_full Hgood.out HR3.out).1.symm.trans HE1.out
          have hA2 := (gp_full Hgood.out HR3.out).2.symm.trans HER1.out
          subst hA2
          obtain rfl := hA1
          clear hrm HF HQ
          rcases hK with hK | ⟨hK0, hK⟩
          all_goals
            go_wp2_with (go_at_call 31; refine (hput _ HEV.out).mono ?_; rintro xx w1 ⟨R2, a2, n2, c2, rfl, hrw2, hb2⟩; have hB10y := hB10.below hb2; have hB4y := hB4.below hb2; have hB8y := hB8.below hb2; have hy1 := bthen hbel hb2 hbel.size; obtain ⟨y10, yo0, yo1, yof0, yof1⟩ := id hB10y; obtain ⟨z4, q0, q1, qf0, qf1⟩ := id hB4y; obtain ⟨rz, r0, r1, p0, p1⟩ := id hB8y)
            have hC10 := hB10y.set (.int .u64 R2) (.slice a2 n2 c2)
            have hC4 : B2 ((w1.setCell ⟨w.heap.size + 1 + 1, 0, none⟩ (.int .u64 R2)).setCell ⟨w.heap.size + 1 + 1, 1, none⟩ (.slice a2 n2 c2)) w.heap.size (.int .u64 R) (.slice a n cap) := (hB4y.other _ _ _ (by omega)).other _ _ _ (by omega)
            have hC8 : B2 ((w1.setCell ⟨w.heap.size + 1 + 1, 0, none⟩ (.int .u64 R2)).setCell ⟨w.heap.size + 1 + 1, 1, none⟩ (.slice a2 n2 c2)) (w.heap.size + 1) (.int .u64 0) (.slice none 0 0) := (hB8y.other _ _ _ (by omega)).other _ _ _ (by omega)
            have hbC := bset2x hy1 (w.heap.size + 1 + 1) (.int .u64 R2) (.slice a2 n2 c2) (by omega)
            have HEV2 := hid (hrw2.set2 hB10y (fun z => by simp) (.int .u64 R2) (.slice a2 n2 c2))
            exact bodyPost_ret (v := .tuple #[.agg #[.int .u64 R, .slice a n cap], .int .i64 3]) (by simp [results, Tryz.results32, go_sem, r0, r1, p0, p1]) rfl ⟨R, a, n, cap, rfl, (Hev.out.below hbC).set2 hC8 (fun z => by simp) _ _, bset2x hbC _ _ _ (by omega)⟩
    · obtain rfl : k = 5 := by omega
      have hA1 := (gp_ok Hgood.out HRM.out).1.symm.trans HE1.out
      have hA2 := (gp_ok Hgood.out HRM.out).2.symm.trans HER1.out
      rw [← HE.out] at hA1
      subst hA2
      obtain rfl := hA1
      obtain ⟨z10, o0, o1, of0, of1⟩ := id hB10
      obtain ⟨rz, r0, r1, p0, p1⟩ := id hB8
      clear hlt HE HRM HE1 HER1
      go_wp2
      exact bodyPost_ret (v := .tuple #[.agg #[.int .u64 R', .slice a' n' c'], .int .i64 0]) (by simp [results, Tryz.results32, go_sem, r0, r1, p0, p1]) rfl ⟨R', a', n', c', rfl, HEV.out.set2 hB8 (fun z => by simp) _ _, bset2x hbel _ _ _ (by omega)⟩

theorem rgput_any (R : Int) (a : Option Addr) (n cap : Nat) (e : En) (ax : Option Addr) (nx cx : Nat) (x : List Int) (ay : Option Addr) (ny cy : Nat) (y : List Int) (intra : Bool) (hx : nx = x.length) (hy : ny = y.length) (hlx : x.length ≤ 100) (hly : y.length ≤ 100) (w : World) (h : rEv w R a n cap e) (hvx : Rw .i64 w (.slice ax nx cx) x) (hvy : Rw .i64 w (.slice ay ny cy) y) :
    Calls Tryz.prog 32 #[.agg #[.int .u64 R, .slice a n cap], .slice ax nx cx, .slice ay ny cy, .bool intra] w fun xx w' => RPut w xx w' (gpE e x y intra) (gpF e x y intra) := by
  cases hb : gpB x y intra
  · rw [(gp_arg (e := e) hb).1, (gp_arg (e := e) hb).2]
    exact rgput_arg R a n cap e ax nx cx x ay ny cy y intra hx hy hlx hly w h hvx hvy hb
  · cases intra
    · exact rgput_against R a n cap e ax nx cx x ay ny cy y hx hy hlx hly w h hvx hvy hb
    · exact rgput_alone R a n cap e ax nx cx x ay ny cy y hx hy hlx hly w h hvx hvy hb
end Go.Proofs.YtidppkbphkcmeaaGreat
/- Contracts of gain's takeOne, takeAlone, takeAgainst. -/
namespace Go.Proofs.YtidppkbphkcmeaaGreat
open Go.RowKit
set_option linter.unusedVariables false
set_option linter.unusedSimpArgs false

theorem dG_against (d : De) : dG false d = if d.numV 8 = 7 then (d.numD 8).numD 45 else d.numD 8 := by simp [dG]
theorem vG_against (d : De) (A : Int) : vG false d A = if d.numV 8 = 7 then ((d.numD 8).numV 45 : Int) else clampI (A + (d.numV 8 : Int) - 3) 0 44 := by simp [vG]
theorem dG_alone (d : De) : dG true d = d.numD 45 := by simp [dG]
theorem vG_alone (d : De) (A : Int) : vG true d A = (d.numV 45 : Int) := by simp [vG]
/-- What a call that takes one number answers. -/
def OneT (w : World) (x : Ending) (w' : World) (C R : Int) (a : Option Addr) (n cap : Nat) (A : Int) (d D : De) (v : Int) : Prop := ∃ a' cap', x = .returned (.tuple #[.agg #[.int .u64 D.C, .int .u32 D.R, .slice a' D.B.length cap', .int .i64 D.A], .int .i64 v]) ∧ OutD w w' C R a n cap A d D a' cap'

set_option maxRecDepth 10000 in
set_option maxHeartbeats 2000000 in
theorem gtakeOne_any (C R : Int) (a : Option Addr) (m cap : Nat) (A : Int) (d : De) (n : Nat) (h1 : 1 ≤ n) (h2 : n ≤ 65536) (w : World) (h : DvOf w C R a m cap A d) :
    Calls Tryz.prog 109 #[.agg #[.int .u64 C, .int .u32 R, .slice a m cap, .int .i64 A], .int .u64 n] w fun x w' => OneT w x w' C R a m cap A d (d.numD n) (d.numV n : Nat) := by
  have hlt := numV_lt d h1 h2
  have htk := fun W h => takeNum_any C R a m cap A d n h1 (by omega) W h
  generalize d.numD n = D at *
  generalize d.numV n = V at *
  have i1 : IntKind.i64.wrap (V : Int) = V := wraps_i64 _ (by omega) (by omega)
  have hW := below2 w (.cells #[.int .u64 C, .int .u32 R, .slice a m cap, .int .i64 A] 75) (.cells #[.int .u64 0, .int .u32 0, .slice none 0 0, .int .i64 0] 75)
  clear h1 h2 hlt
  unfold OneT
  go_enter Tryz.func109, Tryz.ntmps109
  go_wp2_with (go_at_call 105; refine (htk _ (h.below hW)).mono ?_; rintro x w1 ⟨a1, c1, rfl, hq, hb1⟩; have hbw1 := bthen hW hb1 hW.size; have hBd := ((B4.new w (.int .u64 C) (.int .u32 R) (.slice a m cap) (.int .i64 A) 75).below (below1 _ (.cells #[.int .u64 0, .int .u32 0, .slice none 0 0, .int .i64 0] 75))).below hb1; have hBr := (B4.new2 w (.cells #[.int .u64 C, .int .u32 R, .slice a m cap, .int .i64 A] 75) (.int .u64 0) (.int .u32 0) (.slice none 0 0) (.int .i64 0) 75).below hb1; obtain ⟨ez, e0, e1, e2, e3, ef0, ef1, ef2, ef3⟩ := id hBd; obtain ⟨rz, r0, r1, r2, r3, p0, p1, p2, p3⟩ := id hBr)
  refine bodyPost_ret (v := .tuple #[.agg #[.int .u64 D.C, .int .u32 D.R, .slice a1 D.B.length c1, .int .i64 D.A], .int .i64 V]) (by simp [results, Tryz.results109, go_sem, r0, r1, r2, r3, p0, p1, p2, p3, e0, e1, e2, e3, ef0, ef1, ef2, ef3]) rfl ⟨a1, c1, rfl, hq, ?_⟩
  exact bset4 (bset4 hbw1 _ _ _ _ _ (by omega)) _ _ _ _ _ (by omega)

set_option maxRecDepth 10000 in
set_option maxHeartbeats 2000000 in
theorem takeAlone_any (C R : Int) (a : Option Addr) (m cap : Nat) (A : Int) (d : De) (w : World) (h : DvOf w C R a m cap A d) :
    Calls Tryz.prog 96 #[.agg #[.int .u64 C, .int .u32 R, .slice a m cap, .int .i64 A]] w fun x w' => OneT w x w' C R a m cap A d (d.numD 45) (d.numV 45 : Nat) := by
  have htk := fun W h => gtakeOne_any C R a m cap A d 45 (by decide) (by decide) W h
  generalize d.numD 45 = D at *
  generalize d.numV 45 = V at *
  have hW := below2 w (.cells #[.int .u64 C, .int .u32 R, .slice a m cap, .int .i64 A] 75) (.cells #[.int .u64 0, .int .u32 0, .slice none 0 0, .int .i64 0] 75)
  unfold OneT at *
  go_enter Tryz.func96, Tryz.ntmps96
  go_wp2_with (go_at_call 109; refine (htk _ (h.below hW)).mono ?_; rintro x w1 ⟨a1, c1, rfl, hq, hb1⟩; have hbw1 := bthen hW hb1 hW.size; have hBr := (B4.new2 w (.cells #[.int .u64 C, .int .u32 R, .slice a m cap, .int .i64 A] 75) (.int .u64 0) (.int .u32 0) (.slice none 0 0) (.int .i64 0) 75).below hb1; obtain ⟨rz, r0, r1, r2, r3, p0, p1, p2, p3⟩ := id hBr)
  exact bodyPost_ret (v := .tuple #[.agg #[.int .u64 D.C, .int .u32 D.R, .slice a1 D.B.length c1, .int .i64 D.A], .int .i64 V]) (by simp [results, Tryz.results96, go_sem, r0, r1, r2, r3, p0, p1, p2, p3]) rfl ⟨a1, c1, rfl, hq, bset4 hbw1 _ _ _ _ _ (by omega)⟩

theorem clampI_cases (K : Int) : (K < 0 ∧ clampI K 0 44 = 0) ∨ (K = 0 ∧ clampI K 0 44 = 0) ∨ (0 < K ∧ K < 44 ∧ clampI K 0 44 = K) ∨ (K = 44 ∧ clampI K 0 44 = 44) ∨ (44 < K ∧ clampI K 0 44 = 44) := by
  unfold clampI
  split
  · omega
  · split <;> omega

set_option maxRecDepth 10000 in
set_option maxHeartbeats 2000000 in
theorem takeAgainst_any (C R : Int) (a : Option Addr) (m cap : Nat) (A : Int) (d : De) (G : Nat) (hG : G ≤ 44) (w : World) (h : DvOf w C R a m cap A d) :
    Calls Tryz.prog 97 #[.agg #[.int .u64 C, .int .u32 R, .slice a m cap, .int .i64 A], .int .i64 G] w fun x w' => OneT w x w' C R a m cap A d (dG false d) (vG false d G) := by
  have htk := fun W h => gtakeOne_any C R a m cap A d 8 (by decide) (by decide) W h
  have hlt := numV_lt d (n := 8) (by decide) (by decide)
  have hok := h.1.numD (n := 8) (by decide) (by decide)
  have hB := De.numD_B d 8
  have hal := fun C R a m cap A W h => takeAlone_any C R a m cap A (d.numD 8) W h
  rw [dG_against, vG_against]
  generalize d.numD 8 = D at *
  generalize d.numV 8 = V at *
  have hW := below2 w (.cells #[.int .u64 C, .int .u32 R, .slice a m cap, .int .i64 A] 75) (.cells #[.int .u64 0, .int .u32 0, .slice none 0 0, .int .i64 0] 75)
  by_cases h7 : V = 7
  · subst h7
    rw [if_pos rfl, if_pos rfl]
    generalize D.numD 45 = D2 at *
    generalize D.numV 45 = V2 at *
    unfold OneT at *
    have hdv := fun (a : Option Addr) (c : Nat) (W : World) (hr : Rw .u8 W (.slice a D.B.length c) D.B) => hok.dv hr
    clear hlt hok hB
    go_enter Tryz.func97, Tryz.ntmps97
    go_wp2_with (first | (go_at_call 109; refine (htk _ (h.below hW)).mono ?_; rintro x w1 ⟨a1, c1, rfl, hq, hb1⟩; have hbw1 := bthen hW hb1 hW.size; have hBd := ((B4.new w (.int .u64 C) (.int .u32 R) (.slice a m cap) (.int .i64 A) 75).below (below1 _ (.cells #[.int .u64 0, .int .u32 0, .slice none 0 0, .int .i64 0] 75))).below hb1; have hBr := (B4.new2 w (.cells #[.int .u64 C, .int .u32 R, .slice a m cap, .int .i64 A] 75) (.int .u64 0) (.int .u32 0) (.slice none 0 0) (.int .i64 0) 75).below hb1; obtain ⟨ez, e0, e1, e2, e3, ef0, ef1, ef2, ef3⟩ := id hBd; have hbw2 := bset4 hbw1 w.heap.size (.int .u64 D.C) (.int .u32 D.R) (.slice a1 D.B.length c1) (.int .i64 D.A) (Nat.le_refl _); have hBr2 := (((hBr.other w.heap.size 0 (.int .u64 D.C) (by omega)).other w.heap.size 1 (.int .u32 D.R) (by omega)).other w.heap.size 2 (.slice a1 D.B.length c1) (by omega)).other w.heap.size 3 (.int .i64 D.A) (by omega); have hr1 := (hq _ h).below hbw2) | (go_at_call 96; refine (hal _ _ _ _ _ _ _ (hdv _ _ _ hr1)).mono ?_; rintro x w2 ⟨a2, c2, rfl, hq2, hb2⟩; obtain ⟨rz, r0, r1, r2, r3, p0, p1, p2, p3⟩ := hBr2.below hb2))
    have hbw3 := bthen hbw2 hb2 hbw2.size
    exact bodyPost_ret (v := .tuple #[.agg #[.int .u64 D2.C, .int .u32 D2.R, .slice a2 D2.B.length c2, .int .i64 D2.A], .int .i64 V2]) (by simp [results, Tryz.results97, go_sem, r0, r1, r2, r3, p0, p1, p2, p3]) rfl ⟨a2, c2, rfl, (fun w1 hh => hq2 w1 (hdv _ _ _ (hq w1 hh))), bset4 hbw3 _ _ _ _ _ (by omega)⟩
  · rw [if_neg h7, if_neg h7]
    have hV7 : ((V : Int) == 7) = false := by simp; omega
    obtain ⟨S, hS⟩ : ∃ S : Int, (G : Int) + (V : Int) = S := ⟨_, rfl⟩
    have hS0 : 0 ≤ S := by omega
    have hS1 : S ≤ 52 := by omega
    rw [hS]
    have hcl := clampI_cases (S - 3)
    generalize clampI (S - 3) 0 44 = Q at *
    unfold OneT at *
    clear hlt hok hB hal h7
    rcases hcl with ⟨k1, rfl⟩ | ⟨k1, rfl⟩ | ⟨k1, k2, rfl⟩ | ⟨k1, rfl⟩ | ⟨k1, rfl⟩
    all_goals
      go_enter Tryz.func97, Tryz.ntmps97
      go_wp2_with (go_at_call 109; refine (htk _ (h.below hW)).mono ?_; rintro x w1 ⟨a1, c1, rfl, hq, hb1⟩; have hbw1 := bthen hW hb1 hW.size; have hBd := ((B4.new w (.int .u64 C) (.int .u32 R) (.slice a m cap) (.int .i64 A) 75).below (below1 _ (.cells #[.int .u64 0, .int .u32 0, .slice none 0 0, .int .i64 0] 75))).below hb1; have hBr := (B4.new2 w (.cells #[.int .u64 C, .int .u32 R, .slice a m cap, .int .i64 A] 75) (.int .u64 0) (.int .u32 0) (.slice none 0 0) (.int .i64 0) 75).below hb1; obtain ⟨ez, e0, e1, e2, e3, ef0, ef1, ef2, ef3⟩ := id hBd; obtain ⟨rz, r0, r1, r2, r3, p0, p1, p2, p3⟩ := id hBr)
      exact bodyPost_ret (by simp [results, Tryz.results97, go_sem, r0, r1, r2, r3, p0, p1, p2, p3, e0, e1, e2, e3, ef0, ef1, ef2, ef3]) rfl ⟨a1, c1, rfl, hq, bset4 (bset4 hbw1 _ _ _ _ _ (by omega)) _ _ _ _ _ (by omega)⟩
end Go.Proofs.YtidppkbphkcmeaaGreat
/- The contract of gain.Take, intra and against the gains ahead. -/
namespace Go.Proofs.YtidppkbphkcmeaaGreat
open Go.RowKit
set_option linter.unusedVariables false
set_option linter.unusedSimpArgs false

theorem DvOf.decE {w : World} {C R : Int} {a : Option Addr} {n cap : Nat} {A : Int} {d : De} (h : DvOf w C R a n cap A d) (hb : decB C R A = true) : C = d.C ∧ R = d.R ∧ A = d.A ∧ n = d.B.length ∧ Rw .u8 w (.slice a n cap) d.B := by
  rcases h.2 with ⟨_, h2, h3, h4, h5, hr⟩ | ⟨h1, _⟩
  · exact ⟨h2, h3, h4, h5, hr⟩
  · rw [h1] at hb; cases hb
def vpart (intra : Bool) (d : De) (y : List Int) (i j : Nat) : Int := if j < i then vG intra (dK intra d j) (y.getD j 0) else 0
theorem vpart_next (intra : Bool) (d : De) (y : List Int) (i : Nat) (hi : i < 5) : (tab 5 (vpart intra d y i)).set i (vG intra (dK intra d i) (y.getD i 0)) = tab 5 (vpart intra d y (i + 1)) := by
  rw [tab_set _ _ _ _ hi]
  refine tab_congr fun j hj => ?_
  unfold vpart
  by_cases e : j = i
  · subst e; rw [if_pos rfl, if_pos (by omega)]
  · rw [if_neg e]
    by_cases h : j < i
    · rw [if_pos h, if_pos (by omega)]
    · rw [if_neg h, if_neg (by omega)]
theorem vpart_all (intra : Bool) (d : De) (y : List Int) : tab 5 (vpart intra d y 5) = vK intra d y 5 := tab_congr fun j hj => by unfold vpart; rw [if_pos hj]
theorem vpart_none (intra : Bool) (d : De) (y : List Int) : (tab 5 fun _ => 0) = tab 5 (vpart intra d y 0) := tab_congr fun j hj => by unfold vpart; rw [if_neg (by omega)]
theorem info_int : (Tryz.prog.info? 3).map (fun i => (i.zero, i.size, i.bytes)) = some (some (.int .i64 0), 1, 8) := by kernel_rfl
/-- What Take answers. -/
def TakeP (w : World) (x : Ending) (w' : World) (C R : Int) (a : Option Addr) (n cap : Nat) (A : Int) (d D : De) (v : List Int) : Prop := ∃ a' cap' g, x = .returned (.tuple #[.agg #[.int .u64 D.C, .int .u32 D.R, .slice a' D.B.length cap', .int .i64 D.A], .slice (some ⟨g, 0, none⟩) 5 5, .int .i64 0]) ∧ RwF w.heap.size .i64 w' (.slice (some ⟨g, 0, none⟩) 5 5) v ∧ OutD w w' C R a n cap A d D a' cap'

set_option maxRecDepth 10000 in
set_option maxHeartbeats 2000000 in
theorem gtake_arg (C R : Int) (a : Option Addr) (n cap : Nat) (A : Int) (ay : Option Addr) (ny cy : Nat) (y : List Int) (hy : ny = y.length) (w : World) (hvy : Rw .i64 w (.slice ay ny cy) y) (hbad : gokB y = false) :
    Calls Tryz.prog 70 #[.agg #[.int .u64 C, .int .u32 R, .slice a n cap, .int .i64 A], .slice ay ny cy, .bool false] w fun x w' => x = .returned (.tuple #[.agg #[.int .u64 0, .int .u32 0, .slice none 0 0, .int .i64 0], .slice none 0 0, .int .i64 1]) ∧ Below w.heap.size w w' := by
  have hW := below2 w (.cells #[.int .u64 C, .int .u32 R, .slice a n cap, .int .i64 A] 75) (.cells #[.int .u64 0, .int .u32 0, .slice none 0 0, .int .i64 0] 75)
  have hra := fun W h => rightAhead_any ay ny cy y hy false W h
  rw [hbad] at hra
  have h3 := hvy.below hW
  obtain ⟨rz, r0, r1, r2, r3, p0, p1, p2, p3⟩ := B4.new2 w (.cells #[.int .u64 C, .int .u32 R, .slice a n cap, .int .i64 A] 75) (.int .u64 0) (.int .u32 0) (.slice none 0 0) (.int .i64 0) 75
  clear hy hbad
  go_enter Tryz.func70, Tryz.ntmps70
  go_wp2_with (go_at_call 81; refine (hra _ h3).mono ?_; rintro x w9 ⟨rfl, h9⟩; have h9 := h9.symm; subst h9)
  exact bodyPost_ret (v := .tuple #[.agg #[.int .u64 0, .int .u32 0, .slice none 0 0, .int .i64 0], .slice none 0 0, .int .i64 1]) (by simp [results, Tryz.results70, go_sem, r0, r1, r2, r3, p0, p1, p2, p3]) rfl ⟨rfl, by first | exact below2 _ _ _ | exact bset4 hW _ _ _ _ _ (by omega)⟩

set_option maxRecDepth 10000 in
set_option maxHeartbeats 4000000 in
theorem gtake_alone (C R : Int) (a : Option Addr) (n cap : Nat) (A : Int) (d : De) (ay : Option Addr) (ny cy : Nat) (y : List Int) (hy : ny = y.length) (w : World) (h : DvOf w C R a n cap A d) (hvy : Rw .i64 w (.slice ay ny cy) y) :
    Calls Tryz.prog 70 #[.agg #[.int .u64 C, .int .u32 R, .slice a n cap, .int .i64 A], .slice ay ny cy, .bool true] w fun x w' => TakeP w x w' C R a n cap A d (dK true d 5) (vK true d y 5) := by
  obtain ⟨i1, hi1, hy0, hy1, hy2⟩ := info_parts info_int
  have hW := below2 w (.cells #[.int .u64 C, .int .u32 R, .slice a n cap, .int .i64 A] 75) (.cells #[.int .u64 0, .int .u32 0, .slice none 0 0, .int .i64 0] 75)
  have hra := fun W h => rightAhead_any ay ny cy y hy true W h
  rw [Bool.true_or] at hra
  have h3 := hvy.below hW
  have HVN := hid (vpart_next true d y)
  have HVA := hid (vpart_all true d y)
  have HVO := hid (vpart_none true d y)
  have HOK := hid (dK_ok h.1 true)
  have HDV := hid h
  have Hvy := hid hvy
  have hB3 : B4 ((w.alloc (.cells #[.int .u64 C, .int .u32 R, .slice a n cap, .int .i64 A] 75)).alloc (.cells #[.int .u64 0, .int .u32 0, .slice none 0 0, .int .i64 0] 75)) w.heap.size (.int .u64 C) (.int .u32 R) (.slice a n cap) (.int .i64 A) := (B4.new w _ _ _ _ _).below (below1 _ _)
  have hB6 : B4 ((w.alloc (.cells #[.int .u64 C, .int .u32 R, .slice a n cap, .int .i64 A] 75)).alloc (.cells #[.int .u64 0, .int .u32 0, .slice none 0 0, .int .i64 0] 75)) (w.heap.size + 1) (.int .u64 0) (.int .u32 0) (.slice none 0 0) (.int .i64 0) := B4.new2 w _ _ _ _ _ _
  have hz0 : ((w.alloc (.cells #[.int .u64 C, .int .u32 R, .slice a n cap, .int .i64 A] 75)).alloc (.cells #[.int .u64 0, .int .u32 0, .slice none 0 0, .int .i64 0] 75)).heap.size = w.heap.size + 1 + 1 := by simp
  obtain ⟨D5, hD5⟩ : ∃ D5, dK true d 5 = D5 := ⟨_, rfl⟩
  obtain ⟨V5, hV5⟩ : ∃ V5, vK true d y 5 = V5 := ⟨_, rfl⟩
  have hV5l := vK_len true d y 5
  rw [hD5, hV5]
  rw [hV5] at hV5l
  have HD5 := hid hD5
  have HV5 := hid hV5
  have HV5L := hid hV5l
  unfold TakeP
  clear h hvy hy hD5 hV5 hV5l
  go_enter Tryz.func70, Tryz.ntmps70
  go_wp2_with (first | (go_at_call 81; refine (hra _ h3).mono ?_; rintro x w9 ⟨rfl, h9⟩; have h9 := h9.symm; subst h9) | (at_make; refine wpList_make_full _ rfl _ _ 45 rfl ((w.alloc (.cells #[.int .u64 C, .int .u32 R, .slice a n cap, .int .i64 A] 75)).alloc (.cells #[.int .u64 0, .int .u32 0, .slice none 0 0, .int .i64 0] 75)).heap.size 3 i1 (.int .i64 0) 1 Tryz.underlying45 hi1 hy0 hy1 .i64 .i64 _ _ 5 rfl rfl (by omega) (by omega) (by rw [hy2]; omega) (by unfold maxLen; omega) (by simp) ?_))
  intro w7 hown7 hgrow7
  have hb7 := grown_of_none hgrow7
  have HG0 : Blk .i64 3 w7 (w.heap.size + 1 + 1) (tab 5 (vpart true d y 0)) := by rw [← HVO.out]; exact Blk.made hown7
  have hC3 := hB3.below hb7
  have hC6 := hB6.below hb7
  have hbw7 := bthen hW hb7 hW.size
  clear hown7 hgrow7 hb7 hB3 hB6 hra h3 hW HVO
  clear hz0 hi1 hy0 hy1 hy2 i1
  go_wp2
  go_loopw [17] (fun i wr => ∃ (k : Nat) (C' R' : Int) (a' : Option Addr) (n' c' : Nat) (A' : Int), k ≤ 5 ∧ i = .int .i64 (k : Nat) ∧ Hid (0 < k → decB C' R' A' = true) ∧ Hid (∀ w1, DvOf w1 C R a n cap A d → DvOf w1 C' R' a' n' c' A' (dK true d k)) ∧ B4 wr w.heap.size (.int .u64 C') (.int .u32 R') (.slice a' n' c') (.int .i64 A') ∧ B4 wr (w.heap.size + 1) (.int .u64 0) (.int .u32 0) (.slice none 0 0) (.int .i64 0) ∧ Blk .i64 3 wr (w.heap.size + 1 + 1) (tab 5 (vpart true d y k)) ∧ Below w.heap.size w wr) (fun i _ => 5 - (intOf i).toNat)
  case atStart => exact ⟨0, C, R, a, n, cap, A, by omega, rfl, (fun hh => absurd hh (by decide)), (fun _ hh => hh), hC3, hC6, HG0, hbw7⟩
  case round =>
    clear hC3 hC6 HG0 hbw7
    obtain ⟨k, C', R', a', n', c', A', hk, rfl, Hpos, HIM, hB3, hB6, hbk, hbel⟩ := hrel
    obtain ⟨W1, rfl⟩ : ∃ z, z = wr := ⟨wr, rfl⟩
    by_cases hlt : k < 5
    · have HN := hid (HVN.out k hlt)
      have HDK := hid (HOK.out (k + 1))
      have hdv := (HIM.out _ HDV.out).below hbel
      have htk := fun W h => takeAlone_any C' R' a' n' c' A' (dK true d k) W h
      have hDB := dG_B (dK true d k) true
      rw [← dG_alone] at htk
      have hV := vG_alone (dK true d k) (y.getD k 0)
      rw [hV] at HN
      clear hV
      have hD : dK true d (k + 1) = dG true (dK true d k) := rfl
      rw [← hD] at htk
      generalize hDe : dK true d (k + 1) = D at htk HDK
      have HDE := hid hDe
      clear hDe
      generalize dK true d k = E at *
      generalize ((dK true d k).numV 45 : Int) = V at *
      unfold OneT at htk
      clear hD hDB
      have hfz := hbk.free k (by rw [tab_len]; exact hlt)
      have HBK := hid hbk
      obtain ⟨z3, d0, d1, d2, d3, df0, df1, df2, df3⟩ := id hB3
      have i1 : (0 : Int) ≤ (k : Int) := by omega
      have i2 : (k : Int) < 5 := by omega
      have i3 : IntKind.i64.wrap (k : Int) = k := wraps_i64 _ (by omega) (by omega)
      have hcg := hbk.cell k (by rw [tab_len]; exact hlt)
      go_wp2_with (go_at_call 96; refine (htk _ hdv).mono ?_; rintro xx y1 ⟨a2, c2, rfl, hq, hb2'⟩; have hb2 := hb2'; have hB3y := hB3.below hb2; have hB6y := hB6.below hb2; have hGy := HBK.out.below hb2; have hy1 := bthen hbel hb2 hbel.size; obtain ⟨y3, e0, e1, e2, e3, ef0, ef1, ef2, ef3⟩ := id hB3y; have hcgy := hGy.cell k (by rw [tab_len]; exact hlt); have hfzy := hGy.free k (by rw [tab_len]; exact hlt))
      go_roundw
      case rel => exact ⟨k + 1, D.C, D.R, a2, D.B.length, c2, D.A, by omega, by go_num, (fun _ => HDK.out.decB), (fun w1 hh => by rw [HDE.out]; exact HDK.out.dv (hq w1 (HIM.out w1 hh))), (hB3y.set _ _ _ _).other _ _ _ (by omega), ((((hB6y.other _ _ _ (by omega)).other _ _ _ (by omega)).other _ _ _ (by omega)).other _ _ _ (by omega)).other _ _ _ (by omega), by rw [← HN.out]; exact ((((hGy.other _ _ _ (by omega)).other _ _ _ (by omega)).other _ _ _ (by omega)).other _ _ _ (by omega)).set _ _, bset1 (bset4 hy1 _ _ _ _ _ (by omega)) _ _ _ (by omega)⟩
      case measure => simp [intOf]; omega
    · obtain rfl : k = 5 := by omega
      have hdec := Hpos.out (by decide)
      have HIM5 : ∀ w1, DvOf w1 C R a n cap A d → DvOf w1 C' R' a' n' c' A' D5 := fun w1 hh => by rw [← HD5.out]; exact HIM.out w1 hh
      obtain ⟨rfl, rfl, rfl, rfl, -⟩ := (HIM5 _ HDV.out).decE hdec
      have HR := hid (fun w1 hh => (HIM5 w1 hh).row hdec)
      obtain ⟨z3, d0, d1, d2, d3, df0, df1, df2, df3⟩ := id hB3
      obtain ⟨rz, r0, r1, r2, r3, p0, p1, p2, p3⟩ := id hB6
      have hgo : Blk .i64 3 W1 (w.heap.size + 1 + 1) V5 := by rw [← HV5.out, ← HVA.out]; exact hbk
      clear hbk hlt hdec Hpos HIM HIM5
      go_wp2
      refine bodyPost_ret (v := .tuple #[.agg #[.int .u64 D5.C, .int .u32 D5.R, .slice a' D5.B.length c', .int .i64 D5.A], .slice (some ⟨w.heap.size + 1 + 1, 0, none⟩) 5 5, .int .i64 0]) (by simp [results, Tryz.results70, go_sem, r0, r1, r2, r3, p0, p1, p2, p3]) rfl ⟨a', c', _, rfl, ?_, fun w1 hh => HR.out w1 hh, bset4 hbel _ _ _ _ _ (by omega)⟩
      exact RwF.of_row ((((hgo.other _ _ _ (by omega)).other _ _ _ (by omega)).other _ _ _ (by omega)).other _ _ _ (by omega)) HV5L.out (by omega)

set_option maxRecDepth 10000 in
set_option maxHeartbeats 4000000 in
theorem gtake_against (C R : Int) (a : Option Addr) (n cap : Nat) (A : Int) (d : De) (ay : Option Addr) (ny cy : Nat) (y : List Int) (hy : ny = y.length) (w : World) (h : DvOf w C R a n cap A d) (hvy : Rw .i64 w (.slice ay ny cy) y) (hgy : gokB y = true) :
    Calls Tryz.prog 70 #[.agg #[.int .u64 C, .int .u32 R, .slice a n cap, .int .i64 A], .slice ay ny cy, .bool false] w fun x w' => TakeP w x w' C R a n cap A d (dK false d 5) (vK false d y 5) := by
  obtain ⟨i1, hi1, hy0, hy1, hy2⟩ := info_parts info_int
  have hW := below2 w (.cells #[.int .u64 C, .int .u32 R, .slice a n cap, .int .i64 A] 75) (.cells #[.int .u64 0, .int .u32 0, .slice none 0 0, .int .i64 0] 75)
  have hra := fun W h => rightAhead_any ay ny cy y hy false W h
  rw [hgy] at hra
  have Hgy := hid hgy
  obtain rfl : ny = 5 := hy.trans (gok_len hgy)
  clear hgy
  have h3 := hvy.below hW
  have HVN := hid (vpart_next false d y)
  have HVA := hid (vpart_all false d y)
  have HVO := hid (vpart_none false d y)
  have HOK := hid (dK_ok h.1 false)
  have HDV := hid h
  have Hvy := hid hvy
  have hB3 : B4 ((w.alloc (.cells #[.int .u64 C, .int .u32 R, .slice a n cap, .int .i64 A] 75)).alloc (.cells #[.int .u64 0, .int .u32 0, .slice none 0 0, .int .i64 0] 75)) w.heap.size (.int .u64 C) (.int .u32 R) (.slice a n cap) (.int .i64 A) := (B4.new w _ _ _ _ _).below (below1 _ _)
  have hB6 : B4 ((w.alloc (.cells #[.int .u64 C, .int .u32 R, .slice a n cap, .int .i64 A] 75)).alloc (.cells #[.int .u64 0, .int .u32 0, .slice none 0 0, .int .i64 0] 75)) (w.heap.size + 1) (.int .u64 0) (.int .u32 0) (.slice none 0 0) (.int .i64 0) := B4.new2 w _ _ _ _ _ _
  have hz0 : ((w.alloc (.cells #[.int .u64 C, .int .u32 R, .slice a n cap, .int .i64 A] 75)).alloc (.cells #[.int .u64 0, .int .u32 0, .slice none 0 0, .int .i64 0] 75)).heap.size = w.heap.size + 1 + 1 := by simp
  obtain ⟨D5, hD5⟩ : ∃ D5, dK false d 5 = D5 := ⟨_, rfl⟩
  obtain ⟨V5, hV5⟩ : ∃ V5, vK false d y 5 = V5 := ⟨_, rfl⟩
  have hV5l := vK_len false d y 5
  rw [hD5, hV5]
  rw [hV5] at hV5l
  have HD5 := hid hD5
  have HV5 := hid hV5
  have HV5L := hid hV5l
  unfold TakeP
  clear h hvy hy hD5 hV5 hV5l
  go_enter Tryz.func70, Tryz.ntmps70
  go_wp2_with (first | (go_at_call 81; refine (hra _ h3).mono ?_; rintro x w9 ⟨rfl, h9⟩; have h9 := h9.symm; subst h9) | (at_make; refine wpList_make_full _ rfl _ _ 45 rfl ((w.alloc (.cells #[.int .u64 C, .int .u32 R, .slice a n cap, .int .i64 A] 75)).alloc (.cells #[.int .u64 0, .int .u32 0, .slice none 0 0, .int .i64 0] 75)).heap.size 3 i1 (.int .i64 0) 1 Tryz.underlying45 hi1 hy0 hy1 .i64 .i64 _ _ 5 rfl rfl (by omega) (by omega) (by rw [hy2]; omega) (by unfold maxLen; omega) (by simp) ?_))
  intro w7 hown7 hgrow7
  have hb7 := grown_of_none hgrow7
  have HG0 : Blk .i64 3 w7 (w.heap.size + 1 + 1) (tab 5 (vpart false d y 0)) := by rw [← HVO.out]; exact Blk.made hown7
  have hC3 := hB3.below hb7
  have hC6 := hB6.below hb7
  have hbw7 := bthen hW hb7 hW.size
  clear hown7 hgrow7 hb7 hB3 hB6 hra h3 hW HVO
  clear hz0 hi1 hy0 hy1 hy2 i1
  go_wp2
  go_loopw [17] (fun i wr => ∃ (k : Nat) (C' R' : Int) (a' : Option Addr) (n' c' : Nat) (A' : Int), k ≤ 5 ∧ i = .int .i64 (k : Nat) ∧ Hid (0 < k → decB C' R' A' = true) ∧ Hid (∀ w1, DvOf w1 C R a n cap A d → DvOf w1 C' R' a' n' c' A' (dK false d k)) ∧ B4 wr w.heap.size (.int .u64 C') (.int .u32 R') (.slice a' n' c') (.int .i64 A') ∧ B4 wr (w.heap.size + 1) (.int .u64 0) (.int .u32 0) (.slice none 0 0) (.int .i64 0) ∧ Blk .i64 3 wr (w.heap.size + 1 + 1) (tab 5 (vpart false d y k)) ∧ Below w.heap.size w wr) (fun i _ => 5 - (intOf i).toNat)
  case atStart => exact ⟨0, C, R, a, n, cap, A, by omega, rfl, (fun hh => absurd hh (by decide)), (fun _ hh => hh), hC3, hC6, HG0, hbw7⟩
  case round =>
    clear hC3 hC6 HG0 hbw7
    obtain ⟨k, C', R', a', n', c', A', hk, rfl, Hpos, HIM, hB3, hB6, hbk, hbel⟩ := hrel
    obtain ⟨W1, rfl⟩ : ∃ z, z = wr := ⟨wr, rfl⟩
    by_cases hlt : k < 5
    · have HN := hid (HVN.out k hlt)
      have HDK := hid (HOK.out (k + 1))
      have hdv := (HIM.out _ HDV.out).below hbel
      obtain ⟨G, hG, hG4⟩ := gok_at Hgy.out k hlt
      obtain ⟨b', off', rfl, hb', hcy⟩ := Hvy.out.atn k hlt
      rw [hG] at hcy HN
      have hbr' : b' < W1.heap.size := Nat.lt_of_lt_of_le hb' hbel.size
      have dy := (hbel.cell (p := ⟨b', off' + k, none⟩) hb').trans hcy
      clear hcy hb'
      have htk := fun W h => takeAgainst_any C' R' a' n' c' A' (dK false d k) G hG4 W h
      have hDB := dG_B (dK false d k) false
      have hD : dK false d (k + 1) = dG false (dK false d k) := rfl
      rw [← hD] at htk
      generalize hDe : dK false d (k + 1) = D at htk HDK
      have HDE := hid hDe
      clear hDe
      generalize dK false d k = E at *
      generalize vG false (dK false d k) (G : Int) = V at *
      unfold OneT at htk
      clear hD hDB
      have hfz := hbk.free k (by rw [tab_len]; exact hlt)
      have HBK := hid hbk
      obtain ⟨z3, d0, d1, d2, d3, df0, df1, df2, df3⟩ := id hB3
      have i1 : (0 : Int) ≤ (k : Int) := by omega
      have i2 : (k : Int) < 5 := by omega
      have i3 : IntKind.i64.wrap (k : Int) = k := wraps_i64 _ (by omega) (by omega)
      have hcg := hbk.cell k (by rw [tab_len]; exact hlt)
      go_wp2
      go_region_with (go_at_call 97; refine (htk _ (hdv.below (Below.refl _ _).drew)).mono ?_; rintro xx y1 ⟨a2, c2, rfl, hq, hb2'⟩; have hb2 := drew_below hb2'; have hB3y := hB3.below hb2; have hB6y := hB6.below hb2; have hGy := HBK.out.below hb2; have hy1 := bthen hbel hb2 hbel.size; obtain ⟨y3, e0, e1, e2, e3, ef0, ef1, ef2, ef3⟩ := id hB3y; have hcgy := hGy.cell k (by rw [tab_len]; exact hlt); have hfzy := hGy.free k (by rw [tab_len]; exact hlt))
      all_goals go_wp2
      all_goals go_roundw
      all_goals first
        | (exact ⟨k + 1, D.C, D.R, a2, D.B.length, c2, D.A, by omega, by go_num, (fun _ => HDK.out.decB), (fun w1 hh => by rw [HDE.out]; exact HDK.out.dv (hq w1 (HIM.out w1 hh))), (hB3y.set _ _ _ _).other _ _ _ (by omega), ((((hB6y.other _ _ _ (by omega)).other _ _ _ (by omega)).other _ _ _ (by omega)).other _ _ _ (by omega)).other _ _ _ (by omega), by rw [← HN.out]; exact ((((hGy.other _ _ _ (by omega)).other _ _ _ (by omega)).other _ _ _ (by omega)).other _ _ _ (by omega)).set _ _, bset1 (bset4 hy1 _ _ _ _ _ (by omega)) _ _ _ (by omega)⟩)
        | (simp [intOf]; omega)
    · obtain rfl : k = 5 := by omega
      have hdec := Hpos.out (by decide)
      have HIM5 : ∀ w1, DvOf w1 C R a n cap A d → DvOf w1 C' R' a' n' c' A' D5 := fun w1 hh => by rw [← HD5.out]; exact HIM.out w1 hh
      obtain ⟨rfl, rfl, rfl, rfl, -⟩ := (HIM5 _ HDV.out).decE hdec
      have HR := hid (fun w1 hh => (HIM5 w1 hh).row hdec)
      obtain ⟨z3, d0, d1, d2, d3, df0, df1, df2, df3⟩ := id hB3
      obtain ⟨rz, r0, r1, r2, r3, p0, p1, p2, p3⟩ := id hB6
      have hgo : Blk .i64 3 W1 (w.heap.size + 1 + 1) V5 := by rw [← HV5.out, ← HVA.out]; exact hbk
      clear hbk hlt hdec Hpos HIM HIM5
      go_wp2
      refine bodyPost_ret (v := .tuple #[.agg #[.int .u64 D5.C, .int .u32 D5.R, .slice a' D5.B.length c', .int .i64 D5.A], .slice (some ⟨w.heap.size + 1 + 1, 0, none⟩) 5 5, .int .i64 0]) (by simp [results, Tryz.results70, go_sem, r0, r1, r2, r3, p0, p1, p2, p3]) rfl ⟨a', c', _, rfl, ?_, fun w1 hh => HR.out w1 hh, bset4 hbel _ _ _ _ _ (by omega)⟩
      exact RwF.of_row ((((hgo.other _ _ _ (by omega)).other _ _ _ (by omega)).other _ _ _ (by omega)).other _ _ _ (by omega)) HV5L.out (by omega)

end Go.Proofs.YtidppkbphkcmeaaGreat
/- The contract of the document's Take of gains, intra and against the gains ahead. -/
namespace Go.Proofs.YtidppkbphkcmeaaGreat
open Go.RowKit
set_option linter.unusedVariables false
set_option linter.unusedSimpArgs false

theorem vK_push (intra : Bool) (d : De) (y : List Int) (k : Nat) : (vK intra d y (k + 1)).map (Value.int .i64) = (vK intra d y k).map (Value.int .i64) ++ [.int .i64 (vG intra (dK intra d k) (y.getD k 0))] := by
  unfold vK; rw [tab_push]; simp
theorem row_sameB {E E' : De} (hB : E'.B = E.B) {w : World} {a : Option Addr} {cap : Nat} (h : Rw .u8 w (.slice a E.B.length cap) E.B) : Rw .u8 w (.slice a E'.B.length cap) E'.B := by rw [hB]; exact h
theorem owns4 {w : World} {base : Nat} {e : TypeId} {v : Value} {n : Nat} {xs : List Value} (h : w.ownsRow base e 1 v n xs) (p : Nat) (hp : p < base) (x0 x1 x2 x3 : Value) : ((((w.setCell ⟨p, 0, none⟩ x0).setCell ⟨p, 1, none⟩ x1).setCell ⟨p, 2, none⟩ x2).setCell ⟨p, 3, none⟩ x3).ownsRow base e 1 v n xs :=
  owns_other (owns_other (owns_other (owns_other h _ _ _ hp) _ _ _ hp) _ _ _ hp) _ _ _ hp
theorem B4.other4 {w : World} {b : Nat} {z0 z1 z2 z3 : Value} (h : B4 w b z0 z1 z2 z3) (p : Nat) (hne : b ≠ p) (x0 x1 x2 x3 : Value) : B4 ((((w.setCell ⟨p, 0, none⟩ x0).setCell ⟨p, 1, none⟩ x1).setCell ⟨p, 2, none⟩ x2).setCell ⟨p, 3, none⟩ x3) b z0 z1 z2 z3 :=
  (((h.other _ _ _ hne).other _ _ _ hne).other _ _ _ hne).other _ _ _ hne
theorem B4.grown {w w' : World} {b : Nat} {x0 x1 x2 x3 : Value} {o : Option Nat} (h : B4 w b x0 x1 x2 x3) (hg : w.grownBy w' o) (hne : o ≠ some b) : B4 w' b x0 x1 x2 x3 := by
  have e := hg.block b h.z (fun hh => hne hh.symm)
  exact ⟨Nat.lt_of_lt_of_le h.z hg.size, (World.cell?_of_block (w := w) e).trans h.c0, (World.cell?_of_block (w := w) e).trans h.c1, (World.cell?_of_block (w := w) e).trans h.c2, (World.cell?_of_block (w := w) e).trans h.c3, (World.frozen?_of_block (w := w) e).trans h.f0, (World.frozen?_of_block (w := w) e).trans h.f1, (World.frozen?_of_block (w := w) e).trans h.f2, (World.frozen?_of_block (w := w) e).trans h.f3⟩
/-- What the document's Take answers. -/
def RTakeP (w : World) (x : Ending) (w' : World) (a : Option Addr) (cap : Nat) (D : De) (v : List Int) : Prop := ∃ ov, x = .returned (.tuple #[.agg #[.int .u64 D.C, .int .u64 D.R, .slice a D.B.length cap, .int .i64 D.A], ov]) ∧ Rw .i64 w' ov v ∧ Below w.heap.size w w'

theorem clampI_cases3 (K : Int) : (K < 0 ∧ clampI K 0 44 = 0) ∨ (0 ≤ K ∧ K ≤ 44 ∧ clampI K 0 44 = K) ∨ (44 < K ∧ clampI K 0 44 = 44) := by
  unfold clampI
  split
  · omega
  · split <;> omega
set_option maxRecDepth 10000 in
set_option maxHeartbeats 4000000 in
theorem rgtake_alone (a : Option Addr) (cap : Nat) (d : De) (ay : Option Addr) (ny cy : Nat) (y : List Int) (hy : ny = y.length) (w : World) (h : d.Ok) (hr : Rw .u8 w (.slice a d.B.length cap) d.B) (hvy : Rw .i64 w (.slice ay ny cy) y) :
    Calls Tryz.prog 46 #[.agg #[.int .u64 d.C, .int .u64 d.R, .slice a d.B.length cap, .int .i64 d.A], .slice ay ny cy, .bool true] w fun x w' => RTakeP w x w' a cap (dK true d 5) (vK true d y 5) := by
  obtain ⟨i0, hi, hz0, hz1, hz2⟩ := info_parts info_int
  have hW := below2 w (.cells #[.int .u64 d.C, .int .u64 d.R, .slice a d.B.length cap, .int .i64 d.A] 86) (.cells #[.int .u64 0, .int .u64 0, .slice none 0 0, .int .i64 0] 86)
  have HVP := hid (vK_push true d y)
  have HOK := hid (dK_ok h true)
  have HRW := hid (fun k => row_sameB (dK_B d true k) hr)
  have Hvy := hid hvy
  have hB3 : B4 ((w.alloc (.cells #[.int .u64 d.C, .int .u64 d.R, .slice a d.B.length cap, .int .i64 d.A] 86)).alloc (.cells #[.int .u64 0, .int .u64 0, .slice none 0 0, .int .i64 0] 86)) w.heap.size (.int .u64 d.C) (.int .u64 d.R) (.slice a d.B.length cap) (.int .i64 d.A) := (B4.new w _ _ _ _ _).below (below1 _ _)
  have hB6 : B4 ((w.alloc (.cells #[.int .u64 d.C, .int .u64 d.R, .slice a d.B.length cap, .int .i64 d.A] 86)).alloc (.cells #[.int .u64 0, .int .u64 0, .slice none 0 0, .int .i64 0] 86)) (w.heap.size + 1) (.int .u64 0) (.int .u64 0) (.slice none 0 0) (.int .i64 0) := B4.new2 w _ _ _ _ _ _
  have HD0 : Hid (d = dK true d 0) := rfl
  have HV0 : Hid (([] : List Value) = (vK true d y 0).map (Value.int .i64)) := rfl
  obtain ⟨D5, hD5⟩ : ∃ D5, dK true d 5 = D5 := ⟨_, rfl⟩
  obtain ⟨V5, hV5⟩ : ∃ V5, vK true d y 5 = V5 := ⟨_, rfl⟩
  rw [hD5, hV5]
  have HD5 := hid hD5
  have HV5 := hid hV5
  unfold RTakeP
  clear h hr hvy hy hD5 hV5
  go_enter Tryz.func46, Tryz.ntmps46
  go_wp2
  go_loopw [8, 9] (fun o i wr => ∃ (k : Nat) (E : De), k ≤ 5 ∧ i = .int .i64 (k : Nat) ∧ Hid (E = dK true d k) ∧ B4 wr w.heap.size (.int .u64 E.C) (.int .u64 E.R) (.slice a E.B.length cap) (.int .i64 E.A) ∧ B4 wr (w.heap.size + 1) (.int .u64 0) (.int .u64 0) (.slice none 0 0) (.int .i64 0) ∧ wr.ownsRow (w.heap.size + 1 + 1) 3 1 o k ((vK true d y k).map (Value.int .i64)) ∧ Below w.heap.size w wr) (fun _ i _ => 5 - (intOf i).toNat)
  case atStart => exact ⟨0, d, by omega, rfl, HD0.out, hB3, hB6, by rw [← HV0.out]; exact World.ownsRow_nil _ _ _ _, hW⟩
  case round =>
    clear hB3 hB6 hW HD0 HV0
    obtain ⟨k, E, hk, rfl, HE, hB3, hB6, hown, hbel⟩ := hrel
    obtain ⟨W1, rfl⟩ : ∃ z, z = wr := ⟨wr, rfl⟩
    by_cases hlt : k < 5
    · have HN := hid (HVP.out k)
      have hEok : E.Ok := by rw [HE.out]; exact HOK.out k
      have hrw : Rw .u8 w (.slice a E.B.length cap) E.B := by rw [HE.out]; exact HRW.out k
      have HDE : Hid (dK true d (k + 1) = dG true E) := by unfold Hid; rw [HE.out]; rfl
      have HVE : Hid (vG true (dK true d k) (y.getD k 0) = vG true E (y.getD k 0)) := by unfold Hid; rw [HE.out]
      rw [HVE.out] at HN
      obtain ⟨z3, d0, d1, d2, d3, df0, df1, df2, df3⟩ := id hB3
      have i1 : (0 : Int) ≤ (k : Int) := by omega
      have i2 : (k : Int) < 5 := by omega
      have i3 : IntKind.i64.wrap (k : Int) = k := wraps_i64 _ (by omega) (by omega)
      have hrwN := hrw
      have htn := fun W hr => rtakeNum_any a cap E 45 (by decide) (by decide) W hEok hr
      have HG1 := hid (dG_alone E)
      have hv1 := vG_alone E (y.getD k 0)
      rw [hv1] at HN
      have hV64 := numV_lt E (n := 45) (by decide) (by decide)
      unfold decW at htn
      have HGD : Hid (E.numD 45 = dG true E) := (dG_alone E).symm
      generalize E.numD 45 = D at htn HGD
      generalize E.numV 45 = V at htn HN hV64 hv1
      have iV : IntKind.i64.wrap (V : Int) = V := wraps_i64 _ (by omega) (by omega)
      clear hv1 HVE HG1
      go_wp2_with (first | (go_at_call 47; refine (htn _ (hrwN.below hbel)).mono ?_; rintro xx w3 ⟨rfl, hb3⟩; have hbN := bset4 ((bthen hbel hb3 hbel.size).alloc (bthen hbel hb3 hbel.size).size (.cells #[.int .u64 D.C, .int .u64 D.R, .slice a D.B.length cap, .int .i64 D.A] 86)) w.heap.size (.int .u64 D.C) (.int .u64 D.R) (.slice a D.B.length cap) (.int .i64 D.A) (Nat.le_refl _); have hxN := hB3.below hb3; have hB3N := (hxN.below (below1 w3 (.cells #[.int .u64 D.C, .int .u64 D.R, .slice a D.B.length cap, .int .i64 D.A] 86))).set (.int .u64 D.C) (.int .u64 D.R) (.slice a D.B.length cap) (.int .i64 D.A); have hB6N := ((hB6.below hb3).below (below1 w3 (.cells #[.int .u64 D.C, .int .u64 D.R, .slice a D.B.length cap, .int .i64 D.A] 86))).other4 w.heap.size (by omega) (.int .u64 D.C) (.int .u64 D.R) (.slice a D.B.length cap) (.int .i64 D.A); have hON := owns4 ((owns_below hown hb3).alloc (.cells #[.int .u64 D.C, .int .u64 D.R, .slice a D.B.length cap, .int .i64 D.A] 86)) w.heap.size (by omega) (.int .u64 D.C) (.int .u64 D.R) (.slice a D.B.length cap) (.int .i64 D.A); obtain ⟨n0, n1, n2, n3, n4, n5, n6, n7, n8⟩ := hxN.below (below1 w3 (.cells #[.int .u64 D.C, .int .u64 D.R, .slice a D.B.length cap, .int .i64 D.A] 86))) | (at_builtin; refine wpList_append_own _ rfl _ _ 45 rfl (w.heap.size + 1 + 1) 3 i0 (.int .i64 0) 1 8 Tryz.underlying45 hi hz0 hz1 hz2 rfl (by decide) _ _ _ rfl (hON.alloc _) ⟨_, 0, none⟩ 1 1 [.int .i64 (V : Int)] rfl rfl (cell_one_at (by simp [World.setCell]) _ _) (one_cell _ _) ?c3 ?c4 ?c5 ?_))
      case c3 => unfold maxLen; omega
      case c4 => omega
      case c5 => first | (have hz6 := hB6N.z; rw [World.size_alloc]; omega) | (have hz6 := hB6N.z; omega) | (simp [World.setCell]; omega)
      intro v' w9 hown' hgrow _
      have hlt9 := hON.lt
      have hb9 := (hbN.alloc hbN.size (.cells #[.int .i64 (V : Int)] 3)).grown hgrow (hbN.alloc hbN.size _).size (fun i e => by have := (hlt9 i e).1; omega)
      have hB39 := (hB3N.below (below1 _ (.cells #[.int .i64 (V : Int)] 3))).grown hgrow (fun e => by have := (hlt9 _ e).1; omega)
      have hB69 := (hB6N.below (below1 _ (.cells #[.int .i64 (V : Int)] 3))).grown hgrow (fun e => by have := (hlt9 _ e).1; omega)
      go_wp2
      go_roundw
      case rel => exact ⟨k + 1, D, by omega, by go_num, by unfold Hid; rw [HDE.out]; exact HGD.out, hB39, hB69, by rw [HN.out]; exact hown', hb9⟩
      case measure => simp [intOf]; omega

    · obtain rfl : k = 5 := by omega
      obtain rfl : E = D5 := HE.out.trans HD5.out
      rw [HV5.out] at hown
      obtain ⟨z3, d0, d1, d2, d3, df0, df1, df2, df3⟩ := id hB3
      obtain ⟨rz, r0, r1, r2, r3, p0, p1, p2, p3⟩ := id hB6
      have HR := hid (RwF.of_owns hown)
      clear hown hlt HE HD5
      go_wp2
      exact bodyPost_ret (v := .tuple #[.agg #[.int .u64 E.C, .int .u64 E.R, .slice a E.B.length cap, .int .i64 E.A], _]) (by simp [results, Tryz.results46, go_sem, r0, r1, r2, r3, p0, p1, p2, p3]) rfl ⟨_, rfl, ((((HR.out.set _ _ _ (by omega)).set _ _ _ (by omega)).set _ _ _ (by omega)).set _ _ _ (by omega)).rw, bset4 hbel _ _ _ _ _ (by omega)⟩

set_option maxRecDepth 10000 in
set_option maxHeartbeats 4000000 in
theorem rgtake_against (a : Option Addr) (cap : Nat) (d : De) (ay : Option Addr) (ny cy : Nat) (y : List Int) (hy : ny = y.length) (w : World) (h : d.Ok) (hr : Rw .u8 w (.slice a d.B.length cap) d.B) (hvy : Rw .i64 w (.slice ay ny cy) y) (hgy : gokB y = true) :
    Calls Tryz.prog 46 #[.agg #[.int .u64 d.C, .int .u64 d.R, .slice a d.B.length cap, .int .i64 d.A], .slice ay ny cy, .bool false] w fun x w' => RTakeP w x w' a cap (dK false d 5) (vK false d y 5) := by
  obtain ⟨i0, hi, hz0, hz1, hz2⟩ := info_parts info_int
  have hW := below2 w (.cells #[.int .u64 d.C, .int .u64 d.R, .slice a d.B.length cap, .int .i64 d.A] 86) (.cells #[.int .u64 0, .int .u64 0, .slice none 0 0, .int .i64 0] 86)
  have Hgy := hid hgy
  obtain rfl : ny = 5 := hy.trans (gok_len hgy)
  clear hgy
  have HVP := hid (vK_push false d y)
  have HOK := hid (dK_ok h false)
  have HRW := hid (fun k => row_sameB (dK_B d false k) hr)
  have Hvy := hid hvy
  have hB3 : B4 ((w.alloc (.cells #[.int .u64 d.C, .int .u64 d.R, .slice a d.B.length cap, .int .i64 d.A] 86)).alloc (.cells #[.int .u64 0, .int .u64 0, .slice none 0 0, .int .i64 0] 86)) w.heap.size (.int .u64 d.C) (.int .u64 d.R) (.slice a d.B.length cap) (.int .i64 d.A) := (B4.new w _ _ _ _ _).below (below1 _ _)
  have hB6 : B4 ((w.alloc (.cells #[.int .u64 d.C, .int .u64 d.R, .slice a d.B.length cap, .int .i64 d.A] 86)).alloc (.cells #[.int .u64 0, .int .u64 0, .slice none 0 0, .int .i64 0] 86)) (w.heap.size + 1) (.int .u64 0) (.int .u64 0) (.slice none 0 0) (.int .i64 0) := B4.new2 w _ _ _ _ _ _
  have HD0 : Hid (d = dK false d 0) := rfl
  have HV0 : Hid (([] : List Value) = (vK false d y 0).map (Value.int .i64)) := rfl
  obtain ⟨D5, hD5⟩ : ∃ D5, dK false d 5 = D5 := ⟨_, rfl⟩
  obtain ⟨V5, hV5⟩ : ∃ V5, vK false d y 5 = V5 := ⟨_, rfl⟩
  rw [hD5, hV5]
  have HD5 := hid hD5
  have HV5 := hid hV5
  unfold RTakeP
  clear h hr hvy hy hD5 hV5
  go_enter Tryz.func46, Tryz.ntmps46
  go_wp2
  go_loopw [8, 9] (fun o i wr => ∃ (k : Nat) (E : De), k ≤ 5 ∧ i = .int .i64 (k : Nat) ∧ Hid (E = dK false d k) ∧ B4 wr w.heap.size (.int .u64 E.C) (.int .u64 E.R) (.slice a E.B.length cap) (.int .i64 E.A) ∧ B4 wr (w.heap.size + 1) (.int .u64 0) (.int .u64 0) (.slice none 0 0) (.int .i64 0) ∧ wr.ownsRow (w.heap.size + 1 + 1) 3 1 o k ((vK false d y k).map (Value.int .i64)) ∧ Below w.heap.size w wr) (fun _ i _ => 5 - (intOf i).toNat)
  case atStart => exact ⟨0, d, by omega, rfl, HD0.out, hB3, hB6, by rw [← HV0.out]; exact World.ownsRow_nil _ _ _ _, hW⟩
  case round =>
    clear hB3 hB6 hW HD0 HV0
    obtain ⟨k, E, hk, rfl, HE, hB3, hB6, hown, hbel⟩ := hrel
    obtain ⟨W1, rfl⟩ : ∃ z, z = wr := ⟨wr, rfl⟩
    by_cases hlt : k < 5
    · have HN := hid (HVP.out k)
      have hEok : E.Ok := by rw [HE.out]; exact HOK.out k
      have hrw : Rw .u8 w (.slice a E.B.length cap) E.B := by rw [HE.out]; exact HRW.out k
      have HDE : Hid (dK false d (k + 1) = dG false E) := by unfold Hid; rw [HE.out]; rfl
      have HVE : Hid (vG false (dK false d k) (y.getD k 0) = vG false E (y.getD k 0)) := by unfold Hid; rw [HE.out]
      rw [HVE.out] at HN
      obtain ⟨z3, d0, d1, d2, d3, df0, df1, df2, df3⟩ := id hB3
      have i1 : (0 : Int) ≤ (k : Int) := by omega
      have i2 : (k : Int) < 5 := by omega
      have i3 : IntKind.i64.wrap (k : Int) = k := wraps_i64 _ (by omega) (by omega)
      obtain ⟨G, hG, hG4⟩ := gok_at Hgy.out k hlt
      obtain ⟨b', off', rfl, hb', hcy⟩ := Hvy.out.atn k hlt
      rw [hG] at hcy HN
      have hbb' : b' ≠ w.heap.size := by omega
      have HGD := hid (dG_against E)
      have hget := fun W => rget_w a cap E 8 W hEok (by decide) (by decide)
      have hget8 := numV_small E (n := 8) (by decide)
      have hnum8 := numD_small E (n := 8) (by decide)
      have hlt8 := numV_lt E (n := 8) (by decide) (by decide)
      have htake := fun W hr => rtake_w a cap E (E.get 8) 8 W hEok hr (fair_one (by rw [← hget8]; exact hlt8) (by decide))
      rw [← hnum8] at htake
      rw [← hget8] at htake hget
      have hok8 := hEok.numD (n := 8) (by decide) (by decide)
      have hrw8 := row_sameB (De.numD_B E 8) hrw
      have hvv := vG_against E (G : Int)
      rw [hvv] at HN
      clear hvv hget8 hnum8 HVE
      generalize E.numD 8 = E8 at *
      generalize E.numV 8 = V8 at *
      by_cases h7 : V8 = 7
      · subst h7
        have htn := fun W hr => rtakeNum_any a cap E8 45 (by decide) (by decide) W hok8 hr
        rw [if_pos rfl] at HN HGD
        have hV64 := numV_lt E8 (n := 45) (by decide) (by decide)
        unfold decW at htn
        generalize E8.numD 45 = D at *
        generalize E8.numV 45 = V at *
        have hrwN := hrw8
        have iV : IntKind.i64.wrap (V : Int) = V := wraps_i64 _ (by omega) (by omega)
        clear hlt8
        go_wp2_with (first | (go_at_call 44; refine (hget _).mono ?_; rintro xx w1 ⟨rfl, hb1⟩; have hbA := bthen hbel hb1 hbel.size; have hB3A := hB3.below hb1; have hB6A := hB6.below hb1; have hOA := owns_below hown hb1; obtain ⟨a0, a1, a2, a3, a4, a5, a6, a7, a8⟩ := id hB3A) | (go_at_call 45; refine (htake _ (hrw.below hbA)).mono ?_; rintro xx w2 ⟨rfl, hb2⟩; have hbB := bset4 (bthen hbA hb2 hbA.size) w.heap.size (.int .u64 E8.C) (.int .u64 E8.R) (.slice a E8.B.length cap) (.int .i64 E8.A) (Nat.le_refl _); have hxB := hB3A.below hb2; have hB3B := hxB.set (.int .u64 E8.C) (.int .u64 E8.R) (.slice a E8.B.length cap) (.int .i64 E8.A); have hB6B := (hB6A.below hb2).other4 w.heap.size (by omega) (.int .u64 E8.C) (.int .u64 E8.R) (.slice a E8.B.length cap) (.int .i64 E8.A); have hOB := owns4 (owns_below hOA hb2) w.heap.size (by omega) (.int .u64 E8.C) (.int .u64 E8.R) (.slice a E8.B.length cap) (.int .i64 E8.A); obtain ⟨b0, b1, b2, b3, b4, b5, b6, b7, b8⟩ := id hxB; obtain ⟨k0, k1, k2, k3, k4, k5, k6, k7, k8⟩ := id hB3B; have dyB := (hbB.cell (p := ⟨b', off' + k, none⟩) hb').trans hcy) | (go_at_call 47; refine (htn _ (hrwN.below hbB)).mono ?_; rintro xx w3 ⟨rfl, hb3⟩; have hbN := bset4 ((bthen hbB hb3 hbB.size).alloc (bthen hbB hb3 hbB.size).size (.cells #[.int .u64 D.C, .int .u64 D.R, .slice a D.B.length cap, .int .i64 D.A] 86)) w.heap.size (.int .u64 D.C) (.int .u64 D.R) (.slice a D.B.length cap) (.int .i64 D.A) (Nat.le_refl _); have hxN := hB3B.below hb3; have hB3N := (hxN.below (below1 w3 (.cells #[.int .u64 D.C, .int .u64 D.R, .slice a D.B.length cap, .int .i64 D.A] 86))).set (.int .u64 D.C) (.int .u64 D.R) (.slice a D.B.length cap) (.int .i64 D.A); have hB6N := ((hB6B.below hb3).below (below1 w3 (.cells #[.int .u64 D.C, .int .u64 D.R, .slice a D.B.length cap, .int .i64 D.A] 86))).other4 w.heap.size (by omega) (.int .u64 D.C) (.int .u64 D.R) (.slice a D.B.length cap) (.int .i64 D.A); have hON := owns4 ((owns_below hOB hb3).alloc (.cells #[.int .u64 D.C, .int .u64 D.R, .slice a D.B.length cap, .int .i64 D.A] 86)) w.heap.size (by omega) (.int .u64 D.C) (.int .u64 D.R) (.slice a D.B.length cap) (.int .i64 D.A); obtain ⟨n0, n1, n2, n3, n4, n5, n6, n7, n8⟩ := hxN.below (below1 w3 (.cells #[.int .u64 D.C, .int .u64 D.R, .slice a D.B.length cap, .int .i64 D.A] 86))) | (at_builtin; refine wpList_append_own _ rfl _ _ 45 rfl (w.heap.size + 1 + 1) 3 i0 (.int .i64 0) 1 8 Tryz.underlying45 hi hz0 hz1 hz2 rfl (by decide) _ _ _ rfl (hON.alloc _) ⟨_, 0, none⟩ 1 1 [.int .i64 (V : Int)] rfl rfl (cell_one_at (by simp [World.setCell]) _ _) (one_cell _ _) ?c3 ?c4 ?c5 ?_))
        case c3 => unfold maxLen; omega
        case c4 => omega
        case c5 => first | (have hz6 := hB6N.z; rw [World.size_alloc]; omega) | (have hz6 := hB6N.z; omega) | (simp [World.setCell]; omega)
        intro v' w9 hown' hgrow _
        have hlt9 := hON.lt
        have hb9 := (hbN.alloc hbN.size (.cells #[.int .i64 (V : Int)] 3)).grown hgrow (hbN.alloc hbN.size _).size (fun i e => by have := (hlt9 i e).1; omega)
        have hB39 := (hB3N.below (below1 _ (.cells #[.int .i64 (V : Int)] 3))).grown hgrow (fun e => by have := (hlt9 _ e).1; omega)
        have hB69 := (hB6N.below (below1 _ (.cells #[.int .i64 (V : Int)] 3))).grown hgrow (fun e => by have := (hlt9 _ e).1; omega)
        go_wp2
        go_roundw
        case rel => exact ⟨k + 1, D, by omega, by go_num, by unfold Hid; rw [HDE.out]; exact HGD.out.symm, hB39, hB69, by rw [HN.out]; exact hown', hb9⟩
        case measure => simp [intOf]; omega
      · rw [if_neg h7] at HN HGD
        have hV7 : ((V8 : Int) == 7) = false := by simp; omega
        obtain ⟨S, hS⟩ : ∃ S : Int, (G : Int) + (V8 : Int) = S := ⟨_, rfl⟩
        have hS0 : 0 ≤ S := by omega
        have hS1 : S ≤ 52 := by omega
        rw [hS] at HN
        have hcl := clampI_cases3 (S - 3)
        generalize clampI (S - 3) 0 44 = Q at *
        clear hlt8 h7 hrw8 hok8
        rcases hcl with ⟨k1, rfl⟩ | ⟨k1, k2, rfl⟩ | ⟨k1, rfl⟩
        · go_wp2_with (first | (go_at_call 44; refine (hget _).mono ?_; rintro xx w1 ⟨rfl, hb1⟩; have hbA := bthen hbel hb1 hbel.size; have hB3A := hB3.below hb1; have hB6A := hB6.below hb1; have hOA := owns_below hown hb1; obtain ⟨a0, a1, a2, a3, a4, a5, a6, a7, a8⟩ := id hB3A) | (go_at_call 45; refine (htake _ (hrw.below hbA)).mono ?_; rintro xx w2 ⟨rfl, hb2⟩; have hbB := bset4 (bthen hbA hb2 hbA.size) w.heap.size (.int .u64 E8.C) (.int .u64 E8.R) (.slice a E8.B.length cap) (.int .i64 E8.A) (Nat.le_refl _); have hxB := hB3A.below hb2; have hB3B := hxB.set (.int .u64 E8.C) (.int .u64 E8.R) (.slice a E8.B.length cap) (.int .i64 E8.A); have hB6B := (hB6A.below hb2).other4 w.heap.size (by omega) (.int .u64 E8.C) (.int .u64 E8.R) (.slice a E8.B.length cap) (.int .i64 E8.A); have hOB := owns4 (owns_below hOA hb2) w.heap.size (by omega) (.int .u64 E8.C) (.int .u64 E8.R) (.slice a E8.B.length cap) (.int .i64 E8.A); obtain ⟨b0, b1, b2, b3, b4, b5, b6, b7, b8⟩ := id hxB; obtain ⟨k0, k1, k2, k3, k4, k5, k6, k7, k8⟩ := id hB3B; have dyB := (hbB.cell (p := ⟨b', off' + k, none⟩) hb').trans hcy) | (at_builtin; refine wpList_append_own _ rfl _ _ 45 rfl (w.heap.size + 1 + 1) 3 i0 (.int .i64 0) 1 8 Tryz.underlying45 hi hz0 hz1 hz2 rfl (by decide) _ _ _ rfl (hOB.alloc _) ⟨_, 0, none⟩ 1 1 [.int .i64 0] rfl rfl (cell_one_at (by simp [World.setCell]) _ _) (one_cell _ _) ?c3 ?c4 ?c5 ?_))
          case c3 => unfold maxLen; omega
          case c4 => omega
          case c5 => first | (have hz6 := hB6B.z; rw [World.size_alloc]; omega) | (have hz6 := hB6B.z; omega) | (simp [World.setCell]; omega)
          intro v' w9 hown' hgrow _
          have hlt9 := hOB.lt
          have hb9 := (hbB.alloc hbB.size (.cells #[.int .i64 0] 3)).grown hgrow (hbB.alloc hbB.size _).size (fun i e => by have := (hlt9 i e).1; omega)
          have hB39 := (hB3B.below (below1 _ (.cells #[.int .i64 0] 3))).grown hgrow (fun e => by have := (hlt9 _ e).1; omega)
          have hB69 := (hB6B.below (below1 _ (.cells #[.int .i64 0] 3))).grown hgrow (fun e => by have := (hlt9 _ e).1; omega)
          go_wp2
          go_roundw
          case rel => exact ⟨k + 1, E8, by omega, by go_num, by unfold Hid; rw [HDE.out]; exact HGD.out.symm, hB39, hB69, by rw [HN.out]; exact hown', hb9⟩
          case measure => simp [intOf]; omega
        · go_wp2_with (first | (go_at_call 44; refine (hget _).mono ?_; rintro xx w1 ⟨rfl, hb1⟩; have hbA := bthen hbel hb1 hbel.size; have hB3A := hB3.below hb1; have hB6A := hB6.below hb1; have hOA := owns_below hown hb1; obtain ⟨a0, a1, a2, a3, a4, a5, a6, a7, a8⟩ := id hB3A) | (go_at_call 45; refine (htake _ (hrw.below hbA)).mono ?_; rintro xx w2 ⟨rfl, hb2⟩; have hbB := bset4 (bthen hbA hb2 hbA.size) w.heap.size (.int .u64 E8.C) (.int .u64 E8.R) (.slice a E8.B.length cap) (.int .i64 E8.A) (Nat.le_refl _); have hxB := hB3A.below hb2; have hB3B := hxB.set (.int .u64 E8.C) (.int .u64 E8.R) (.slice a E8.B.length cap) (.int .i64 E8.A); have hB6B := (hB6A.below hb2).other4 w.heap.size (by omega) (.int .u64 E8.C) (.int .u64 E8.R) (.slice a E8.B.length cap) (.int .i64 E8.A); have hOB := owns4 (owns_below hOA hb2) w.heap.size (by omega) (.int .u64 E8.C) (.int .u64 E8.R) (.slice a E8.B.length cap) (.int .i64 E8.A); obtain ⟨b0, b1, b2, b3, b4, b5, b6, b7, b8⟩ := id hxB; obtain ⟨k0, k1, k2, k3, k4, k5, k6, k7, k8⟩ := id hB3B; have dyB := (hbB.cell (p := ⟨b', off' + k, none⟩) hb').trans hcy) | (at_builtin; refine wpList_append_own _ rfl _ _ 45 rfl (w.heap.size + 1 + 1) 3 i0 (.int .i64 0) 1 8 Tryz.underlying45 hi hz0 hz1 hz2 rfl (by decide) _ _ _ rfl (hOB.alloc _) ⟨_, 0, none⟩ 1 1 [.int .i64 (S - 3)] rfl rfl (cell_one_at (by simp [World.setCell]) _ _) (one_cell _ _) ?c3 ?c4 ?c5 ?_))
          case c3 => unfold maxLen; omega
          case c4 => omega
          case c5 => first | (have hz6 := hB6B.z; rw [World.size_alloc]; omega) | (have hz6 := hB6B.z; omega) | (simp [World.setCell]; omega)
          intro v' w9 hown' hgrow _
          have hlt9 := hOB.lt
          have hb9 := (hbB.alloc hbB.size (.cells #[.int .i64 (S - 3)] 3)).grown hgrow (hbB.alloc hbB.size _).size (fun i e => by have := (hlt9 i e).1; omega)
          have hB39 := (hB3B.below (below1 _ (.cells #[.int .i64 (S - 3)] 3))).grown hgrow (fun e => by have := (hlt9 _ e).1; omega)
          have hB69 := (hB6B.below (below1 _ (.cells #[.int .i64 (S - 3)] 3))).grown hgrow (fun e => by have := (hlt9 _ e).1; omega)
          go_wp2
          go_roundw
          case rel => exact ⟨k + 1, E8, by omega, by go_num, by unfold Hid; rw [HDE.out]; exact HGD.out.symm, hB39, hB69, by rw [HN.out]; exact hown', hb9⟩
          case measure => simp [intOf]; omega
        · go_wp2_with (first | (go_at_call 44; refine (hget _).mono ?_; rintro xx w1 ⟨rfl, hb1⟩; have hbA := bthen hbel hb1 hbel.size; have hB3A := hB3.below hb1; have hB6A := hB6.below hb1; have hOA := owns_below hown hb1; obtain ⟨a0, a1, a2, a3, a4, a5, a6, a7, a8⟩ := id hB3A) | (go_at_call 45; refine (htake _ (hrw.below hbA)).mono ?_; rintro xx w2 ⟨rfl, hb2⟩; have hbB := bset4 (bthen hbA hb2 hbA.size) w.heap.size (.int .u64 E8.C) (.int .u64 E8.R) (.slice a E8.B.length cap) (.int .i64 E8.A) (Nat.le_refl _); have hxB := hB3A.below hb2; have hB3B := hxB.set (.int .u64 E8.C) (.int .u64 E8.R) (.slice a E8.B.length cap) (.int .i64 E8.A); have hB6B := (hB6A.below hb2).other4 w.heap.size (by omega) (.int .u64 E8.C) (.int .u64 E8.R) (.slice a E8.B.length cap) (.int .i64 E8.A); have hOB := owns4 (owns_below hOA hb2) w.heap.size (by omega) (.int .u64 E8.C) (.int .u64 E8.R) (.slice a E8.B.length cap) (.int .i64 E8.A); obtain ⟨b0, b1, b2, b3, b4, b5, b6, b7, b8⟩ := id hxB; obtain ⟨k0, k1, k2, k3, k4, k5, k6, k7, k8⟩ := id hB3B; have dyB := (hbB.cell (p := ⟨b', off' + k, none⟩) hb').trans hcy) | (at_builtin; refine wpList_append_own _ rfl _ _ 45 rfl (w.heap.size + 1 + 1) 3 i0 (.int .i64 0) 1 8 Tryz.underlying45 hi hz0 hz1 hz2 rfl (by decide) _ _ _ rfl (hOB.alloc _) ⟨_, 0, none⟩ 1 1 [.int .i64 44] rfl rfl (cell_one_at (by simp [World.setCell]) _ _) (one_cell _ _) ?c3 ?c4 ?c5 ?_))
          case c3 => unfold maxLen; omega
          case c4 => omega
          case c5 => first | (have hz6 := hB6B.z; rw [World.size_alloc]; omega) | (have hz6 := hB6B.z; omega) | (simp [World.setCell]; omega)
          intro v' w9 hown' hgrow _
          have hlt9 := hOB.lt
          have hb9 := (hbB.alloc hbB.size (.cells #[.int .i64 44] 3)).grown hgrow (hbB.alloc hbB.size _).size (fun i e => by have := (hlt9 i e).1; omega)
          have hB39 := (hB3B.below (below1 _ (.cells #[.int .i64 44] 3))).grown hgrow (fun e => by have := (hlt9 _ e).1; omega)
          have hB69 := (hB6B.below (below1 _ (.cells #[.int .i64 44] 3))).grown hgrow (fun e => by have := (hlt9 _ e).1; omega)
          go_wp2
          go_roundw
          case rel => exact ⟨k + 1, E8, by omega, by go_num, by unfold Hid; rw [HDE.out]; exact HGD.out.symm, hB39, hB69, by rw [HN.out]; exact hown', hb9⟩
          case measure => simp [intOf]; omega

    · obtain rfl : k = 5 := by omega
      obtain rfl : E = D5 := HE.out.trans HD5.out
      rw [HV5.out] at hown
      obtain ⟨z3, d0, d1, d2, d3, df0, df1, df2, df3⟩ := id hB3
      obtain ⟨rz, r0, r1, r2, r3, p0, p1, p2, p3⟩ := id hB6
      have HR := hid (RwF.of_owns hown)
      clear hown hlt HE HD5
      go_wp2
      exact bodyPost_ret (v := .tuple #[.agg #[.int .u64 E.C, .int .u64 E.R, .slice a E.B.length cap, .int .i64 E.A], _]) (by simp [results, Tryz.results46, go_sem, r0, r1, r2, r3, p0, p1, p2, p3]) rfl ⟨_, rfl, ((((HR.out.set _ _ _ (by omega)).set _ _ _ (by omega)).set _ _ _ (by omega)).set _ _ _ (by omega)).rw, bset4 hbel _ _ _ _ _ (by omega)⟩

end Go.Proofs.YtidppkbphkcmeaaGreat
/- Contracts of Most, of what is more than is looked at, of the document's Same, of the examples; gains come back. -/
namespace Go.Proofs.YtidppkbphkcmeaaGreat
open Go.RowKit
set_option linter.unusedVariables false
set_option linter.unusedSimpArgs false

set_option maxHeartbeats 2000000 in
theorem same_yes (v1 v2 : Value) (xs : List Int) (w : World) (h1 : Rw .i64 w v1 xs) (h2 : Rw .i64 w v2 xs) (hl : xs.length ≤ 100) : Calls Tryz.prog 49 #[v1, v2] w fun e w' => e = .returned (.bool true) ∧ Below w.heap.size w w' := by
  obtain ⟨a1, c1, rfl, ha1⟩ := h1
  obtain ⟨a2, c2, rfl, ha2⟩ := h2
  obtain ⟨n, hn⟩ : ∃ n, xs.length = n := ⟨_, rfl⟩
  rw [hn] at ha1 ha2 hl ⊢
  have hnil : 0 < n → xs ≠ [] := fun h e => by rw [e] at hn; simp at hn; omega
  clear hn
  go_enter Tryz.func49, Tryz.ntmps49
  go_wp2
  go_loopw [5] (fun i wr => ∃ k : Nat, k ≤ n ∧ i = .int .i64 k ∧ Below w.heap.size w wr) (fun i _ => n - (intOf i).toNat)
  case atStart => exact ⟨0, by omega, rfl, Below.refl _ _⟩
  case round =>
    obtain ⟨k, hk, rfl, hnx⟩ := hrel
    by_cases hlt : k < n
    · obtain ⟨b1, o1, rfl, hb1, hc1⟩ := ha1.resolve_left (hnil (by omega))
      obtain ⟨b2, o2, rfl, hb2, hc2⟩ := ha2.resolve_left (hnil (by omega))
      have g1 := (hnx.cell (p := ⟨b1, o1 + k, none⟩) hb1).trans (hc1 k hlt)
      have g2 := (hnx.cell (p := ⟨b2, o2 + k, none⟩) hb2).trans (hc2 k hlt)
      clear ha1 ha2 hc1 hc2 hnil
      generalize xs.getD k 0 = x at *
      have i1 : (0 : Int) ≤ (k : Int) := by omega
      have i2 : (k : Int) < (n : Int) := by omega
      have i3 : IntKind.i64.wrap (k : Int) = k := wraps_i64 _ (by omega) (by omega)
      go_wp2
      go_quiet (fail)
      go_wp2
      exact ⟨⟨k + 1, by omega, by go_num, drewN_below hnx _⟩, by simp [intOf]; omega⟩
    · clear ha1 ha2 hnil
      go_wp2
      go_ret
      exact ⟨rfl, hnx⟩

theorem most_any (intra : Bool) (w : World) : Calls Tryz.prog 102 #[.bool intra] w fun e w' => e = .returned (.int .i64 (mostB intra : Nat)) ∧ w' = w := by
  cases intra
  · go_enter Tryz.func102, Tryz.ntmps102
    go_wp2
    go_ret
    exact ⟨rfl, rfl⟩
  · go_enter Tryz.func102, Tryz.ntmps102
    go_wp2
    go_ret
    exact ⟨rfl, rfl⟩
theorem gtake_any (C R : Int) (a : Option Addr) (n cap : Nat) (A : Int) (d : De) (ay : Option Addr) (ny cy : Nat) (y : List Int) (intra : Bool) (hy : ny = y.length) (w : World) (h : DvOf w C R a n cap A d) (hvy : Rw .i64 w (.slice ay ny cy) y) (hg : (intra || gokB y) = true) :
    Calls Tryz.prog 70 #[.agg #[.int .u64 C, .int .u32 R, .slice a n cap, .int .i64 A], .slice ay ny cy, .bool intra] w fun x w' => TakeP w x w' C R a n cap A d (dK intra d 5) (vK intra d y 5) := by
  cases intra
  · exact gtake_against C R a n cap A d ay ny cy y hy w h hvy (by simpa using hg)
  · exact gtake_alone C R a n cap A d ay ny cy y hy w h hvy
theorem rgtake_any (a : Option Addr) (cap : Nat) (d : De) (ay : Option Addr) (ny cy : Nat) (y : List Int) (intra : Bool) (hy : ny = y.length) (w : World) (h : d.Ok) (hr : Rw .u8 w (.slice a d.B.length cap) d.B) (hvy : Rw .i64 w (.slice ay ny cy) y) (hg : (intra || gokB y) = true) :
    Calls Tryz.prog 46 #[.agg #[.int .u64 d.C, .int .u64 d.R, .slice a d.B.length cap, .int .i64 d.A], .slice ay ny cy, .bool intra] w fun x w' => RTakeP w x w' a cap (dK intra d 5) (vK intra d y 5) := by
  cases intra
  · exact rgtake_against a cap d ay ny cy y hy w h hr hvy (by simpa using hg)
  · exact rgtake_alone a cap d ay ny cy y hy w h hr hvy

/-! ### The examples -/
theorem lit5 (w : World) (x0 x1 x2 x3 x4 : Int) (t : TypeId) : Rw .i64 (w.alloc (.cells #[.int .i64 x0, .int .i64 x1, .int .i64 x2, .int .i64 x3, .int .i64 x4] t)) (.slice (some ⟨w.heap.size, 0, none⟩) 5 5) [x0, x1, x2, x3, x4] :=
  Rw.of_row (e := t) (cur := [x0, x1, x2, x3, x4]) (heap_alloc_last w _) rfl
theorem back_frame (intra : Bool) {x y : List Int} (hx : gokB x = true) (hy : gokB y = true) : vK intra (De.open (puts En.new (chK intra x y 5)).all) y 5 = x := by
  have g := En.new_good.puts (chK_fair intra y hx 5 (Nat.le_refl _))
  have h : Track (puts En.new (chK intra x y 5)).N (puts En.new (chK intra x y 5)).m En.new (De.open (puts En.new (chK intra x y 5)).all) := Track.init g.lt
  exact (h.gains En.new_good intra hx hy (Within.self g)).1
def kX : List Int := [5, 5, 5, 5, 5]
def kY : List Int := [5, 4, 8, 9, 5]
theorem kX_ok : gokB kX = true := by decide
theorem kY_ok : gokB kY = true := by decide
theorem k_room : rm En.new (chK false kX kY 5) = true := by decide +kernel
theorem ev_row {e : En} (h : e.Ok) (w : World) (a : Option Addr) (cap : Nat) (hr : Rw .u8 w (.slice a e.m cap) e.out) : EvOf w e.low e.R a e.m cap e := h.ev hr
end Go.Proofs.YtidppkbphkcmeaaGreat
