/- Contracts: more than is looked at; the program's pack as the document's; packs that are the same. -/
import Derived.Test.YtidppkbphkcmeaaGreatZf
import Derived.Deep.RegionHeld3
namespace Go.Proofs.YtidppkbphkcmeaaGreat
open Go.RowKit
set_option linter.unusedVariables false
set_option linter.unusedSimpArgs false

def wideB (L : List (List Int)) : Bool := decide (10 < L.length) || (List.range L.length).any fun i => decide (60 < (L.getD i []).length)
theorem wide_no {L : List (List Int)} (h : wideB L = false) : L.length ≤ 10 ∧ ∀ i, i < L.length → (L.getD i []).length ≤ 60 := by
  unfold wideB at h
  rw [Bool.or_eq_false_iff, decide_eq_false_iff_not] at h
  refine ⟨by omega, fun i hi => ?_⟩
  have := List.any_eq_false.1 h.2 i (List.mem_range.2 hi)
  simp only [decide_eq_true_eq] at this
  omega
theorem wide_at {L : List (List Int)} {i : Nat} (hi : i < L.length) (h : 60 < (L.getD i []).length) : wideB L = true := by
  unfold wideB
  rw [Bool.or_eq_true]
  exact .inr (List.any_eq_true.2 ⟨i, List.mem_range.2 hi, decide_eq_true h⟩)
theorem wide_len {L : List (List Int)} (h : ∀ i, i < L.length → (L.getD i []).length ≤ 60) : wideB L = decide (10 < L.length) := by
  unfold wideB
  have : ((List.range L.length).any fun i => decide (60 < (L.getD i []).length)) = false := by
    rw [List.any_eq_false]
    intro i hi
    have := h i (List.mem_range.1 hi)
    simp only [decide_eq_true_eq]
    omega
  rw [this, Bool.or_false]
set_option maxRecDepth 10000 in
set_option maxHeartbeats 1000000 in
theorem wide_any {ok : Bool} (a : Option Addr) (n cap : Nat) (L : List (List Int)) (w : World) (hn : L.length = n) (hmax : n ≤ 9223372036854775807) (hv : Fr ok w (.slice a n cap) L) : Calls Tryz.prog 12 #[.slice a n cap] w fun e w' => e = .returned (.bool (wideB L)) ∧ w' = w := by
  have HYES : Hid (∀ i, i < n → 60 < (L.getD i []).length → wideB L = true) := fun i hi h => wide_at (by omega) h
  have HNO : Hid ((∀ i, i < n → (L.getD i []).length ≤ 60) → wideB L = decide (10 < (n : Int))) := fun h => by
    rw [wide_len (fun i hi => h i (by omega)), hn]
    exact decide_eq_decide.2 (by omega)
  have HAT : Hid (∀ i, i < n → ∃ b off, a = some ⟨b, off, none⟩ ∧ b < w.heap.size ∧ ∃ ra rc, w.cell? ⟨b, off + i, none⟩ = some (.slice ra (L.getD i []).length rc) ∧ (ok = true → (L.getD i []).length ≤ rc) ∧ Rw .i64 w (.slice ra (L.getD i []).length rc) (L.getD i [])) := fun i hi => hv.at i hi
  generalize wideB L = R at *
  clear hn hv
  go_enter Tryz.func12, Tryz.ntmps12
  go_wp2
  go_loop [3] (fun i => ∃ k : Nat, k ≤ n ∧ i = .int .i64 (k : Nat) ∧ Hid (∀ j, j < k → (L.getD j []).length ≤ 60)) (fun i => n - (intOf i).toNat)
  case atStart => exact ⟨0, by omega, rfl, fun j hj => by omega⟩
  case round =>
    obtain ⟨k, hk, rfl, HP⟩ := hrel
    by_cases hlt : k < n
    · obtain ⟨b, off, rfl, hb, ra, rc, hc1, _, _⟩ := HAT.out k hlt
      have i1 : (0 : Int) ≤ (k : Int) := by omega
      have i2 : (k : Int) < (n : Int) := by omega
      have i3 : IntKind.i64.wrap (k : Int) = k := wraps_i64 _ (by omega) (by omega)
      by_cases hg : 60 < (L.getD k []).length
      · have HR := hid (HYES.out k hlt hg)
        have k1 : decide ((60 : Int) < ((L.getD k []).length : Int)) = true := decide_eq_true (by omega)
        clear hg HAT HYES HNO HP
        generalize (L.getD k []).length = m at *
        go_wp2
        go_ret
        exact ⟨ret_bool HR.out.symm, rfl⟩
      · have HP2 : Hid (∀ j, j < k + 1 → (L.getD j []).length ≤ 60) := fun j hj => by
          by_cases e : j < k
          · exact HP.out j e
          · obtain rfl : j = k := by omega
            omega
        have k1 : decide ((60 : Int) < ((L.getD k []).length : Int)) = false := decide_eq_false (by omega)
        clear hg HAT HYES HP
        generalize (L.getD k []).length = m at *
        go_wp2
        exact ⟨⟨k + 1, by omega, by go_num, HP2⟩, by simp [intOf]; omega⟩
    · obtain rfl : k = n := by omega
      have HR := hid (HNO.out HP.out)
      clear HAT hlt HYES HNO HP
      go_wp2
      go_ret
      exact ⟨ret_bool HR.out.symm, rfl⟩

def greatP (G A : List (List Int)) (Y : List (List (List Int))) : Bool := (wideB G || wideB A || decide (10 < Y.length)) || (List.range Y.length).any fun i => wideB (Y.getD i [])
/-- Not more than is looked at. -/
structure Small (G A : List (List Int)) (Y : List (List (List Int))) : Prop where
  g : wideB G = false
  a : wideB A = false
  y : Y.length ≤ 10
  ys : ∀ i, i < Y.length → wideB (Y.getD i []) = false
theorem great_small {G A : List (List Int)} {Y : List (List (List Int))} (h : greatP G A Y = false) : Small G A Y := by
  unfold greatP at h
  rw [Bool.or_eq_false_iff, Bool.or_eq_false_iff, Bool.or_eq_false_iff, decide_eq_false_iff_not, List.any_eq_false] at h
  exact ⟨h.1.1.1, h.1.1.2, by omega, fun i hi => by have := h.2 i (List.mem_range.2 hi); simpa using this⟩

set_option maxRecDepth 10000 in
set_option maxHeartbeats 4000000 in
theorem great_any (intra : Bool) (ag : Option Addr) (ng cg : Nat) (G : List (List Int)) (ay : Option Addr) (ny cy : Nat) (Y : List (List (List Int))) (aa : Option Addr) (na ca : Nat) (A : List (List Int)) (w : World) (h : PkAt w ag ng cg G ay ny cy Y) (hA : A.length = na) (hma : na ≤ 9223372036854775807) (hva : Fr false w (.slice aa na ca) A) :
    Calls Tryz.prog 5 #[.agg #[.bool intra, .slice ag ng cg, .slice ay ny cy], .slice aa na ca] w fun e w' => e = .returned (.bool (greatP G A Y)) ∧ Below w.heap.size w w' := by
  have hW := below1 w (.cells #[.bool intra, .slice ag ng cg, .slice ay ny cy] 25)
  have hB0 := B3.new w (.bool intra) (.slice ag ng cg) (.slice ay ny cy) 25
  obtain ⟨ez, e0, e1, e2, f0, f1, f2⟩ := id hB0
  have h1 := h.below hW
  have hwg := wide_any ag ng cg G _ h.lg h.mg h1.vg
  have hwa := wide_any aa na ca A _ hA hma (hva.below hW)
  have hwy := fun i (hi : i < ny) ra rc (hv : Fr false (w.alloc (.cells #[.bool intra, .slice ag ng cg, .slice ay ny cy] 25)) (.slice ra (Y.getD i []).length rc) (Y.getD i [])) => wide_any ra _ rc (Y.getD i []) _ rfl (h.yl i) hv
  have hly := h.ly
  have hmy := h.my
  have hyl := h.yl
  have HAT := hid (fun i hi => h1.vy.at i hi)
  have HYES1 : Hid (wideB G = true → greatP G A Y = true) := fun e => by unfold greatP; rw [e]; rfl
  have HYES2 : Hid (wideB A = true → greatP G A Y = true) := fun e => by unfold greatP; rw [e]; simp
  have HYES3 : Hid (10 < ny → greatP G A Y = true) := fun e => by unfold greatP; rw [hly, decide_eq_true e]; simp
  have HYES4 : Hid (∀ i, i < ny → wideB (Y.getD i []) = true → greatP G A Y = true) := fun i hi e => by
    unfold greatP; rw [Bool.or_eq_true]; exact .inr (List.any_eq_true.2 ⟨i, List.mem_range.2 (by omega), e⟩)
  have HNO : Hid (wideB G = false → wideB A = false → ¬ 10 < ny → (∀ i, i < ny → wideB (Y.getD i []) = false) → greatP G A Y = false) := fun e1 e2 e3 e4 => by
    unfold greatP
    rw [e1, e2, hly, decide_eq_false e3]
    simp only [Bool.false_or]
    rw [List.any_eq_false]
    intro i hi
    rw [e4 i (List.mem_range.1 hi)]
    decide
  generalize greatP G A Y = R at *
  clear h h1 hva hA hly hB0
  cases hg : wideB G
  · cases ha : wideB A
    · by_cases h10 : 10 < ny
      · have HR := hid (HYES3.out h10)
        rw [hg] at hwg
        rw [ha] at hwa
        have k1 : decide ((10 : Int) < (ny : Int)) = true := decide_eq_true (by omega)
        clear HYES1 HYES2 HYES3 HYES4 HNO hg ha h10 HAT hwy hyl
        go_enter Tryz.func5, Tryz.ntmps5
        go_wp2_with (first | (go_at_call_of 12 (Value.slice ag ng cg); refine hwg.mono ?_; rintro e w9 ⟨rfl, h9⟩; have h9 := h9.symm; subst h9) | (go_at_call_of 12 (Value.slice aa na ca); refine hwa.mono ?_; rintro e w8 ⟨rfl, h8⟩; have h8 := h8.symm; subst h8))
        go_ret
        exact ⟨ret_bool HR.out.symm, hW⟩
      · have HNO2 := hid (HNO.out hg ha h10)
        rw [hg] at hwg
        rw [ha] at hwa
        have k1 : decide ((10 : Int) < (ny : Int)) = false := decide_eq_false (by omega)
        clear HYES1 HYES2 HYES3 HNO hg ha
        go_enter Tryz.func5, Tryz.ntmps5
        go_wp2_with (first | (go_at_call_of 12 (Value.slice ag ng cg); refine hwg.mono ?_; rintro e w9 ⟨rfl, h9⟩; have h9 := h9.symm; subst h9) | (go_at_call_of 12 (Value.slice aa na ca); refine hwa.mono ?_; rintro e w8 ⟨rfl, h8⟩; have h8 := h8.symm; subst h8))
        go_loop [5] (fun i => ∃ k : Nat, k ≤ ny ∧ i = .int .i64 (k : Nat) ∧ Hid (∀ j, j < k → wideB (Y.getD j []) = false)) (fun i => ny - (intOf i).toNat)
        case atStart => exact ⟨0, by omega, rfl, fun j hj => by omega⟩
        case round =>
          clear hwg hwa
          obtain ⟨k, hk, rfl, HP⟩ := hrel
          by_cases hlt : k < ny
          · obtain ⟨b, off, hbo, hb, ra, rc, hc1, hyr⟩ := HAT.out k hlt
            have hbo' := hbo.symm
            subst hbo'
            have hw1 := hwy k hlt ra rc hyr
            have i1 : (0 : Int) ≤ (k : Int) := by omega
            have i2 : (k : Int) < (ny : Int) := by omega
            have i3 : IntKind.i64.wrap (k : Int) = k := wraps_i64 _ (by omega) (by omega)
            cases hq : wideB (Y.getD k [])
            · rw [hq] at hw1
              have HP2 : Hid (∀ j, j < k + 1 → wideB (Y.getD j []) = false) := fun j hj => by
                by_cases e : j < k
                · exact HP.out j e
                · obtain rfl : j = k := by omega
                  exact hq
              clear hq hyr HAT hwy hyl
              generalize (Y.getD k []).length = m at *
              go_wp2_with (go_at_call 12; refine hw1.mono ?_; rintro e w9 ⟨rfl, h9⟩; have h9 := h9.symm; subst h9)
              exact ⟨⟨k + 1, by omega, by go_num, HP2⟩, by simp [intOf]; omega⟩
            · have HR := hid (HYES4.out k hlt hq)
              rw [hq] at hw1
              clear hq hyr HAT hwy hyl HYES4 HNO2 HP
              generalize (Y.getD k []).length = m at *
              go_wp2_with (go_at_call 12; refine hw1.mono ?_; rintro e w9 ⟨rfl, h9⟩; have h9 := h9.symm; subst h9)
              go_ret
              exact ⟨ret_bool HR.out.symm, hW⟩
          · obtain rfl : k = ny := by omega
            have HR := hid (HNO2.out HP.out)
            clear hlt HAT hwy HP HNO2 HYES4 hyl
            go_wp2
            go_ret
            exact ⟨ret_bool HR.out.symm, hW⟩
    · have HR := hid (HYES2.out ha)
      rw [hg] at hwg
      rw [ha] at hwa
      clear HYES1 HYES2 HYES3 HYES4 HNO hg ha HAT hwy hyl
      go_enter Tryz.func5, Tryz.ntmps5
      go_wp2_with (first | (go_at_call_of 12 (Value.slice ag ng cg); refine hwg.mono ?_; rintro e w9 ⟨rfl, h9⟩; have h9 := h9.symm; subst h9) | (go_at_call_of 12 (Value.slice aa na ca); refine hwa.mono ?_; rintro e w8 ⟨rfl, h8⟩; have h8 := h8.symm; subst h8))
      go_ret
      exact ⟨ret_bool HR.out.symm, hW⟩
  · have HR := hid (HYES1.out hg)
    rw [hg] at hwg
    clear HYES1 HYES2 HYES3 HYES4 HNO hg HAT hwy hyl hwa
    go_enter Tryz.func5, Tryz.ntmps5
    go_wp2_with (go_at_call 12; refine hwg.mono ?_; rintro e w9 ⟨rfl, h9⟩; have h9 := h9.symm; subst h9)
    go_ret
    exact ⟨ret_bool HR.out.symm, hW⟩

set_option maxHeartbeats 1000000 in
theorem as_any (intra : Bool) (g y : Value) (hg : ∃ a n c, g = .slice a n c) (hy : ∃ a n c, y = .slice a n c) (w : World) :
    Calls Tryz.prog 9 #[.agg #[.bool intra, g, y]] w fun e w' => e = .returned (.agg #[.bool intra, g, y]) ∧ Below w.heap.size w w' := by
  obtain ⟨a, n, c, rfl⟩ := hg
  obtain ⟨a2, n2, c2, rfl⟩ := hy
  have hW := below2 w (.cells #[.bool intra, .slice a n c, .slice a2 n2 c2] 25) (.cells #[.bool false, .slice none 0 0, .slice none 0 0] 33)
  obtain ⟨ez, e0, e1, e2, f0, f1, f2⟩ := (B3.new w (.bool intra) (.slice a n c) (.slice a2 n2 c2) 25).below (below1 _ (.cells #[.bool false, .slice none 0 0, .slice none 0 0] 33))
  obtain ⟨rz, r0, r1, r2, p0, p1, p2⟩ := B3.new2 w (.cells #[.bool intra, .slice a n c, .slice a2 n2 c2] 25) (.bool false) (.slice none 0 0) (.slice none 0 0) 33
  go_enter Tryz.func9, Tryz.ntmps9
  go_wp2
  exact bodyPost_ret (v := .agg #[.bool intra, .slice a n c, .slice a2 n2 c2]) (by simp [results, Tryz.results9, go_sem, r0, r1, r2, p0, p1, p2]) rfl ⟨rfl, below2 _ _ _⟩

/-- Lists that may be compared. -/
structure Few (G : List (List Int)) (Y : List (List (List Int))) : Prop where
  g : G.length ≤ 500
  gs : ∀ i, i < G.length → (G.getD i []).length ≤ 100
  y : Y.length ≤ 500
  ys : ∀ i, i < Y.length → (Y.getD i []).length ≤ 500
  yss : ∀ i, i < Y.length → ∀ j, j < (Y.getD i []).length → ((Y.getD i []).getD j []).length ≤ 100
set_option maxRecDepth 10000 in
set_option maxHeartbeats 4000000 in
theorem sameP_yes (intra : Bool) (g1 g2 y1 y2 : Value) (G : List (List Int)) (Y : List (List (List Int))) (w : World) (hg1 : Fr false w g1 G) (hg2 : Fr false w g2 G) (hy1 : Fc false w y1 Y) (hy2 : Fc false w y2 Y) (hf : Few G Y) :
    Calls Tryz.prog 15 #[.agg #[.bool intra, g1, y1], .agg #[.bool intra, g2, y2]] w fun e w' => e = .returned (.bool true) ∧ Below w.heap.size w w' := by
  obtain ⟨a1, c1, rfl, _⟩ := id hg1
  obtain ⟨a2, c2, rfl, _⟩ := id hg2
  obtain ⟨b1, d1, rfl, _⟩ := id hy1
  obtain ⟨b2, d2, rfl, _⟩ := id hy2
  have hW := below2 w (.cells #[.bool intra, .slice a1 G.length c1, .slice b1 Y.length d1] 33) (.cells #[.bool intra, .slice a2 G.length c2, .slice b2 Y.length d2] 33)
  have hB1 := (B3.new w (.bool intra) (.slice a1 G.length c1) (.slice b1 Y.length d1) 33).below (below1 _ (.cells #[.bool intra, .slice a2 G.length c2, .slice b2 Y.length d2] 33))
  have hB2 := B3.new2 w (.cells #[.bool intra, .slice a1 G.length c1, .slice b1 Y.length d1] 33) (.bool intra) (.slice a2 G.length c2) (.slice b2 Y.length d2) 33
  have hsg := sameG_yes false false _ _ G _ (hg1.below hW) (hg2.below hW) hf.g hf.gs
  have hfy := hf.y
  have HYS := hid hf.ys
  have HYSS := hid hf.yss
  obtain ⟨ez, e0, e1, e2, f0, f1, f2⟩ := id hB1
  obtain ⟨rz, r0, r1, r2, p0, p1, p2⟩ := id hB2
  have HY1 := hid hy1
  have HY2 := hid hy2
  have hbb : (intra != intra) = false := by cases intra <;> rfl
  clear hf hg1 hg2 hy1 hy2
  obtain ⟨n, hn⟩ : ∃ n, Y.length = n := ⟨_, rfl⟩
  rw [hn] at hW hB1 hB2 hsg hfy HYS HYSS e2 r2 HY1 HY2 ez rz e0 e1 f0 f1 f2 r0 r1 p0 p1 p2 ⊢
  clear hn
  generalize G.length = m at *
  go_enter Tryz.func15, Tryz.ntmps15
  go_wp2_with (go_at_call 16; refine hsg.mono ?_; rintro e w1 ⟨rfl, hb1⟩; clear ez e0 e1 e2 f0 f1 f2 rz r0 r1 r2 p0 p1 p2; obtain ⟨ez, e0, e1, e2, f0, f1, f2⟩ := id (hB1.below hb1); obtain ⟨rz, r0, r1, r2, p0, p1, p2⟩ := id (hB2.below hb1))
  have hC1 := hB1.below hb1
  have hC2 := hB2.below hb1
  have hbw := bthen' hW hb1
  clear hb1 hW hB1 hB2 ez e0 e1 e2 f0 f1 f2 rz r0 r1 r2 p0 p1 p2 hsg
  have HBW := hid hbw
  have hsz := hbw.size
  clear hbw
  go_loopw [5] (fun i wr => ∃ k : Nat, k ≤ n ∧ i = .int .i64 k ∧ Hid (Below w1.heap.size w1 wr)) (fun i _ => n - (intOf i).toNat)
  case atStart => exact ⟨0, by omega, rfl, Below.refl _ _⟩
  case round =>
    obtain ⟨k, hk, rfl, HNX⟩ := hrel
    obtain ⟨ez, e0, e1, e2, f0, f1, f2⟩ := id (hC1.below HNX.out)
    obtain ⟨rz, r0, r1, r2, p0, p1, p2⟩ := id (hC2.below HNX.out)
    by_cases hlt : k < n
    · obtain ⟨q1, o1, hq1, hz1, s1, sc1, g1, h1⟩ := HY1.out.at k hlt
      obtain ⟨q2, o2, hq2, hz2, s2, sc2, g2, h2⟩ := HY2.out.at k hlt
      have hq1' := hq1.symm
      subst hq1'
      have hq2' := hq2.symm
      subst hq2'
      have hm := HYS.out k hlt
      have hmm := HYSS.out k hlt
      have hs := fun w' (h : Below w1.heap.size w1 w') => sameG_yes false false _ _ (Y.getD k []) w' (h1.below (bthen' HBW.out h)) (h2.below (bthen' HBW.out h)) hm hmm
      have hK : ∀ w', Below w1.heap.size w1 w' → w'.cell? ⟨w.heap.size, 2, none⟩ = some (.slice (some ⟨q1, o1, none⟩) n d1) ∧ w'.cell? ⟨w.heap.size + 1, 2, none⟩ = some (.slice (some ⟨q2, o2, none⟩) n d2) ∧ w'.cell? ⟨q1, o1 + k, none⟩ = some (.slice s1 (Y.getD k []).length sc1) ∧ w'.cell? ⟨q2, o2 + k, none⟩ = some (.slice s2 (Y.getD k []).length sc2) := fun w' h => ⟨(hC1.below h).c2, (hC2.below h).c2, ((bcell (bthen' HBW.out h)).1 _ _ hz1).trans g1, ((bcell (bthen' HBW.out h)).1 _ _ hz2).trans g2⟩
      have i1 : (0 : Int) ≤ (k : Int) := by omega
      have i2 : (k : Int) < (n : Int) := by omega
      have i3 : IntKind.i64.wrap (k : Int) = k := wraps_i64 _ (by omega) (by omega)
      clear h1 h2 g1 g2 hm hmm
      generalize (Y.getD k []).length = m2 at *
      go_wp2
      clear ez e0 e1 e2 f0 f1 f2 rz r0 r1 r2 p0 p1 p2
      go_region_held3 (fun w' => w'.cell? ⟨w.heap.size, 2, none⟩ = some (.slice (some ⟨q1, o1, none⟩) n d1) ∧ w'.cell? ⟨w.heap.size + 1, 2, none⟩ = some (.slice (some ⟨q2, o2, none⟩) n d2) ∧ w'.cell? ⟨q1, o1 + k, none⟩ = some (.slice s1 m2 sc1) ∧ w'.cell? ⟨q2, o2 + k, none⟩ = some (.slice s2 m2 sc2)) (first | exact hK _ hyw | exact hK _ HNX.out.drew | exact hK _ HNX.out) (first | (go_at_call 16; refine (hs _ (by first | exact HNX.out.drew | exact HNX.out)).mono ?_; rintro e y1 ⟨rfl, e1⟩; have hy1 : Below wr.heap.size wr y1 := (by first | exact drew_below e1 | exact e1); have hyw := bthen' HNX.out hy1))
      go_wp2
      exact ⟨⟨k + 1, by omega, by go_num, hyw⟩, by simp [intOf]; omega⟩
    · obtain rfl : k = n := by omega
      go_wp2
      go_ret
      exact ⟨rfl, bthen' HBW.out HNX.out⟩
end Go.Proofs.YtidppkbphkcmeaaGreat
/- Contract: packs right or not, by the document. -/
namespace Go.Proofs.YtidppkbphkcmeaaGreat
open Go.RowKit
set_option linter.unusedVariables false
set_option linter.unusedSimpArgs false

theorem rps_eq {y : List Int} {k : Nat} (hk : k ≤ 12) : rps y = k ↔ ps y = k := by
  by_cases h : ps y ≤ 12
  · rw [rps_ok y h]
  · have := rps_no y (by omega)
    omega
set_option maxRecDepth 10000 in
set_option maxHeartbeats 8000000 in
theorem rrightP_any (n c : Int) (intra : Bool) (ag : Option Addr) (ng cg : Nat) (G : List (List Int)) (ay : Option Addr) (ny cy : Nat) (Y : List (List (List Int))) (w : World) (h : PkAt w ag ng cg G ay ny cy Y) (hg20 : ng ≤ 20) (hgs : ∀ i, i < ng → (G.getD i []).length ≤ 100) (hys : ∀ i j, i < ny → j < (Y.getD i []).length → ((Y.getD i []).getD j []).length ≤ 100) :
    Calls Tryz.prog 8 #[.int .i64 n, .int .i64 c, .agg #[.bool intra, .slice ag ng cg, .slice ay ny cy]] w fun e w' => e = .returned (.bool (pkB n c G Y)) ∧ Below w.heap.size w w' := by
  have hW := below1 w (.cells #[.bool intra, .slice ag ng cg, .slice ay ny cy] 33)
  have hB0 := B3.new w (.bool intra) (.slice ag ng cg) (.slice ay ny cy) 33
  have h1 := h.below hW
  obtain ⟨ez, e0, e1, e2, f0, f1, f2⟩ := id hB0
  have hr := fun W => rsright_any n c W
  have hfa := rfair12_any c ag ng cg G _ h1.lg hg20 hgs h1.vg
  cases hrt : rtB n c
  · rw [pk_no1 (by rw [hrt]; rfl)]
    rw [hrt] at hr
    clear hrt h1 h hB0 hfa hgs hys
    go_enter Tryz.func8, Tryz.ntmps8
    go_wp2_with (go_at_call 25; refine (hr _).mono ?_; rintro x w9 ⟨rfl, h9⟩; have h9 := h9.symm; subst h9)
    go_ret
    exact ⟨rfl, hW⟩
  rw [hrt] at hr
  cases hfg : fairG c G
  · rw [pk_no1 (by rw [hrt, hfg]; rfl)]
    rw [hfg] at hfa
    clear hrt hfg h1 h hB0 hgs hys
    go_enter Tryz.func8, Tryz.ntmps8
    go_wp2_with (first | (go_at_call 25; refine (hr _).mono ?_; rintro x w9 ⟨rfl, h9⟩; have h9 := h9.symm; subst h9) | (go_at_call 10; refine hfa.mono ?_; rintro x w8 ⟨rfl, h8⟩; have h8 := h8.symm; subst h8))
    go_ret
    exact ⟨rfl, hW⟩
  rw [hfg] at hfa
  have hlg := h.lg
  obtain rfl : (ng : Int) = c := by have := (fair_iff.1 hfg).1; omega
  have hpu := rpulses12_any n ng ag cg G _ h1.vg hrt hfg
  have hrm := rm_bd n ng
  have HIFF : Hid (PkOk n ng G Y ↔ ny = ng ∧ ∀ i, i < ng → (Y.getD i []).length = 5 ∧ VsOk (Y.getD i []) (chan (G.getD i []) (rmI n ng))) := by
    constructor
    · exact fun k => ⟨by rw [← h.ly]; exact k.ly, fun i hi => ⟨k.l5 i hi, k.vs i hi⟩⟩
    · exact fun k => ⟨hrt, hfg, by rw [h.ly]; exact k.1, fun i hi => (k.2 i hi).1, fun i hi => (k.2 i hi).2⟩
  have HYES : Hid (PkOk n ng G Y → pkB n ng G Y = true) := pk_yes
  have HNO : Hid (¬ PkOk n ng G Y → pkB n ng G Y = false) := pk_no
  generalize pkB n ng G Y = R at *
  generalize PkOk n ng G Y = PK at *
  have HAT : Hid (∀ i, i < ng → ((List.range ng).map (pul (rmI n ng) G)).getD i [] = pls (chan (G.getD i []) (rmI n ng))) := fun i hi => pul_at _ _ _ i hi
  have HCH : Hid (∀ i b, b < 5 → chan (G.getD i []) (rmI n ng) b ≤ 12) := fun i b hb => (chan_ok _ hrm.1).1.le b hb
  have hkl : ((List.range ng).map (pul (rmI n ng) G)).length = ng := by simp
  generalize (List.range ng).map (pul (rmI n ng) G) = K at *
  generalize rmI n ng = room at *
  by_cases hny : ny = ng
  · have hny' := hny
    subst hny'
    have HH := hid h1
    have HYS := hid hys
    have hmy := h.my
    clear hrt hfg hlg hrm h1 hny h hys hgs
    go_enter Tryz.func8, Tryz.ntmps8
    go_wp2_with (first | (go_at_call 25; refine (hr _).mono ?_; rintro x w9 ⟨rfl, h9⟩; have h9 := h9.symm; subst h9) | (go_at_call 10; refine hfa.mono ?_; rintro x w8 ⟨rfl, h8⟩; have h8 := h8.symm; subst h8) | (go_at_call 26; refine hpu.mono ?_; rintro x w1 ⟨vk, rfl, hfr1, hb1⟩))
    have hC0 := hB0.below hb1
    have HB1 := hid (bthen' hW hb1)
    have HH1 := hid (HH.out.below hb1)
    obtain ⟨ka0, kc0, hvk, _⟩ := id hfr1
    rw [hkl] at hvk
    subst hvk
    have HFR := hid hfr1
    clear hb1 hfr1 hpu hB0 hW HH hfa hr ez e0 e1 e2 f0 f1 f2 hkl
    go_loopw [8] (fun p wr => ∃ i : Nat, i ≤ ny ∧ p = .int .i64 i ∧ Hid (∀ j, j < i → (Y.getD j []).length = 5 ∧ VsOk (Y.getD j []) (chan (G.getD j []) room)) ∧ Hid (Below w1.heap.size w1 wr)) (fun p _ => ny - (intOf p).toNat)
    case atStart => exact ⟨0, by omega, rfl, fun j hj => by omega, Below.refl _ _⟩
    case round =>
      obtain ⟨i, hi, rfl, HP, HBR⟩ := hrel
      obtain ⟨W1, rfl⟩ : ∃ z, z = wr := ⟨wr, rfl⟩
      by_cases hlt : i < ny
      · obtain ⟨b, off, hbo, hb, ra, rc, hc1, hyr⟩ := (HH1.out.below HBR.out).vy.at i hlt
        have hbo' := hbo.symm
        subst hbo'
        obtain ⟨kb, ko, hko, hkb, ka, kc, kc1, _, hkr⟩ := (HFR.out.below HBR.out).at i hlt
        have hko' := hko.symm
        subst hko'
        rw [HAT.out i hlt, pls_len] at kc1
        rw [HAT.out i hlt, pls_len] at hkr
        obtain ⟨kb2, ko2, hka, hkb2, hkcc⟩ := rw_pls hkr
        subst hka
        have hD0 := hC0.below HBR.out
        have hC0' := hD0.c2
        have HPN : Hid ((Y.getD i []).length = 5 ∧ VsOk (Y.getD i []) (chan (G.getD i []) room) → ∀ j, j < i + 1 → (Y.getD j []).length = 5 ∧ VsOk (Y.getD j []) (chan (G.getD j []) room)) := fun h j hj => by
          by_cases e : j < i
          · exact HP.out j e
          · obtain rfl : j = i := by omega
            exact h
        have HRN : Hid (¬ ((Y.getD i []).length = 5 ∧ VsOk (Y.getD i []) (chan (G.getD i []) room)) → R = false) := fun h => HNO.out fun k => h ((HIFF.out.1 k).2 i hlt)
        have hys1 := fun j hj => HYS.out i j hlt hj
        have hft := HH1.out.fit i
        have hch := HCH.out i
        have hyl := HH1.out.yl i
        generalize chan (G.getD i []) room = fk at *
        generalize hyy : Y.getD i [] = y at *
        have HYY := hid hyy
        clear hyy
        have i1 : (0 : Int) ≤ (i : Int) := by omega
        have i2 : (i : Int) < (ny : Int) := by omega
        have i3 : IntKind.i64.wrap (i : Int) = i := wraps_i64 _ (by omega) (by omega)
        by_cases h5 : y.length = 5
        · have HY5 := hid h5
          have h5' : ((y.length : Int) != 5) = false := by simp; omega
          rw [h5] at hc1 hyr
          have HYR := hid hyr
          have HK := hid hkcc
          have HC1 := hid hc1
          have HKC := hid kc1
          have HFT := hid hft
          have HCHK := hid hch
          have HYS1 := hid hys1
          have hbl := hb
          clear hyr hkcc hkr hft hch hys1 h5' hyl h5
          go_wp2
          clear hc1 kc1 hC0'
          go_loopw [9] (fun p wr => ∃ j : Nat, j ≤ 5 ∧ p = .int .i64 j ∧ Hid (∀ q, q < j → (y.getD q []).length = wd q ∧ ps (y.getD q []) = fk q) ∧ Hid (Below W1.heap.size W1 wr)) (fun p _ => 5 - (intOf p).toNat)
          case atStart => exact ⟨0, by omega, rfl, fun q hq => by omega, Below.refl _ _⟩
          case round =>
            obtain ⟨j, hj, rfl, HQ, HBX⟩ := hrel
            by_cases hlt5 : j < 5
            · obtain ⟨yb, yo, hyo, hyb, sa, sc, yc1, _, hrw⟩ := (HYR.out.below HBX.out).at j hlt5
              have hyo' := hyo.symm
              subst hyo'
              have c0 := (hD0.below HBX.out).c2
              have c1 := ((bcell HBX.out).1 _ _ hbl).trans HC1.out
              have c3 := ((bcell HBX.out).1 _ _ hkb).trans HKC.out
              have c4 := ((bcell HBX.out).1 _ _ hkb2).trans (HK.out j hlt5)
              have hwd := fun w => rwidth_b j hlt5 w
              have hl100 := HYS1.out j (by rw [HY5.out]; exact hlt5)
              have hpl := fun n => rpulses_any (.slice sa (y.getD j []).length sc) (y.getD j []) (wr.drewN n) (hrw.below (drewN_below (Below.refl _ _) n)) (HFT.out j) hl100
              have hfk := HCHK.out j hlt5
              have HEQ : Hid (rps (y.getD j []) = fk j ↔ ps (y.getD j []) = fk j) := rps_eq hfk
              have HQN : Hid ((y.getD j []).length = wd j ∧ ps (y.getD j []) = fk j → ∀ q, q < j + 1 → (y.getD q []).length = wd q ∧ ps (y.getD q []) = fk q) := fun h q hq => by
                by_cases e : q < j
                · exact HQ.out q e
                · obtain rfl : q = j := by omega
                  exact h
              have HRQ : Hid (¬ ((y.getD j []).length = wd j ∧ ps (y.getD j []) = fk j) → R = false) := fun h => HRN.out fun k => h (k.2 j hlt5)
              have j1 : (0 : Int) ≤ (j : Int) := by omega
              have j2 : (j : Int) < 5 := by omega
              have j3 : IntKind.i64.wrap (j : Int) = j := wraps_i64 _ (by omega) (by omega)
              clear hrw hl100 hfk
              generalize y.getD j [] = v at *
              generalize fk j = q at *
              generalize wd j = d at *
              by_cases hw : v.length = d
              · have k1 : ((v.length : Int) != (d : Int)) = false := by simp; omega
                by_cases hp : rps v = q
                · have k2 : ((rps v : Int) != (q : Int)) = false := by simp; omega
                  have HQ2 := hid (HQN.out ⟨hw, HEQ.out.1 hp⟩)
                  clear hw hp HQN HRQ HEQ HPN HRN
                  generalize rps v = p at *
                  generalize v.length = Z at *
                  go_wp2
                  go_quiet (first | (go_at_call 27; exact Calls.quiet_of_same (hwd _)) | (go_at_call 28; exact Calls.quiet_of_same (hpl _)))
                  go_wp2
                  exact ⟨⟨j + 1, by omega, by go_num, HQ2, drewN_below HBX.out _⟩, by simp [intOf]; omega⟩
                · have k2 : ((rps v : Int) != (q : Int)) = true := by simp; omega
                  have HR := hid (HRQ.out (fun h => hp (HEQ.out.2 h.2)))
                  clear hw hp HQN HRQ HEQ HPN HRN
                  generalize rps v = p at *
                  generalize v.length = Z at *
                  go_wp2
                  go_quiet (first | (go_at_call 27; exact Calls.quiet_of_same (hwd _)) | (go_at_call 28; exact Calls.quiet_of_same (hpl _)))
                  go_wp2
                  go_ret
                  exact ⟨ret_bool HR.out.symm, bthen' HB1.out (bthen' HBR.out (drewN_below HBX.out _))⟩
              · have k1 : ((v.length : Int) != (d : Int)) = true := by simp; omega
                have HR := hid (HRQ.out (fun h => hw h.1))
                clear hw HQN HRQ HEQ HPN HRN hpl
                generalize v.length = Z at *
                go_wp2
                go_quiet (first | (go_at_call 27; exact Calls.quiet_of_same (hwd _)))
                go_wp2
                go_ret
                exact ⟨ret_bool HR.out.symm, bthen' HB1.out (bthen' HBR.out (drewN_below HBX.out _))⟩
            · obtain rfl : j = 5 := by omega
              have HP2 := hid (HPN.out ⟨HY5.out, HQ.out⟩)
              clear hlt5 HQ HPN HRN
              go_wp2
              exact ⟨⟨i + 1, by omega, by go_num, HP2, bthen' HBR.out HBX.out⟩, by simp [intOf]; omega⟩
        · have HR := hid (HRN.out (fun h => h5 h.1))
          have h5' : ((y.length : Int) != 5) = true := by simp; omega
          clear h5 HPN HRN hyr hkcc hkr hft hch hys1 HYY
          generalize y.length = Z at *
          go_wp2
          go_ret
          exact ⟨ret_bool HR.out.symm, bthen' HB1.out HBR.out⟩
      · obtain rfl : i = ny := by omega
        have HR := hid (HYES.out (HIFF.out.2 ⟨by first | rfl | trivial, HP.out⟩))
        clear hlt HYES HNO HP HAT HIFF
        go_wp2
        go_ret
        exact ⟨ret_bool HR.out.symm, bthen' HB1.out HBR.out⟩
  · have HR := hid (HNO.out (fun k => hny (HIFF.out.1 k).1))
    have k1 : ((ny : Int) != (ng : Int)) = true := by simp; omega
    have hlg2 := h.mg
    have hly2 := h.my
    clear hrt hfg hlg hrm h1 h HIFF HYES HNO hpu hys hgs
    go_enter Tryz.func8, Tryz.ntmps8
    go_wp2_with (first | (go_at_call 25; refine (hr _).mono ?_; rintro x w9 ⟨rfl, h9⟩; have h9 := h9.symm; subst h9) | (go_at_call 10; refine hfa.mono ?_; rintro x w8 ⟨rfl, h8⟩; have h8 := h8.symm; subst h8))
    go_ret
    exact ⟨ret_bool HR.out.symm, hW⟩
end Go.Proofs.YtidppkbphkcmeaaGreat
/- Contract: the examples at the end of all statements. -/
namespace Go.Proofs.YtidppkbphkcmeaaGreat
open Go.RowKit
set_option linter.unusedVariables false
set_option linter.unusedSimpArgs false

def eG : List (List Int) := [[0, 0, 0, 0, 0]]
def eY : List (List (List Int)) := [[[0], [0], [0, 0], [0, 0, 0, 0], [0, 0, 0, 0, 0, 0, 0, 0]]]
theorem e_pk : pkB 11 1 eG eY = true := by decide +kernel
theorem e_ok : PkOk ((11 : Nat) : Int) 1 eG eY := by
  obtain ⟨m, hm, h⟩ := pk_iff.1 e_pk
  obtain rfl : m = 1 := by omega
  exact h
def nz (n : Nat) : Obj := .cells ((List.replicate n (0 : Int)).map (Value.int .i64)).toArray 3
/-- The world behind the example's lists. -/
def kW (w : World) : World :=
  ((((((((w.alloc (nz 5)).alloc (.cells #[.slice (some ⟨w.heap.size, 0, none⟩) 5 5] 45)).alloc (nz 1)).alloc (nz 1)).alloc (nz 2)).alloc (nz 4)).alloc (nz 8)).alloc
    (.cells #[.slice (some ⟨w.heap.size + 1 + 1, 0, none⟩) 1 1, .slice (some ⟨w.heap.size + 1 + 1 + 1, 0, none⟩) 1 1, .slice (some ⟨w.heap.size + 1 + 1 + 1 + 1, 0, none⟩) 2 2, .slice (some ⟨w.heap.size + 1 + 1 + 1 + 1 + 1, 0, none⟩) 4 4, .slice (some ⟨w.heap.size + 1 + 1 + 1 + 1 + 1 + 1, 0, none⟩) 8 8] 45)).alloc
    (.cells #[.slice (some ⟨w.heap.size + 1 + 1 + 1 + 1 + 1 + 1 + 1, 0, none⟩) 5 5] 22)
theorem at_top {W : World} {k : Nat} (hk : W.heap.size = k) (o : Obj) : (W.alloc o).heap[k]? = some o := by subst hk; exact heap_alloc_last W o
theorem at_old {W : World} {k : Nat} {x : Obj} (h : W.heap[k]? = some x) (o : Obj) : (W.alloc o).heap[k]? = some x := ((below1 W o).block k (block_in h)).trans h
theorem kW_heap (w : World) : (kW w).heap.size = w.heap.size + 9 ∧ (kW w).heap[w.heap.size]? = some (nz 5) ∧ (kW w).heap[w.heap.size + 1]? = some (.cells #[.slice (some ⟨w.heap.size, 0, none⟩) 5 5] 45 (0, 0)) ∧ (kW w).heap[w.heap.size + 1 + 1]? = some (nz 1) ∧ (kW w).heap[w.heap.size + 1 + 1 + 1]? = some (nz 1) ∧ (kW w).heap[w.heap.size + 1 + 1 + 1 + 1]? = some (nz 2) ∧ (kW w).heap[w.heap.size + 1 + 1 + 1 + 1 + 1]? = some (nz 4) ∧ (kW w).heap[w.heap.size + 1 + 1 + 1 + 1 + 1 + 1]? = some (nz 8) ∧
    (kW w).heap[w.heap.size + 1 + 1 + 1 + 1 + 1 + 1 + 1]? = some (.cells #[.slice (some ⟨w.heap.size + 1 + 1, 0, none⟩) 1 1, .slice (some ⟨w.heap.size + 1 + 1 + 1, 0, none⟩) 1 1, .slice (some ⟨w.heap.size + 1 + 1 + 1 + 1, 0, none⟩) 2 2, .slice (some ⟨w.heap.size + 1 + 1 + 1 + 1 + 1, 0, none⟩) 4 4, .slice (some ⟨w.heap.size + 1 + 1 + 1 + 1 + 1 + 1, 0, none⟩) 8 8] 45 (0, 0)) ∧
    (kW w).heap[w.heap.size + 1 + 1 + 1 + 1 + 1 + 1 + 1 + 1]? = some (.cells #[.slice (some ⟨w.heap.size + 1 + 1 + 1 + 1 + 1 + 1 + 1, 0, none⟩) 5 5] 22 (0, 0)) := by
  unfold kW
  refine ⟨by simp, ?_, ?_, ?_, ?_, ?_, ?_, ?_, ?_, ?_⟩
  all_goals (repeat first | (refine at_top ?_ _; (simp; done)) | refine at_old ?_ _)
theorem kW_below (w : World) : Below w.heap.size w (kW w) := by
  unfold kW
  repeat first | exact Below.refl _ _ | refine Below.alloc ?_ (by simp; try omega) _
theorem row_nz {W : World} {b n c : Nat} (h : W.heap[b]? = some (nz n)) : Rx false none W (.slice (some ⟨b, 0, none⟩) n c) (List.replicate n 0) :=
  Rx.ofF (Rw.of_row (e := 3) (cur := List.replicate n 0) h (by simp)).any (fun b e => by cases e)
theorem lit_pk (w : World) : PkAt (kW w) (some ⟨w.heap.size + 1, 0, none⟩) 1 1 eG (some ⟨w.heap.size + 1 + 1 + 1 + 1 + 1 + 1 + 1 + 1, 0, none⟩) 1 1 eY := by
  obtain ⟨hs, h0, h1, h2, h3, h4, h5, h6, h7, h8⟩ := kW_heap w
  have hG : Fr false (kW w) (.slice (some ⟨w.heap.size + 1, 0, none⟩) 1 1) eG := ⟨_, 1, rfl, .inr ⟨w.heap.size + 1, 0, rfl, by omega, fun i hi => by
    have hi : i = 0 := by have : i < 1 := hi; omega
    subst hi
    exact ⟨.slice (some ⟨w.heap.size, 0, none⟩) 5 5, by simp [World.cell?, h1], row_nz h0⟩⟩⟩
  have hR : Fr false (kW w) (.slice (some ⟨w.heap.size + 1 + 1 + 1 + 1 + 1 + 1 + 1, 0, none⟩) 5 5) [[0], [0], [0, 0], [0, 0, 0, 0], [0, 0, 0, 0, 0, 0, 0, 0]] := ⟨_, 5, rfl, .inr ⟨w.heap.size + 1 + 1 + 1 + 1 + 1 + 1 + 1, 0, rfl, by omega, fun i hi => by
    have hi : i < 5 := hi
    rcases (show i = 0 ∨ i = 1 ∨ i = 2 ∨ i = 3 ∨ i = 4 by omega) with rfl | rfl | rfl | rfl | rfl
    · exact ⟨_, by simp [World.cell?, h7]; rfl, row_nz h2⟩
    · exact ⟨_, by simp [World.cell?, h7]; rfl, row_nz h3⟩
    · exact ⟨_, by simp [World.cell?, h7]; rfl, row_nz h4⟩
    · exact ⟨_, by simp [World.cell?, h7]; rfl, row_nz h5⟩
    · exact ⟨_, by simp [World.cell?, h7]; rfl, row_nz h6⟩⟩⟩
  have hY : Fc false (kW w) (.slice (some ⟨w.heap.size + 1 + 1 + 1 + 1 + 1 + 1 + 1 + 1, 0, none⟩) 1 1) eY := ⟨_, 1, rfl, .inr ⟨w.heap.size + 1 + 1 + 1 + 1 + 1 + 1 + 1 + 1, 0, rfl, by omega, fun i hi => by
    have hi : i = 0 := by have : i < 1 := hi; omega
    subst hi
    exact ⟨_, by simp [World.cell?, h8], hR⟩⟩⟩
  have hfit : ∀ i j, Fits ((eY.getD i []).getD j []) := by
    intro i j
    by_cases hi : i < 1 ∧ j < 5
    · obtain ⟨h1, h2⟩ := hi
      obtain rfl : i = 0 := by omega
      rcases (show j = 0 ∨ j = 1 ∨ j = 2 ∨ j = 3 ∨ j = 4 by omega) with rfl | rfl | rfl | rfl | rfl
      all_goals exact fits_of (by decide)
    · have : (eY.getD i []).getD j [] = [] := by
        by_cases h : i < 1
        · obtain rfl : i = 0 := by omega
          have hj : 5 ≤ j := by omega
          rw [List.getD_eq_getElem?_getD (l := eY.getD 0 []), List.getElem?_eq_none (by exact hj)]; rfl
        · rw [List.getD_eq_getElem?_getD (l := eY), List.getElem?_eq_none (show eY.length ≤ i by show 1 ≤ i; omega)]; rfl
      rw [this]; exact fits_nil
  have hyl : ∀ i, (eY.getD i []).length ≤ 9223372036854775807 := by
    intro i
    by_cases h : i < 1
    · obtain rfl : i = 0 := by omega
      decide
    · rw [List.getD_eq_getElem?_getD (l := eY), List.getElem?_eq_none (show eY.length ≤ i by show 1 ≤ i; omega)]; decide
  exact ⟨rfl, by decide, hG, rfl, by decide, hY, hfit, hyl⟩
/-! ### What is written, and read, of the examples -/
def eP : List Int := pkt (EY true eG [] 1 eY 1) 11
theorem e_len : eP.length = 11 := pkt_len (by have h := e_ok.short true []; rw [← EY_all] at h; omega)
theorem pkt_byts {E : En} (h : Byts E.all) (N : Nat) : Byts (pkt E N) := h.append (fun x hx => by have := List.eq_of_mem_replicate hx; omega)
def zB : List Int := List.replicate 11 0
def zA : List (List Int) := [[9, 2, 3, 4, 5]]
theorem z_i : fI (De.open zB) = false := by decide +kernel
theorem z_byts : Byts zB := fun x hx => by have := List.eq_of_mem_replicate hx; omega
theorem z_g : gL false (dF (De.open zB)) zA 1 = [[6, 0, 0, 1, 2]] := by decide +kernel
/-- What was written is read as it was. -/
theorem back_all {N c : Nat} {G : List (List Int)} {Y : List (List (List Int))} (h : PkOk N c G Y) (intra : Bool) {A : List (List Int)} (hA : ahB intra c A = true) :
    fI (De.open (pkt (EY intra G A c Y c) N)) = intra ∧ gL (fI (De.open (pkt (EY intra G A c Y c) N))) (dF (De.open (pkt (EY intra G A c Y c) N))) A c = G ∧ ∀ Y', TkY (dGs (fI (De.open (pkt (EY intra G A c Y c) N))) (dF (De.open (pkt (EY intra G A c Y c) N))) c) (kkG (rmI N c) (gL (fI (De.open (pkt (EY intra G A c Y c) N))) (dF (De.open (pkt (EY intra G A c Y c) N))) A c)) c Y' → Y' = Y := by
  have hA' : intra = true ∨ fairG c A = true := by
    unfold ahB at hA
    rw [Bool.or_eq_true] at hA
    exact hA
  obtain ⟨h1, h2, h3⟩ := h.back intra hA' (N - ((puts En.new (cP intra G A Y c)).m + 4)) (De.open (pkt (EY intra G A c Y c) N)) rfl
  rw [h1, h2]
  exact ⟨rfl, rfl, fun Y' hY' => hY'.only h3⟩
theorem pkt_ok {N c : Nat} {G : List (List Int)} {Y : List (List (List Int))} (h : PkOk N c G Y) (intra : Bool) (A : List (List Int)) : (pkt (EY intra G A c Y c) N).length = N ∧ Byts (pkt (EY intra G A c Y c) N) :=
  ⟨pkt_len (by have h := h.short intra A; rw [← EY_all] at h; omega), pkt_byts (En.all_byts _) _⟩
theorem cread_back (N c : Nat) (ab : Option Addr) (cb : Nat) (intra : Bool) (G : List (List Int)) (Y : List (List (List Int))) (A A' : List (List Int)) (aa : Option Addr) (na ca : Nat) (w : World) (h : PkOk N c G Y) (hah : ahB intra c A = true) (hsame : EY intra G A' c Y c = EY intra G A c Y c) (hb : Rw .u8 w (.slice ab N cb) (pkt (EY intra G A' c Y c) N)) (hA : A.length = na) (hma : na ≤ 9223372036854775807) (hva : Fr false w (.slice aa na ca) A) :
    Calls Tryz.prog 13 #[.int .i64 (N : Nat), .int .i64 (c : Nat), .slice ab N cb, .slice aa na ca] w fun x w' => ∃ gG gY, x = .returned (.tuple #[.agg #[.bool intra, .slice (some ⟨gG, 0, none⟩) c c, .slice (some ⟨gY, 0, none⟩) c c], .int .i64 0]) ∧ Fr false w' (.slice (some ⟨gG, 0, none⟩) c c) G ∧ Fc false w' (.slice (some ⟨gY, 0, none⟩) c c) Y ∧ Below w.heap.size w w' := by
  rw [hsame] at hb
  obtain ⟨b1, b2, b3⟩ := back_all h intra hah
  obtain ⟨hl, hby⟩ := pkt_ok h intra A
  have hrd := cread_ok N c ab cb _ aa na ca A w h.rt hl hby (by rw [hl]; exact hb) hA hma hva (by rw [b1]; exact hah)
  refine hrd.mono ?_
  rintro x w' ⟨gG, gY, Y', rfl, hg, ht, hy, hbl⟩
  have hY := b3 Y' ht
  subst hY
  rw [b2] at hg
  rw [b1]
  exact ⟨gG, gY, rfl, hg, hy, hbl⟩

theorem few_of {n : Int} {c : Nat} {G : List (List Int)} {Y : List (List (List Int))} (h : PkOk n c G Y) : Few G Y := by
  have hc : c ≤ 2 := by have := rt_parts h.rt; omega
  refine ⟨by rw [h.lg]; omega, fun i hi => ?_, by rw [h.ly]; omega, fun i hi => ?_, fun i hi j hj => ?_⟩
  · rw [gok_len (h.gok i (by rw [h.lg] at hi; exact hi))]; omega
  · rw [h.l5 i (by rw [h.ly] at hi; exact hi)]; omega
  · have hi : i < c := by rw [h.ly] at hi; exact hi
    rw [h.l5 i hi] at hj
    have h1 := (h.vs i hi j hj).1
    have h2 := (wd_pos hj).2
    omega
theorem few_nil : Few [] [] := ⟨by simp, fun i hi => by simp at hi, by simp, fun i hi => by simp at hi, fun i hi => by simp at hi⟩

/-- A pack that is right lies in memory as a pack. -/
theorem pkat_of {n : Int} {c : Nat} {G : List (List Int)} {Y : List (List (List Int))} (h : PkOk n c G Y) {w : World} {ag ay : Option Addr} {cg cy : Nat} (hg : Fr false w (.slice ag c cg) G) (hy : Fc false w (.slice ay c cy) Y) : PkAt w ag c cg G ay c cy Y := by
  have hc : c ≤ 2 := by have := rt_parts h.rt; omega
  refine ⟨h.lg, by omega, hg, h.ly, by omega, hy, fun i j => ?_, fun i => ?_⟩
  · by_cases hi : i < c
    · by_cases hj : j < 5
      · have h1 := (h.vs i hi j hj).2
        have h2 := (h.okf i).le j hj
        intro q
        by_cases hq : q < ((Y.getD i []).getD j []).length
        · have := ps_at _ q hq
          omega
        · rw [List.getD_eq_getElem?_getD, List.getElem?_eq_none (by omega)]; simp
      · rw [List.getD_eq_getElem?_getD (l := Y.getD i []), List.getElem?_eq_none (by rw [h.l5 i hi]; omega)]; exact fits_nil
    · rw [List.getD_eq_getElem?_getD (l := Y), List.getElem?_eq_none (by rw [h.ly]; omega)]; exact fits_nil
  · by_cases hi : i < c
    · rw [h.l5 i hi]; omega
    · rw [List.getD_eq_getElem?_getD (l := Y), List.getElem?_eq_none (by rw [h.ly]; omega)]; simp
theorem pk_rows {n : Int} {c : Nat} {G : List (List Int)} {Y : List (List (List Int))} (h : PkOk n c G Y) : (∀ i, i < c → (G.getD i []).length ≤ 100) ∧ ∀ i j, i < c → j < (Y.getD i []).length → ((Y.getD i []).getD j []).length ≤ 100 :=
  ⟨fun i hi => by rw [gok_len (h.gok i hi)]; omega, fun i j hi hj => (few_of h).yss i (by rw [h.ly]; exact hi) j hj⟩

theorem gp_at {intra : Bool} {c : Nat} {G A : List (List Int)} (hG : ∀ k, k < c → gokB (G.getD k []) = true) (h : ahB intra c A = true) (k : Nat) (hk : k < c) : gpB (G.getD k []) (A.getD k []) intra = true := by
  unfold gpB
  rw [hG k hk]
  cases intra
  · have h1 := fair_iff.1 (show fairG c A = true from h)
    rw [h1.2 k (by have := h1.1; omega)]; rfl
  · rfl
/-- A vector's choices have room where the channel's have. -/
theorem rm_vec {e : En} {l : List (List Int)} (h : rm e (cB l 5) = true) {k : Nat} (hk : k < 5) : rm (puts e (cB l k)) (cV (l.getD k [])) = true := by
  obtain ⟨m, hm⟩ := cB_more l (k + 1) (4 - k)
  rw [show k + 1 + (4 - k) = 5 by omega] at hm
  rw [hm, cB_succ, List.append_assoc] at h
  exact (rm_left (rm_left h).2).1

/-- What stands behind a put, once it is stored. -/
theorem fin_put {B y : World} {R R2 : Int} {a2 : Option Addr} {n2 c2 be : Nat} {F : En} {x0 x1 x2 : Value} {ae : Option Addr} {ne ce : Nat} (h : rEv y R2 a2 n2 c2 F ∧ B2 y be (.int .u64 R) (.slice ae ne ce) ∧ B3 y B.heap.size x0 x1 x2 ∧ Below B.heap.size B y) (hbe : B.heap.size < be) :
    rEv ((y.setCell ⟨be, 0, none⟩ (.int .u64 R2)).setCell ⟨be, 1, none⟩ (.slice a2 n2 c2)) R2 a2 n2 c2 F ∧ B2 ((y.setCell ⟨be, 0, none⟩ (.int .u64 R2)).setCell ⟨be, 1, none⟩ (.slice a2 n2 c2)) be (.int .u64 R2) (.slice a2 n2 c2) ∧ B3 ((y.setCell ⟨be, 0, none⟩ (.int .u64 R2)).setCell ⟨be, 1, none⟩ (.slice a2 n2 c2)) B.heap.size x0 x1 x2 ∧ Below B.heap.size B ((y.setCell ⟨be, 0, none⟩ (.int .u64 R2)).setCell ⟨be, 1, none⟩ (.slice a2 n2 c2)) :=
  ⟨h.1.set2 h.2.1 (fun z => by simp) _ _, h.2.1.set _ _, (h.2.2.1.other _ _ _ (by omega)).other _ _ _ (by omega), bset2x h.2.2.2 _ _ _ (by omega)⟩

/-! ### The walk -/
theorem fr_none (w : World) : Fr false w (.slice none 0 0) [] := ⟨none, 0, rfl, .inl rfl⟩
theorem fc_none (w : World) : Fc false w (.slice none 0 0) [] := ⟨none, 0, rfl, .inl rfl⟩
theorem k_write (W : World) (ag ay : Option Addr) (h : PkAt W ag 1 1 eG ay 1 1 eY) : Calls Tryz.prog 7 #[.int .i64 11, .int .i64 1, .agg #[.bool true, .slice ag 1 1, .slice ay 1 1], .slice none 0 0] W fun x w' => ∃ g, x = .returned (.tuple #[.slice (some ⟨g, 0, none⟩) 11 11, .int .i64 0]) ∧ Rw .u8 w' (.slice (some ⟨g, 0, none⟩) 11 11) eP ∧ Below W.heap.size W w' := by
  refine Calls.mono (cwrite_ok 11 1 true ag 1 eG ay 1 eY none 0 0 [] W h e_ok rfl (by decide) (fr_none W) rfl) ?_
  rintro x w' ⟨g, rfl, hr, hb⟩
  exact ⟨g, rfl, hr.rw, hb⟩
theorem k_read (W : World) (g : Nat) (h : Rw .u8 W (.slice (some ⟨g, 0, none⟩) 11 11) eP) : Calls Tryz.prog 13 #[.int .i64 11, .int .i64 1, .slice (some ⟨g, 0, none⟩) 11 11, .slice none 0 0] W fun x w' => ∃ gG gY, x = .returned (.tuple #[.agg #[.bool true, .slice (some ⟨gG, 0, none⟩) 1 1, .slice (some ⟨gY, 0, none⟩) 1 1], .int .i64 0]) ∧ Fr false w' (.slice (some ⟨gG, 0, none⟩) 1 1) eG ∧ Fc false w' (.slice (some ⟨gY, 0, none⟩) 1 1) eY ∧ Below W.heap.size W w' :=
  cread_back 11 1 _ 11 true eG eY [] [] none 0 0 W e_ok rfl rfl h rfl (by decide) (fr_none W)
theorem k_zero (W : World) (g : Nat) (h : Rw .u8 W (.slice (some ⟨g, 0, none⟩) 11 11) zB) : Calls Tryz.prog 13 #[.int .i64 11, .int .i64 1, .slice (some ⟨g, 0, none⟩) 11 11, .slice (some ⟨W.heap.size + 1, 0, none⟩) 1 1] ((W.alloc (.cells #[.int .i64 9, .int .i64 2, .int .i64 3, .int .i64 4, .int .i64 5] 3)).alloc (.cells #[.slice (some ⟨W.heap.size, 0, none⟩) 5 5] 45)) fun x w' => ∃ gG gY, x = .returned (.tuple #[.agg #[.bool false, .slice (some ⟨gG, 0, none⟩) 1 1, .slice (some ⟨gY, 0, none⟩) 1 1], .int .i64 0]) ∧ Fr false w' (.slice (some ⟨gG, 0, none⟩) 1 1) [[6, 0, 0, 1, 2]] ∧ Below W.heap.size W w' := by
  have hrd := cread_ok 11 1 (some ⟨g, 0, none⟩) 11 zB (some ⟨W.heap.size + 1, 0, none⟩) 1 1 zA _ (by decide) rfl z_byts (h.below (below2 W (.cells #[.int .i64 9, .int .i64 2, .int .i64 3, .int .i64 4, .int .i64 5] 3) (.cells #[.slice (some ⟨W.heap.size, 0, none⟩) 5 5] 45))) rfl (by decide) (gr1 W 9 2 3 4 5 3 45).weak (by rw [z_i]; decide)
  refine hrd.mono ?_
  rintro x w' ⟨gG, gY, Y', rfl, hg, ht, hy, hbl⟩
  rw [z_i] at hg ⊢
  rw [z_g] at hg
  exact ⟨gG, gY, rfl, hg, bthen' (below2 _ _ _) hbl⟩
end Go.Proofs.YtidppkbphkcmeaaGreat
/- Contract: the examples at the end of all statements, walked. -/
namespace Go.Proofs.YtidppkbphkcmeaaGreat
open Go.RowKit
set_option linter.unusedVariables false
set_option linter.unusedSimpArgs false

theorem e_few : Few eG eY := by
  refine ⟨by decide, fun i hi => ?_, by decide, fun i hi => ?_, fun i hi j hj => ?_⟩
  · obtain rfl : i = 0 := by have : i < 1 := hi; omega
    decide
  · obtain rfl : i = 0 := by have : i < 1 := hi; omega
    decide
  · obtain rfl : i = 0 := by have : i < 1 := hi; omega
    have hj : j < 5 := hj
    rcases (show j = 0 ∨ j = 1 ∨ j = 2 ∨ j = 3 ∨ j = 4 by omega) with rfl | rfl | rfl | rfl | rfl <;> decide
theorem k_same (w : World) (v : Value) (h : Fr false w v [[6, 0, 0, 1, 2]]) : Calls Tryz.prog 16 #[v, .slice (some ⟨w.heap.size + 1, 0, none⟩) 1 1] ((w.alloc (.cells #[.int .i64 6, .int .i64 0, .int .i64 0, .int .i64 1, .int .i64 2] 3)).alloc (.cells #[.slice (some ⟨w.heap.size, 0, none⟩) 5 5] 45)) fun e w' => e = .returned (.bool true) ∧ Below w.heap.size w w' := by
  refine Calls.mono (sameG_yes false true _ _ _ _ (h.below (below2 _ _ _)) (gr1 w 6 0 0 1 2 _ _) (by simp) (fun i hi => by have hi : i = 0 := (by simpa using hi); subst hi; simp)) ?_
  rintro e w' ⟨rfl, hB⟩
  exact ⟨rfl, bthen' (below2 _ _ _) hB⟩
theorem k_right (w : World) (ag ay : Option Addr) (h : PkAt w ag 1 1 eG ay 1 1 eY) : Calls Tryz.prog 17 #[.int .i64 11, .int .i64 1, .agg #[.bool true, .slice ag 1 1, .slice ay 1 1]] w fun e w' => e = .returned (.bool true) ∧ Below w.heap.size w w' := by
  have := cright_any 11 1 true ag 1 1 eG ay 1 1 eY w h
  rw [e_pk] at this
  exact this
set_option maxRecDepth 10000 in
set_option maxHeartbeats 16000000 in
theorem knows_any (w : World) : Calls Tryz.prog 6 #[] w fun e w' => e = .returned (.bool true) ∧ Below w.heap.size w w' := by
  obtain ⟨i0, hi, hz0, hz1, hz2⟩ := info_parts info_u8c
  go_enter Tryz.func6, Tryz.ntmps6
  go_upto_region 2 with fail
  change Code.wp _ _ _ _ ((kW w).alloc (.cells #[.bool true, .slice (some ⟨w.heap.size + 1, 0, none⟩) 1 1, .slice (some ⟨w.heap.size + 1 + 1 + 1 + 1 + 1 + 1 + 1 + 1, 0, none⟩) 1 1] 25))
  have hbw := (kW_below w).alloc (kW_below w).size (.cells #[.bool true, .slice (some ⟨w.heap.size + 1, 0, none⟩) 1 1, .slice (some ⟨w.heap.size + 1 + 1 + 1 + 1 + 1 + 1 + 1 + 1, 0, none⟩) 1 1] 25)
  have hpk := (lit_pk w).below (below1 (kW w) (.cells #[.bool true, .slice (some ⟨w.heap.size + 1, 0, none⟩) 1 1, .slice (some ⟨w.heap.size + 1 + 1 + 1 + 1 + 1 + 1 + 1 + 1, 0, none⟩) 1 1] 25))
  have hB := B3.new (kW w) (.bool true) (.slice (some ⟨w.heap.size + 1, 0, none⟩) 1 1) (.slice (some ⟨w.heap.size + 1 + 1 + 1 + 1 + 1 + 1 + 1 + 1, 0, none⟩) 1 1) 25
  rw [show (kW w).heap.size = w.heap.size + 1 + 1 + 1 + 1 + 1 + 1 + 1 + 1 + 1 from (kW_heap w).1] at hB
  generalize (kW w).alloc (.cells #[.bool true, .slice (some ⟨w.heap.size + 1, 0, none⟩) 1 1, .slice (some ⟨w.heap.size + 1 + 1 + 1 + 1 + 1 + 1 + 1 + 1, 0, none⟩) 1 1] 25) = W0 at *
  generalize w.heap.size + 1 + 1 + 1 + 1 + 1 + 1 + 1 + 1 + 1 = bp at *
  generalize w.heap.size + 1 + 1 + 1 + 1 + 1 + 1 + 1 + 1 = by_ at *
  generalize w.heap.size + 1 = bg at *
  obtain ⟨z0, o0, o1, o2, q0, q1, q2⟩ := id hB
  have hwr := k_write W0 _ _ hpk
  go_upto_region 3 with (go_at_call 7; refine hwr.mono ?_; rintro x w1 ⟨g, rfl, hr1, hb1⟩)
  have hrd := k_read w1 g hr1
  go_upto_region 4 with (go_at_call 13; refine hrd.mono ?_; rintro x w2 ⟨gG, gY, rfl, hg2, hy2, hb2⟩)
  have hBq := B3.new w2 (.bool true) (.slice (some ⟨gG, 0, none⟩) 1 1) (.slice (some ⟨gY, 0, none⟩) 1 1) 25
  have hb02 := (bthen' hb1 hb2).alloc (bthen' hb1 hb2).size (.cells #[.bool true, .slice (some ⟨gG, 0, none⟩) 1 1, .slice (some ⟨gY, 0, none⟩) 1 1] 25)
  have hb23 := below1 w2 (.cells #[.bool true, .slice (some ⟨gG, 0, none⟩) 1 1, .slice (some ⟨gY, 0, none⟩) 1 1] 25)
  have hg3 := hg2.below hb23
  have hy3 := hy2.below hb23
  generalize w2.alloc (.cells #[.bool true, .slice (some ⟨gG, 0, none⟩) 1 1, .slice (some ⟨gY, 0, none⟩) 1 1] 25) = W3 at *
  generalize w2.heap.size = bq at *
  clear hg2 hy2 hwr hrd hr1 z0 o0 o1 o2 q0 q1 q2
  clear hb23
  have hzr : ∀ w4 : World, w4.ownsRow W3.heap.size 5 1 (.slice (some ⟨W3.heap.size, 0, none⟩) 11 11) 11 (madeCells #[.int .u8 0] 11).toList → Rw .u8 w4 (.slice (some ⟨W3.heap.size, 0, none⟩) 11 11) zB := fun w4 h => by
    rw [made_one, ← List.map_replicate] at h
    exact (RwF.of_owns (k := .u8) (xs := List.replicate 11 0) h).rw
  have HB := hid hB
  have HBQ := hid hBq
  have HPK := hid hpk
  have HG3 := hid hg3
  have HY3 := hid hy3
  clear hB hBq hpk hg3 hy3
  go_upto_region 5 with (first | (at_make; refine wpList_make_full _ rfl _ _ 28 rfl W3.heap.size 5 i0 (.int .u8 0) 1 Tryz.underlying28 hi hz0 hz1 .i64 .i64 _ _ 11 rfl rfl (by omega) (by omega) (by rw [hz2]; omega) (by unfold maxLen; omega) (by simp) ?_; intro w4 hown4 hgrow4; have hb4 := grown_of_none hgrow4; have hrz := hzr _ hown4; clear hown4 hgrow4) | (go_at_call 13; refine (k_zero w4 W3.heap.size hrz).mono ?_; rintro x w5 ⟨gG2, gY2, rfl, hgx, hb5⟩))
  have hBx := B3.new w5 (.bool false) (.slice (some ⟨gG2, 0, none⟩) 1 1) (.slice (some ⟨gY2, 0, none⟩) 1 1) 25
  have hb35 := (bthen' hb4 hb5).alloc (bthen' hb4 hb5).size (.cells #[.bool false, .slice (some ⟨gG2, 0, none⟩) 1 1, .slice (some ⟨gY2, 0, none⟩) 1 1] 25)
  have hgx5 := hgx.below (below1 w5 (.cells #[.bool false, .slice (some ⟨gG2, 0, none⟩) 1 1, .slice (some ⟨gY2, 0, none⟩) 1 1] 25))
  generalize w5.alloc (.cells #[.bool false, .slice (some ⟨gG2, 0, none⟩) 1 1, .slice (some ⟨gY2, 0, none⟩) 1 1] 25) = W5 at *
  generalize w5.heap.size = bx at *
  have HBp := hid ((HB.out.below hb02).below hb35)
  have HBq := hid (HBQ.out.below hb35)
  have HBx := hid hBx
  have HP5 := hid ((HPK.out.below hb02).below hb35)
  have HG5 := hid (HG3.out.below hb35)
  have HY5 := hid (HY3.out.below hb35)
  have HX5 := hid hgx5
  have HBW := hid (bthen' hbw (bthen' hb02 hb35))
  clear HB HBQ HPK HG3 HY3 hgx hgx5 hb4 hb5 hb35 hb02 hbw hBx hzr hrz hi hz0 hz1 hz2 hb1 hb2
  have hK : ∀ w', Below W5.heap.size W5 w' → w'.cell? ⟨bp, 0, none⟩ = some (.bool true) ∧ w'.cell? ⟨bp, 1, none⟩ = some (.slice (some ⟨bg, 0, none⟩) 1 1) ∧ w'.cell? ⟨bp, 2, none⟩ = some (.slice (some ⟨by_, 0, none⟩) 1 1) ∧ w'.cell? ⟨bq, 0, none⟩ = some (.bool true) ∧ w'.cell? ⟨bq, 1, none⟩ = some (.slice (some ⟨gG, 0, none⟩) 1 1) ∧ w'.cell? ⟨bq, 2, none⟩ = some (.slice (some ⟨gY, 0, none⟩) 1 1) ∧ w'.cell? ⟨bx, 0, none⟩ = some (.bool false) ∧ w'.cell? ⟨bx, 1, none⟩ = some (.slice (some ⟨gG2, 0, none⟩) 1 1) := fun w' h => ⟨(HBp.out.below h).c0, (HBp.out.below h).c1, (HBp.out.below h).c2, (HBq.out.below h).c0, (HBq.out.below h).c1, (HBq.out.below h).c2, (HBx.out.below h).c0, (HBx.out.below h).c1⟩
  have has1 := fun W => as_any true (.slice (some ⟨bg, 0, none⟩) 1 1) (.slice (some ⟨by_, 0, none⟩) 1 1) ⟨_, _, _, rfl⟩ ⟨_, _, _, rfl⟩ W
  have has2 := fun W => as_any true (.slice (some ⟨gG, 0, none⟩) 1 1) (.slice (some ⟨gY, 0, none⟩) 1 1) ⟨_, _, _, rfl⟩ ⟨_, _, _, rfl⟩ W
  have hsm := fun W (h : Below W5.heap.size W5 W) => sameP_yes true (.slice (some ⟨gG, 0, none⟩) 1 1) (.slice (some ⟨bg, 0, none⟩) 1 1) (.slice (some ⟨gY, 0, none⟩) 1 1) (.slice (some ⟨by_, 0, none⟩) 1 1) eG eY W (HG5.out.below h) (HP5.out.vg.below h) (HY5.out.below h) (HP5.out.vy.below h) e_few
  have hsg := fun W (h : Below W5.heap.size W5 W) => k_same W _ (HX5.out.below h)
  have hri := fun W (h : Below W5.heap.size W5 W) => k_right W _ _ (HP5.out.below h)
  go_region_held3 (fun w' => w'.cell? ⟨bp, 0, none⟩ = some (.bool true) ∧ w'.cell? ⟨bp, 1, none⟩ = some (.slice (some ⟨bg, 0, none⟩) 1 1) ∧ w'.cell? ⟨bp, 2, none⟩ = some (.slice (some ⟨by_, 0, none⟩) 1 1) ∧ w'.cell? ⟨bq, 0, none⟩ = some (.bool true) ∧ w'.cell? ⟨bq, 1, none⟩ = some (.slice (some ⟨gG, 0, none⟩) 1 1) ∧ w'.cell? ⟨bq, 2, none⟩ = some (.slice (some ⟨gY, 0, none⟩) 1 1) ∧ w'.cell? ⟨bx, 0, none⟩ = some (.bool false) ∧ w'.cell? ⟨bx, 1, none⟩ = some (.slice (some ⟨gG2, 0, none⟩) 1 1)) (exact hK _ (by first | exact hy1 | exact hy1.alloc hy1.size _ | exact (hy1.alloc hy1.size _).alloc (hy1.alloc hy1.size _).size _ | exact (Below.refl _ _).drew | exact Below.refl _ _)) (first | (go_at_call_of 9 (Value.agg #[.bool true, .slice (some ⟨bg, 0, none⟩) 1 1, .slice (some ⟨by_, 0, none⟩) 1 1]); refine (has1 _).mono ?_; rintro x y1 ⟨rfl, e1⟩; have hy1 : Below W5.heap.size W5 y1 := bthen' (by first | exact hy1 | exact (Below.refl _ _).drew | exact Below.refl _ _) e1) | (go_at_call_of 9 (Value.agg #[.bool true, .slice (some ⟨gG, 0, none⟩) 1 1, .slice (some ⟨gY, 0, none⟩) 1 1]); refine (has2 _).mono ?_; rintro x y1 ⟨rfl, e1⟩; have hy1 : Below W5.heap.size W5 y1 := bthen' (by first | exact hy1 | exact (Below.refl _ _).drew | exact Below.refl _ _) e1) | (go_at_call 15; refine (hsm _ hy1).mono ?_; rintro x y1 ⟨rfl, e1⟩; have hy1 : Below W5.heap.size W5 y1 := bthen' hy1 e1) | (go_at_call 16; refine (hsg _ hy1).mono ?_; rintro x y1 ⟨rfl, e1⟩; have hy1 : Below W5.heap.size W5 y1 := bthen' hy1 e1) | (go_at_call 17; refine (hri _ hy1).mono ?_; rintro x y1 ⟨rfl, e1⟩; have hy1 : Below W5.heap.size W5 y1 := bthen' hy1 e1))
  go_wp2
  go_ret
  exact ⟨rfl, bthen' HBW.out hy1⟩
end Go.Proofs.YtidppkbphkcmeaaGreat
