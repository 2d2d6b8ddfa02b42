/- Slices of slices in memory; the document's Full. -/
import Derived.Test.YtdfihdkkidekjaaDoorHe
import Derived.Deep.AppendLies
namespace Go.Proofs.YtdfihdkkidekjaaDoor
open Go.RowKit
set_option linter.unusedVariables false
set_option linter.unusedSimpArgs false

/-- The slice v holds the numbers xs (with room for them, if 'ok'), in no block G. -/
def Rx (ok : Bool) (G : Option Nat) (w : World) (v : Value) (xs : List Int) : Prop :=
  ∃ a c, v = .slice a xs.length c ∧ (ok = true → xs.length ≤ c) ∧ (xs = [] ∨ ∃ b off, a = some ⟨b, off, none⟩ ∧ some b ≠ G ∧ b < w.heap.size ∧ ∀ i, i < xs.length → w.cell? ⟨b, off + i, none⟩ = some (.int .i64 (xs.getD i 0)))
theorem Rx.rw {ok : Bool} {G : Option Nat} {w : World} {v : Value} {xs : List Int} (h : Rx ok G w v xs) : Rw .i64 w v xs := by
  obtain ⟨a, c, hv, _, h⟩ := h
  refine ⟨a, c, hv, ?_⟩
  rcases h with h | ⟨b, off, ha, _, hlt, hc⟩
  · exact .inl h
  · exact .inr ⟨b, off, ha, hlt, hc⟩
theorem Rx.of {w : World} {a : Option Addr} {c : Nat} {xs : List Int} (h : Rw .i64 w (.slice a xs.length c) xs) (hc : xs.length ≤ c) : Rx true none w (.slice a xs.length c) xs := by
  obtain ⟨a', c', he, h⟩ := h
  simp only [Value.slice.injEq, true_and] at he
  obtain ⟨rfl, rfl⟩ := he
  refine ⟨a, c, rfl, fun _ => hc, ?_⟩
  rcases h with h | ⟨b, off, ha, hlt, hc⟩
  · exact .inl h
  · exact .inr ⟨b, off, ha, by simp, hlt, hc⟩
theorem Rx.ofF {B : Nat} {G : Option Nat} {w : World} {v : Value} {xs : List Int} (h : RwF B .i64 w v xs) (hG : ∀ b, G = some b → b < B) : Rx false G w v xs := by
  obtain ⟨a, c, hv, h⟩ := h
  refine ⟨a, c, hv, (fun h => by cases h), ?_⟩
  rcases h with h | ⟨b, off, ha, hlo, hlt, hc⟩
  · exact .inl h
  · exact .inr ⟨b, off, ha, fun e => by have := hG b e.symm; omega, hlt, hc⟩
theorem Rx.of_blk {t : TypeId} {G : Option Nat} {w : World} {g n c : Nat} {xs : List Int} (h : Blk .i64 t w g xs) (hn : xs.length = n) (hc : n ≤ c) (hG : some g ≠ G) : Rx true G w (.slice (some ⟨g, 0, none⟩) n c) xs := by
  subst hn
  exact ⟨_, c, rfl, fun _ => hc, .inr ⟨g, 0, rfl, hG, h.lt, fun i hi => by rw [Nat.zero_add]; exact h.cell i hi⟩⟩
theorem Rx.below {ok : Bool} {G : Option Nat} {w w' : World} {v : Value} {xs : List Int} (h : Rx ok G w v xs) (hb : Below w.heap.size w w') : Rx ok G w' v xs := by
  obtain ⟨a, c, hv, hr, h⟩ := h
  refine ⟨a, c, hv, hr, ?_⟩
  rcases h with h | ⟨b, off, ha, hG, hlt, hc⟩
  · exact .inl h
  · exact .inr ⟨b, off, ha, hG, Nat.lt_of_lt_of_le hlt hb.size, fun i hi => ((bcell hb).1 _ _ hlt).trans (hc i hi)⟩
theorem Rx.grown {ok : Bool} {G : Option Nat} {w w' : World} {v : Value} {xs : List Int} (h : Rx ok G w v xs) (hg : w.grownBy w' G) : Rx ok G w' v xs := by
  obtain ⟨a, c, hv, hr, h⟩ := h
  refine ⟨a, c, hv, hr, ?_⟩
  rcases h with h | ⟨b, off, ha, hG, hlt, hc⟩
  · exact .inl h
  · exact .inr ⟨b, off, ha, hG, Nat.lt_of_lt_of_le hlt hg.size, fun i hi => (World.cell?_of_block (w := w) (hg.block b hlt hG)).trans (hc i hi)⟩
theorem Rx.set {ok : Bool} {g : Nat} {w : World} {v : Value} {xs : List Int} (h : Rx ok (some g) w v xs) (o : Nat) (y : Value) : Rx ok (some g) (w.setCell ⟨g, o, none⟩ y) v xs := by
  obtain ⟨a, c, hv, hr, h⟩ := h
  refine ⟨a, c, hv, hr, ?_⟩
  rcases h with h | ⟨b, off, ha, hG, hlt, hc⟩
  · exact .inl h
  · exact .inr ⟨b, off, ha, hG, by simpa [World.setCell] using hlt, fun i hi => (World.cell?_of_block (w := w) (Below.heap_setCell w ⟨g, o, none⟩ y b (by intro e; exact hG (by rw [e])))).trans (hc i hi)⟩
theorem Rx.swap {ok : Bool} {G G' : Option Nat} {w : World} {v : Value} {xs : List Int} (h : Rx ok G w v xs) (hG' : ∀ b, G' = some b → G = some b ∨ w.heap.size ≤ b) : Rx ok G' w v xs := by
  obtain ⟨a, c, hv, hr, h⟩ := h
  refine ⟨a, c, hv, hr, ?_⟩
  rcases h with h | ⟨b, off, ha, hG, hlt, hc⟩
  · exact .inl h
  · refine .inr ⟨b, off, ha, fun e => ?_, hlt, hc⟩
    rcases hG' b e.symm with e2 | e2
    · exact hG e2.symm
    · omega
theorem Rx.any {ok : Bool} {G : Option Nat} {w : World} {v : Value} {xs : List Int} (h : Rx ok G w v xs) : Rx ok none w v xs := h.swap fun b e => by cases e

/-- The slice v of slices holds the rows L. -/
def Fr (ok : Bool) (w : World) (v : Value) (L : List (List Int)) : Prop :=
  ∃ a c, v = .slice a L.length c ∧ (L = [] ∨ ∃ b off, a = some ⟨b, off, none⟩ ∧ b < w.heap.size ∧ ∀ i, i < L.length → ∃ r, w.cell? ⟨b, off + i, none⟩ = some r ∧ Rx ok none w r (L.getD i []))
theorem Fr.below {ok : Bool} {w w' : World} {v : Value} {L : List (List Int)} (h : Fr ok w v L) (hb : Below w.heap.size w w') : Fr ok w' v L := by
  obtain ⟨a, c, hv, h⟩ := h
  refine ⟨a, c, hv, ?_⟩
  rcases h with h | ⟨b, off, ha, hlt, hc⟩
  · exact .inl h
  · refine .inr ⟨b, off, ha, Nat.lt_of_lt_of_le hlt hb.size, fun i hi => ?_⟩
    obtain ⟨r, h1, h2⟩ := hc i hi
    exact ⟨r, ((bcell hb).1 _ _ hlt).trans h1, h2.below hb⟩
/-- A row of it, in memory. -/
theorem Fr.at {ok : Bool} {w : World} {a : Option Addr} {n c : Nat} {L : List (List Int)} (h : Fr ok w (.slice a n c) L) (i : Nat) (hi : i < n) :
    ∃ b off, a = some ⟨b, off, none⟩ ∧ b < w.heap.size ∧ ∃ ra rc, w.cell? ⟨b, off + i, none⟩ = some (.slice ra (L.getD i []).length rc) ∧ (ok = true → (L.getD i []).length ≤ rc) ∧ Rw .i64 w (.slice ra (L.getD i []).length rc) (L.getD i []) := by
  obtain ⟨a', c', he, h⟩ := h
  simp only [Value.slice.injEq] at he
  obtain ⟨rfl, rfl, rfl⟩ := he
  obtain ⟨b, off, rfl, hlt, hc⟩ := h.resolve_left (by intro h; subst h; simp at hi)
  obtain ⟨r, h1, h2⟩ := hc i hi
  have h3 := h2.rw
  obtain ⟨ra, rc, rfl, hr, _⟩ := h2
  exact ⟨b, off, rfl, hlt, ra, rc, h1, hr, h3⟩

/-- Rows that the call puts one behind the other, by append. -/
def Fo (base : Nat) (w : World) (v : Value) (n : Nat) (vs : List Value) (L : Nat → List Int) : Prop := w.ownsRow base 22 1 v n vs ∧ ∀ j, j < n → Rx false v.ownBlock w (vs.getD j undef) (L j)
theorem Fo.nil (base : Nat) (w : World) (L : Nat → List Int) : Fo base w (.slice none 0 0) 0 [] L := ⟨World.ownsRow_nil _ _ _ _, fun j hj => by omega⟩
theorem Fo.below {base : Nat} {w w' : World} {v : Value} {n : Nat} {vs : List Value} {L : Nat → List Int} (h : Fo base w v n vs L) (hb : Below w.heap.size w w') : Fo base w' v n vs L := ⟨owns_below h.1 hb, fun j hj => (h.2 j hj).below hb⟩
theorem Fo.push {base : Nat} {w w1 w2 : World} {v v1 : Value} {n g c : Nat} {vs : List Value} {L : Nat → List Int} {o : Obj} (h : Fo base w v n vs L) (hb : Below w.heap.size w w1) (hr : RwF w.heap.size .i64 w1 v1 (L n))
    (hown : w2.ownsRow base 22 1 (.slice (some ⟨g, 0, none⟩) (n + 1) c) (n + 1) (vs ++ [v1])) (hgrow : (w1.alloc o).grownBy w2 v.ownBlock) (hat : v.ownBlock = some g ∨ g = w1.heap.size + 1) :
    Fo base w2 (.slice (some ⟨g, 0, none⟩) (n + 1) c) (n + 1) (vs ++ [v1]) L := by
  refine ⟨hown, fun j hj => ?_⟩
  have hl : vs.length = n := by have := h.1.1; simpa using this
  have hsw : ∀ {ok : Bool} {v' : Value} {xs : List Int}, Rx ok v.ownBlock w1 v' xs → Rx ok (Value.ownBlock (.slice (some ⟨g, 0, none⟩) (n + 1) c)) w2 v' xs := fun {ok v' xs} hx => by
    have h1 := (hx.below (below1 w1 o)).grown hgrow
    have h2 := hx.below (below1 w1 o)
    obtain ⟨a, cc, hv, hroom, h3⟩ := h1
    obtain ⟨a', cc', hv', _, h4⟩ := hx
    rw [hv] at hv'
    simp only [Value.slice.injEq, true_and] at hv'
    obtain ⟨rfl, rfl⟩ := hv'
    refine ⟨a, cc, hv, hroom, ?_⟩
    rcases h3 with h3 | ⟨b, off, ha, hG, hlt, hc⟩
    · exact .inl h3
    · rcases h4 with h4 | ⟨b', off', ha', _, hlt', _⟩
      · exact .inl h4
      · rw [ha] at ha'
        simp only [Option.some.injEq, Addr.mk.injEq] at ha'
        obtain ⟨rfl, rfl, _⟩ := ha'
        refine .inr ⟨b, off, ha, fun e => ?_, hlt, hc⟩
        have e2 : b = g := by simpa [Value.ownBlock] using e
        subst e2
        rcases hat with e3 | e3
        · exact hG e3.symm
        · omega
  by_cases e : j < n
  · rw [show (vs ++ [v1]).getD j undef = vs.getD j undef by simp [List.getD_eq_getElem?_getD, List.getElem?_append_left (show j < vs.length by omega)]]
    exact hsw ((h.2 j e).below hb)
  · have e2 : j = n := by omega
    subst e2
    rw [show (vs ++ [v1]).getD j undef = v1 by simp [List.getD_eq_getElem?_getD, hl]]
    exact hsw (Rx.ofF hr fun b hb => (h.1.lt b hb).2)
theorem Fo.fr {base : Nat} {w : World} {v : Value} {n : Nat} {vs : List Value} {L : Nat → List Int} (h : Fo base w v n vs L) : Fr false w v ((List.range n).map L) := by
  obtain ⟨⟨hl, h2⟩, h3⟩ := h
  have hl : vs.length = n := by simpa using hl
  rcases h2 with ⟨rfl, rfl⟩ | ⟨g, cap, cur, rfl, hg, hh, hcap, hm, hs, ht⟩
  · exact ⟨none, 0, rfl, .inl rfl⟩
  · refine ⟨some ⟨g, 0, none⟩, cap, by simp, .inr ⟨g, 0, rfl, block_in hh, fun i hi => ?_⟩⟩
    have hi : i < n := by simpa using hi
    have e1 : (cur.toList.take (n * 1))[i]? = some (vs.getD i undef) := by
      rw [ht, List.getD_eq_getElem?_getD, List.getElem?_eq_getElem (by omega)]; simp
    rw [List.getElem?_take_of_lt (by omega)] at e1
    refine ⟨vs.getD i undef, ?_, ?_⟩
    · simp [World.cell?, hh] at e1 ⊢
      exact e1
    · have := (h3 i hi).any
      simpa [List.getD_eq_getElem?_getD, hi] using this

/-- A part of a row is a row. -/
theorem rw_part {w : World} {b off n c : Nat} {y : List Int} (h : Rw .i64 w (.slice (some ⟨b, off, none⟩) n c) y) (s j P c' : Nat) (hP : P = j * s) (hle : (j + 1) * s ≤ y.length) (hs : 0 < s) : Rw .i64 w (.slice (some ⟨b, off + P, none⟩) s c') (blk s y j) := by
  obtain ⟨a, cap, he, ha⟩ := h
  simp only [Value.slice.injEq] at he
  obtain ⟨rfl, rfl, rfl⟩ := he
  have e := mul_s j s
  have hl := blk_len s y j hle
  obtain ⟨b', off', hab, hlt, hc⟩ := ha.resolve_left (by intro h; subst h; simp at hle; omega)
  simp only [Option.some.injEq, Addr.mk.injEq, and_true] at hab
  obtain ⟨rfl, rfl⟩ := hab
  refine ⟨_, c', by rw [hl], .inr ⟨b, off + P, rfl, hlt, fun i hi => ?_⟩⟩
  rw [hl] at hi
  rw [blk_at _ _ _ _ hi, ← hP, Nat.add_assoc]
  exact hc _ (by omega)

/-- A signal, filled up to m numbers. -/
def fulN (x : List Int) (m : Nat) : List Int := x ++ List.replicate (m - x.length) 0
theorem fulN_self (x : List Int) : fulN x x.length = x := by simp [fulN]
theorem fulN_next (x : List Int) (m : Nat) (h : x.length ≤ m) : fulN x (m + 1) = fulN x m ++ [0] := by
  unfold fulN
  rw [show m + 1 - x.length = (m - x.length) + 1 by omega, List.replicate_succ', List.append_assoc]
theorem fulN_len (x : List Int) (m : Nat) (h : x.length ≤ m) : (fulN x m).length = m := by simp [fulN]; omega
theorem full_fulN (s : Nat) (x : List Int) : fulN x (cnt s x.length * s) = full s x := rfl
set_option maxHeartbeats 2000000 in
theorem rfull_any (a : Option Addr) (cap s K : Nat) (x : List Int) (w : World) (hv : Rw .i64 w (.slice a x.length cap) x) (hn0 : a = none → cap = 0) (hS : Sz s K) (hn : x.length ≤ 200) :
    Calls Tryd.prog 27 #[.slice a x.length cap, .int .i64 s] w fun e w' => ∃ a' c, e = .returned (.slice a' (cnt s x.length * s) c) ∧ cnt s x.length * s ≤ c ∧ Rw .i64 w' (.slice a' (cnt s x.length * s) c) (full s x) ∧ Below w.heap.size w w' := by
  obtain ⟨i0, hi, hz0, hz1, hz2⟩ := info_parts info_i64
  obtain ⟨h1, h2, _, h4, _⟩ := cnt_parts hS x.length
  have HF := hid (full_fulN s x)
  have HS := hid hS.le
  have HN := hid (fulN_next x)
  have H0 := hid (fulN_self x)
  have HV := hid hv
  have s0 : 8 ≤ s := hS.le.1
  have s1 : s ≤ 32 := hS.le.2.1
  obtain ⟨n, hxn⟩ : ∃ n, x.length = n := ⟨_, rfl⟩
  have HX := hid hxn
  rw [hxn] at h1 h2 h4 hn HF HV H0 HN ⊢
  obtain ⟨N, hN⟩ : ∃ N, cnt s n * s = N := ⟨_, rfl⟩
  rw [hN] at h1 h2 h4 HF ⊢
  have hN0 : N % s = 0 := by rw [← hN]; exact Nat.mul_mod_left _ _
  have HM : Hid (∀ m, n ≤ m → m < N → ((m : Int) % (s : Int) != 0) = true) := fun m q1 q2 => by
    have q3 : m % s ≠ 0 := fun e => by have := h4 m q1 e (by omega); omega
    rw [show (m : Int) % (s : Int) = ((m % s : Nat) : Int) from rfl]
    simp
    omega
  have HM0 : Hid (((N : Int) % (s : Int) != 0) = false) := by
    unfold Hid
    rw [show (N : Int) % (s : Int) = ((N % s : Nat) : Int) from rfl, hN0]
    rfl
  have t1 : ((s : Int) == 0) = false := by simp; omega
  clear hv hxn hN hN0 h4
  go_enter Tryd.func27, Tryd.ntmps27
  go_wp2_with (at_builtin; refine wpList_append_rw rfl _ _ _ rfl w.heap.size 2 i0 (.int .i64 0) 8 Tryd.underlying22 hi hz0 hz1 hz2 rfl .i64 _ 0 [] rfl (own_empty (Nat.le_refl _)) a cap x (by rw [HX.out]; rfl) (by rw [HX.out]; exact HV.out.below (below1 _ _)) hn0 (by rw [HX.out]; unfold maxLen; omega) (by rw [HX.out]; omega) (by simp) ?_)
  intro v8 w5 hown8 hgrow8
  have hb8 : Below w.heap.size w w5 := ((Below.refl _ _).alloc (Nat.le_refl _) _).grown hgrow8 (by simp) (fun k hk => by simp [Value.ownBlock] at hk; omega)
  have HO : Hid (w5.ownsRow w.heap.size 2 1 v8 n ((fulN x n).map (Value.int .i64))) := by
    unfold Hid
    rw [H0.out]
    have h := hown8
    rw [HX.out] at h
    exact h
  have HB8 := hid hb8
  clear hown8 hgrow8 hb8
  go_wp2
  go_loopw [5] (fun o wr => ∃ m : Nat, n ≤ m ∧ m ≤ N ∧ wr.ownsRow w.heap.size 2 1 o m ((fulN x m).map (Value.int .i64)) ∧ Below w.heap.size w wr) (fun o _ => N - slen o)
  case atStart => exact ⟨n, by omega, h1, HO.out, HB8.out⟩
  case round =>
    obtain ⟨m, q1, q2, hown, hbr⟩ := hrel
    have HOWN := hid hown
    have HBR := hid hbr
    obtain ⟨oa, oc, rfl, hmc, _, _⟩ := owns_open hown
    clear hown hbr
    by_cases hl : m < N
    · have hm1 := HM.out m q1 hl
      have HN1 := hid (HN.out m (by omega))
      have hownA := HOWN.out.alloc (.cells #[.int .i64 0] 2)
      have zz := HBR.out.size
      have t3 : m + 1 ≤ maxLen := by unfold maxLen; omega
      have t4 : (m + 1) * 8 ≤ 140737488355328 := by omega
      go_wp2_with (at_builtin; refine wpList_append_own _ rfl _ _ 22 rfl w.heap.size 2 i0 (.int .i64 0) 1 8 Tryd.underlying22 hi hz0 hz1 hz2 rfl (by decide) _ _ _ rfl hownA ⟨wr.heap.size, 0, none⟩ 1 1 [.int .i64 0] rfl rfl (cell_one_at rfl _ _) (one_cell _ _) t3 t4 (by simp; omega) ?_)
      intro v3 w3 hown3 hgrow3 _
      have HB3 : Hid (Below w.heap.size w w3) := (HBR.out.alloc HBR.out.size _).grown hgrow3 (by simp; omega) (fun q hq => (HOWN.out.lt q hq).1)
      have HO3 : Hid (w3.ownsRow w.heap.size 2 1 v3 (m + 1) ((fulN x (m + 1)).map (Value.int .i64))) := by
        unfold Hid
        rw [HN1.out, List.map_append]
        exact hown3
      obtain ⟨oa3, oc3, rfl, _, _, _⟩ := owns_open hown3
      clear hown3 hgrow3 hownA
      go_wp2
      exact ⟨⟨m + 1, by omega, by omega, HO3.out, HB3.out⟩, by simp [slen]; omega⟩
    · have hme : m = N := by omega
      have hm0 := HM0.out
      have R : Hid (Rw .i64 wr (.slice oa N oc) (full s x)) := by
        have h9 := HOWN.out
        rw [hme] at h9
        unfold Hid
        rw [← HF.out]
        exact Rw.of_owns h9
      rw [hme] at hmc ⊢
      clear hme HOWN
      go_wp2
      go_ret
      exact ⟨oa, oc, rfl, hmc, R.out, HBR.out⟩
end Go.Proofs.YtdfihdkkidekjaaDoor
