/- Blocks that begin with a list; slices of slices in memory (that came in, put one behind the other, laid into a block). Nothing of the program is imported. -/
import Derived.Test.YtdgacbelpenmmaaTabs
import Derived.Deep.AppendLies
import Derived.Deep.Matrix
namespace Go.Proofs.Ytdgacbelpenmmaa
open Go.RowKit
set_option linter.unusedVariables false
set_option linter.unusedSimpArgs false

/-- The block g begins with the numbers xs. -/
def Hl (k : IntKind) (t : TypeId) (w : World) (g : Nat) (xs : List Int) : Prop := ∃ cur : Array Value, w.heap[g]? = some (.cells cur t (0, 0)) ∧ cur.toList.take xs.length = xs.map (Value.int k)
theorem Hl.lt {k : IntKind} {t : TypeId} {w : World} {g : Nat} {xs : List Int} (h : Hl k t w g xs) : g < w.heap.size := by
  obtain ⟨cur, h, _⟩ := h
  exact block_in h
theorem Hl.cell {k : IntKind} {t : TypeId} {w : World} {g : Nat} {xs : List Int} (h : Hl k t w g xs) (i : Nat) (hi : i < xs.length) : w.cell? ⟨g, i, none⟩ = some (.int k (xs.getD i 0)) := by
  obtain ⟨cur, h, ht⟩ := h
  have e1 : (cur.toList.take xs.length)[i]? = some (.int k (xs.getD i 0)) := by
    rw [ht]; simp [hi]
  rw [List.getElem?_take_of_lt (by omega)] at e1
  simp [World.cell?, h] at e1 ⊢
  exact e1
theorem Hl.free {k : IntKind} {t : TypeId} {w : World} {g : Nat} {xs : List Int} (h : Hl k t w g xs) (i : Nat) : w.frozen? ⟨g, i, none⟩ = false := by
  obtain ⟨cur, h, _⟩ := h
  simp [World.frozen?, h]
theorem Hl.set {k : IntKind} {t : TypeId} {w : World} {g : Nat} {xs : List Int} (h : Hl k t w g xs) (i : Nat) (y : Int) : Hl k t (w.setCell ⟨g, i, none⟩ (.int k y)) g (xs.set i y) := by
  obtain ⟨cur, h, ht⟩ := h
  refine ⟨cur.setIfInBounds i (.int k y), ?_, ?_⟩
  · simp [World.setCell, Array.getElem?_modify, h]
  · rw [List.length_set, Array.toList_setIfInBounds, List.take_set, ht, List.map_set]
theorem Hl.below {k : IntKind} {t : TypeId} {w w' : World} {g : Nat} {xs : List Int} (h : Hl k t w g xs) (hb : Below w.heap.size w w') : Hl k t w' g xs := by
  have hlt := h.lt
  obtain ⟨cur, h, ht⟩ := h
  exact ⟨cur, (hb.block _ hlt).trans h, ht⟩
theorem Hl.drew {k : IntKind} {t : TypeId} {w : World} {g : Nat} {xs : List Int} (h : Hl k t w g xs) : Hl k t w.drew g xs := h
theorem Hl.of_blk {k : IntKind} {t : TypeId} {w : World} {g : Nat} {xs : List Int} (h : Blk k t w g xs) : Hl k t w g xs := ⟨_, h, by simp only [List.length_map]; rw [List.take_of_length_le (by simp)]⟩
theorem Hl.rw {k : IntKind} {t : TypeId} {w : World} {g n c : Nat} {xs : List Int} (h : Hl k t w g xs) (hn : xs.length = n) : Rw k w (.slice (some ⟨g, 0, none⟩) n c) xs := by
  subst hn
  exact ⟨_, c, rfl, .inr ⟨g, 0, rfl, h.lt, fun i hi => by rw [Nat.zero_add]; exact h.cell i hi⟩⟩
theorem Hl.of_owns {k : IntKind} {t : TypeId} {w : World} {base n : Nat} {v : Value} {xs : List Int} (h : w.ownsRow base t 1 v n (xs.map (Value.int k))) (hn : 0 < n) : ∃ g c, v = .slice (some ⟨g, 0, none⟩) n c ∧ base ≤ g ∧ n ≤ c ∧ Hl k t w g xs := by
  obtain ⟨h1, h2⟩ := h
  rcases h2 with ⟨rfl, h0⟩ | ⟨g, cap, cur, rfl, hg, hh, hcap, hm, hs, ht⟩
  · omega
  · have hl : xs.length = n := by simpa using h1
    exact ⟨g, cap, rfl, hg, hcap, cur, hh, by rw [hl]; simpa using ht⟩
theorem below_grown {a b c : World} {g : Nat} (h : Below a.heap.size a b) (k : b.grownBy c (some g)) (hg : a.heap.size ≤ g) : Below a.heap.size a c :=
  h.grown k h.size (fun i hi => by simp at hi; omega)
/-- The slice v holds the numbers xs (with room for them, if 'ok'), in no block G. -/
def Rx (ok : Bool) (G : Option Nat) (w : World) (v : Value) (xs : List Int) : Prop :=
  ∃ a c, v = .slice a xs.length c ∧ (ok = true → xs.length ≤ c) ∧ (xs = [] ∨ ∃ b off, a = some ⟨b, off, none⟩ ∧ some b ≠ G ∧ b < w.heap.size ∧ ∀ i, i < xs.length → w.cell? ⟨b, off + i, none⟩ = some (.int .i64 (xs.getD i 0)))
theorem Rx.rw {ok : Bool} {G : Option Nat} {w : World} {v : Value} {xs : List Int} (h : Rx ok G w v xs) : Rw .i64 w v xs := by
  obtain ⟨a, c, hv, _, h⟩ := h
  refine ⟨a, c, hv, ?_⟩
  rcases h with h | ⟨b, off, ha, _, hlt, hc⟩
  · exact .inl h
  · exact .inr ⟨b, off, ha, hlt, hc⟩
theorem Rx.of {w : World} {a : Option Addr} {c : Nat} {xs : List Int} (h : Rw .i64 w (.slice a xs.length c) xs) (hc : xs.length ≤ c) : Rx true none w (.slice a xs.length c) xs := by
  obtain ⟨a', c', he, h⟩ := h
  simp only [Value.slice.injEq, true_and] at he
  obtain ⟨rfl, rfl⟩ := he
  refine ⟨a, c, rfl, fun _ => hc, ?_⟩
  rcases h with h | ⟨b, off, ha, hlt, hc⟩
  · exact .inl h
  · exact .inr ⟨b, off, ha, by simp, hlt, hc⟩
theorem Rx.ofF {B : Nat} {G : Option Nat} {w : World} {v : Value} {xs : List Int} (h : RwF B .i64 w v xs) (hG : ∀ b, G = some b → b < B) : Rx false G w v xs := by
  obtain ⟨a, c, hv, h⟩ := h
  refine ⟨a, c, hv, (fun h => by cases h), ?_⟩
  rcases h with h | ⟨b, off, ha, hlo, hlt, hc⟩
  · exact .inl h
  · exact .inr ⟨b, off, ha, fun e => by have := hG b e.symm; omega, hlt, hc⟩
theorem Rx.of_blk {t : TypeId} {G : Option Nat} {w : World} {g n c : Nat} {xs : List Int} (h : Blk .i64 t w g xs) (hn : xs.length = n) (hc : n ≤ c) (hG : some g ≠ G) : Rx true G w (.slice (some ⟨g, 0, none⟩) n c) xs := by
  subst hn
  exact ⟨_, c, rfl, fun _ => hc, .inr ⟨g, 0, rfl, hG, h.lt, fun i hi => by rw [Nat.zero_add]; exact h.cell i hi⟩⟩
theorem Rx.below {ok : Bool} {G : Option Nat} {w w' : World} {v : Value} {xs : List Int} (h : Rx ok G w v xs) (hb : Below w.heap.size w w') : Rx ok G w' v xs := by
  obtain ⟨a, c, hv, hr, h⟩ := h
  refine ⟨a, c, hv, hr, ?_⟩
  rcases h with h | ⟨b, off, ha, hG, hlt, hc⟩
  · exact .inl h
  · exact .inr ⟨b, off, ha, hG, Nat.lt_of_lt_of_le hlt hb.size, fun i hi => ((bcell hb).1 _ _ hlt).trans (hc i hi)⟩
theorem Rx.grown {ok : Bool} {G : Option Nat} {w w' : World} {v : Value} {xs : List Int} (h : Rx ok G w v xs) (hg : w.grownBy w' G) : Rx ok G w' v xs := by
  obtain ⟨a, c, hv, hr, h⟩ := h
  refine ⟨a, c, hv, hr, ?_⟩
  rcases h with h | ⟨b, off, ha, hG, hlt, hc⟩
  · exact .inl h
  · exact .inr ⟨b, off, ha, hG, Nat.lt_of_lt_of_le hlt hg.size, fun i hi => (World.cell?_of_block (w := w) (hg.block b hlt hG)).trans (hc i hi)⟩
theorem Rx.set {ok : Bool} {g : Nat} {w : World} {v : Value} {xs : List Int} (h : Rx ok (some g) w v xs) (o : Nat) (y : Value) : Rx ok (some g) (w.setCell ⟨g, o, none⟩ y) v xs := by
  obtain ⟨a, c, hv, hr, h⟩ := h
  refine ⟨a, c, hv, hr, ?_⟩
  rcases h with h | ⟨b, off, ha, hG, hlt, hc⟩
  · exact .inl h
  · exact .inr ⟨b, off, ha, hG, by simpa [World.setCell] using hlt, fun i hi => (World.cell?_of_block (w := w) (Below.heap_setCell w ⟨g, o, none⟩ y b (by intro e; exact hG (by rw [e])))).trans (hc i hi)⟩
theorem Rx.swap {ok : Bool} {G G' : Option Nat} {w : World} {v : Value} {xs : List Int} (h : Rx ok G w v xs) (hG' : ∀ b, G' = some b → G = some b ∨ w.heap.size ≤ b) : Rx ok G' w v xs := by
  obtain ⟨a, c, hv, hr, h⟩ := h
  refine ⟨a, c, hv, hr, ?_⟩
  rcases h with h | ⟨b, off, ha, hG, hlt, hc⟩
  · exact .inl h
  · refine .inr ⟨b, off, ha, fun e => ?_, hlt, hc⟩
    rcases hG' b e.symm with e2 | e2
    · exact hG e2.symm
    · omega
theorem Rx.any {ok : Bool} {G : Option Nat} {w : World} {v : Value} {xs : List Int} (h : Rx ok G w v xs) : Rx ok none w v xs := h.swap fun b e => by cases e
/-- The slice v of slices holds the rows L. -/
def Fr (ok : Bool) (w : World) (v : Value) (L : List (List Int)) : Prop :=
  ∃ a c, v = .slice a L.length c ∧ (L = [] ∨ ∃ b off, a = some ⟨b, off, none⟩ ∧ b < w.heap.size ∧ ∀ i, i < L.length → ∃ r, w.cell? ⟨b, off + i, none⟩ = some r ∧ Rx ok none w r (L.getD i []))
theorem Fr.below {ok : Bool} {w w' : World} {v : Value} {L : List (List Int)} (h : Fr ok w v L) (hb : Below w.heap.size w w') : Fr ok w' v L := by
  obtain ⟨a, c, hv, h⟩ := h
  refine ⟨a, c, hv, ?_⟩
  rcases h with h | ⟨b, off, ha, hlt, hc⟩
  · exact .inl h
  · refine .inr ⟨b, off, ha, Nat.lt_of_lt_of_le hlt hb.size, fun i hi => ?_⟩
    obtain ⟨r, h1, h2⟩ := hc i hi
    exact ⟨r, ((bcell hb).1 _ _ hlt).trans h1, h2.below hb⟩
/-- A row of it, in memory. -/
theorem Fr.at {ok : Bool} {w : World} {a : Option Addr} {n c : Nat} {L : List (List Int)} (h : Fr ok w (.slice a n c) L) (i : Nat) (hi : i < n) :
    ∃ b off, a = some ⟨b, off, none⟩ ∧ b < w.heap.size ∧ ∃ ra rc, w.cell? ⟨b, off + i, none⟩ = some (.slice ra (L.getD i []).length rc) ∧ (ok = true → (L.getD i []).length ≤ rc) ∧ Rw .i64 w (.slice ra (L.getD i []).length rc) (L.getD i []) := by
  obtain ⟨a', c', he, h⟩ := h
  simp only [Value.slice.injEq] at he
  obtain ⟨rfl, rfl, rfl⟩ := he
  obtain ⟨b, off, rfl, hlt, hc⟩ := h.resolve_left (by intro h; subst h; simp at hi)
  obtain ⟨r, h1, h2⟩ := hc i hi
  have h3 := h2.rw
  obtain ⟨ra, rc, rfl, hr, _⟩ := h2
  exact ⟨b, off, rfl, hlt, ra, rc, h1, hr, h3⟩
/-- Rows that the call puts one behind the other, by append. -/
def Fo (ts : TypeId) (base : Nat) (w : World) (v : Value) (n : Nat) (vs : List Value) (L : Nat → List Int) : Prop := w.ownsRow base ts 1 v n vs ∧ ∀ j, j < n → Rx false v.ownBlock w (vs.getD j undef) (L j)
theorem Fo.nil {ts : TypeId} (base : Nat) (w : World) (L : Nat → List Int) : Fo ts base w (.slice none 0 0) 0 [] L := ⟨World.ownsRow_nil _ _ _ _, fun j hj => by omega⟩
theorem Fo.below {ts : TypeId} {base : Nat} {w w' : World} {v : Value} {n : Nat} {vs : List Value} {L : Nat → List Int} (h : Fo ts base w v n vs L) (hb : Below w.heap.size w w') : Fo ts base w' v n vs L := ⟨owns_below h.1 hb, fun j hj => (h.2 j hj).below hb⟩
theorem Fo.push {ts : TypeId} {base : Nat} {w w1 w2 : World} {v v1 : Value} {n g c : Nat} {vs : List Value} {L : Nat → List Int} {o : Obj} (h : Fo ts base w v n vs L) (hb : Below w.heap.size w w1) (hr : RwF w.heap.size .i64 w1 v1 (L n))
    (hown : w2.ownsRow base ts 1 (.slice (some ⟨g, 0, none⟩) (n + 1) c) (n + 1) (vs ++ [v1])) (hgrow : (w1.alloc o).grownBy w2 v.ownBlock) (hat : v.ownBlock = some g ∨ g = w1.heap.size + 1) :
    Fo ts base w2 (.slice (some ⟨g, 0, none⟩) (n + 1) c) (n + 1) (vs ++ [v1]) L := by
  refine ⟨hown, fun j hj => ?_⟩
  have hl : vs.length = n := by have := h.1.1; simpa using this
  have hsw : ∀ {ok : Bool} {v' : Value} {xs : List Int}, Rx ok v.ownBlock w1 v' xs → Rx ok (Value.ownBlock (.slice (some ⟨g, 0, none⟩) (n + 1) c)) w2 v' xs := fun {ok v' xs} hx => by
    have h1 := (hx.below (below1 w1 o)).grown hgrow
    have h2 := hx.below (below1 w1 o)
    obtain ⟨a, cc, hv, hroom, h3⟩ := h1
    obtain ⟨a', cc', hv', _, h4⟩ := hx
    rw [hv] at hv'
    simp only [Value.slice.injEq, true_and] at hv'
    obtain ⟨rfl, rfl⟩ := hv'
    refine ⟨a, cc, hv, hroom, ?_⟩
    rcases h3 with h3 | ⟨b, off, ha, hG, hlt, hc⟩
    · exact .inl h3
    · rcases h4 with h4 | ⟨b', off', ha', _, hlt', _⟩
      · exact .inl h4
      · rw [ha] at ha'
        simp only [Option.some.injEq, Addr.mk.injEq] at ha'
        obtain ⟨rfl, rfl, _⟩ := ha'
        refine .inr ⟨b, off, ha, fun e => ?_, hlt, hc⟩
        have e2 : b = g := by simpa [Value.ownBlock] using e
        subst e2
        rcases hat with e3 | e3
        · exact hG e3.symm
        · omega
  by_cases e : j < n
  · rw [show (vs ++ [v1]).getD j undef = vs.getD j undef by simp [List.getD_eq_getElem?_getD, List.getElem?_append_left (show j < vs.length by omega)]]
    exact hsw ((h.2 j e).below hb)
  · have e2 : j = n := by omega
    subst e2
    rw [show (vs ++ [v1]).getD j undef = v1 by simp [List.getD_eq_getElem?_getD, hl]]
    exact hsw (Rx.ofF hr fun b hb => (h.1.lt b hb).2)
theorem Fo.fr {ts : TypeId} {base : Nat} {w : World} {v : Value} {n : Nat} {vs : List Value} {L : Nat → List Int} (h : Fo ts base w v n vs L) : Fr false w v ((List.range n).map L) := by
  obtain ⟨⟨hl, h2⟩, h3⟩ := h
  have hl : vs.length = n := by simpa using hl
  rcases h2 with ⟨rfl, rfl⟩ | ⟨g, cap, cur, rfl, hg, hh, hcap, hm, hs, ht⟩
  · exact ⟨none, 0, rfl, .inl rfl⟩
  · refine ⟨some ⟨g, 0, none⟩, cap, by simp, .inr ⟨g, 0, rfl, block_in hh, fun i hi => ?_⟩⟩
    have hi : i < n := by simpa using hi
    have e1 : (cur.toList.take (n * 1))[i]? = some (vs.getD i undef) := by
      rw [ht, List.getD_eq_getElem?_getD, List.getElem?_eq_getElem (by omega)]; simp
    rw [List.getElem?_take_of_lt (by omega)] at e1
    refine ⟨vs.getD i undef, ?_, ?_⟩
    · simp [World.cell?, hh] at e1 ⊢
      exact e1
    · have := (h3 i hi).any
      simpa [List.getD_eq_getElem?_getD, hi] using this
theorem one_slice (a : Option Addr) (n c : Nat) : ∀ u ∈ [Value.slice a n c], u.oneCell' = true := by intro u hu; simp at hu; subst hu; rfl
/-- Rows that the call lays into a block that it made, one behind the other. -/
structure Fg (ts : TypeId) (w : World) (G c : Nat) (L : Nat → List Int) (i : Nat) : Prop where
  cells : ∃ cur : Array Value, w.heap[G]? = some (.cells cur ts (0, 0)) ∧ cur.size = c
  rows : ∀ j, j < i → ∃ r, w.cell? ⟨G, j, none⟩ = some r ∧ Rx true (some G) w r (L j)
theorem Fg.lt {ts : TypeId} {w : World} {G c i : Nat} {L : Nat → List Int} (h : Fg ts w G c L i) : G < w.heap.size := by
  obtain ⟨cur, h, _⟩ := h.cells
  exact block_in h
theorem Fg.cell {ts : TypeId} {w : World} {G c i : Nat} {L : Nat → List Int} (h : Fg ts w G c L i) (j : Nat) (hj : j < c) : ∃ r, w.cell? ⟨G, j, none⟩ = some r ∧ w.frozen? ⟨G, j, none⟩ = false := by
  obtain ⟨cur, h, hc⟩ := h.cells
  refine ⟨cur[j]'(by omega), ?_, ?_⟩
  · simp [World.cell?, h, hc, hj]
  · simp [World.frozen?, h]
theorem Fg.below {ts : TypeId} {w w' : World} {G c i : Nat} {L : Nat → List Int} (h : Fg ts w G c L i) (hb : Below w.heap.size w w') : Fg ts w' G c L i := by
  have hlt := h.lt
  obtain ⟨⟨cur, h1, h2⟩, h3⟩ := h
  refine ⟨⟨cur, (hb.block _ hlt).trans h1, h2⟩, fun j hj => ?_⟩
  obtain ⟨r, e1, e2⟩ := h3 j hj
  exact ⟨r, ((bcell hb).1 _ _ hlt).trans e1, e2.below hb⟩
theorem Fg.put {ts : TypeId} {w : World} {G c i : Nat} {L : Nat → List Int} {r : Value} (h : Fg ts w G c L i) (hi : i < c) (hr : Rx true (some G) w r (L i)) : Fg ts (w.setCell ⟨G, i, none⟩ r) G c L (i + 1) := by
  obtain ⟨⟨cur, h1, h2⟩, h3⟩ := h
  refine ⟨⟨cur.setIfInBounds i r, ?_, by simp [h2]⟩, fun j hj => ?_⟩
  · simp [World.setCell, Array.getElem?_modify, h1]
  · by_cases e : j = i
    · subst e
      refine ⟨r, ?_, hr.set _ _⟩
      simp [World.cell?, World.setCell, Array.getElem?_modify, h1, h2, hi]
    · obtain ⟨r2, e1, e2⟩ := h3 j (by omega)
      refine ⟨r2, ?_, e2.set _ _⟩
      simp [World.cell?, h1] at e1
      simp [World.cell?, World.setCell, Array.getElem?_modify, h1, Array.getElem?_setIfInBounds, Ne.symm e]
      exact e1
theorem Fg.fr {ts : TypeId} {w : World} {G c cc : Nat} {L : Nat → List Int} (h : Fg ts w G c L c) : Fr true w (.slice (some ⟨G, 0, none⟩) c cc) ((List.range c).map L) := by
  refine ⟨_, cc, by simp, .inr ⟨G, 0, rfl, h.lt, fun j hj => ?_⟩⟩
  have hj : j < c := by simpa using hj
  obtain ⟨r, e1, e2⟩ := h.rows j hj
  refine ⟨r, by rw [Nat.zero_add]; exact e1, ?_⟩
  have := e2.any
  simpa [List.getD_eq_getElem?_getD, hj] using this
theorem Fg.made {ts : TypeId} {w : World} {G c base : Nat} {L : Nat → List Int} (h : w.ownsRow base ts 1 (.slice (some ⟨G, 0, none⟩) c c) c (madeCells #[.slice none 0 0] c).toList) : Fg ts w G c L 0 := by
  obtain ⟨h1, _, _⟩ := owns_full h
  refine ⟨⟨_, h1, ?_⟩, fun j hj => by omega⟩
  rw [made_one]
  simp
/-- A slice of slices of integers, as a reading met it. -/
def IsGrid (w : World) (a : Option Addr) (len cap : Nat) (L : List (List Int)) : Prop := Fr true w (.slice a len cap) L ∧ (∀ i, Fits (L.getD i [])) ∧ len ≤ 9223372036854775807
theorem IsGrid.len {w : World} {a : Option Addr} {len cap : Nat} {L : List (List Int)} (h : IsGrid w a len cap L) : L.length = len := by
  obtain ⟨⟨_, _, he, _⟩, _⟩ := h
  simp only [Value.slice.injEq] at he
  exact he.2.1.symm
theorem fits_nil : Fits [] := fun j => by simp
theorem grid_of_trod {H : Type} {enc : TypeId × Value → H} {P : Program} {w : World} {t e q : TypeId} {fuel : Nat} {a : Option Addr} {len cap : Nat} {x : DataW H × List MemPlace} (ht : P.underlying t = some (.slice e)) (he : P.underlying e = some (.slice q)) (hq : P.underlying q = some (.int .i64))
    (ce : P.cellsOf e = 1) (cq : P.cellsOf q = 1) (h : DataW.trod enc P w 0 (fun _ => true) true fuel t [.slice a len cap] = some x) : ∃ L, IsGrid w a len cap L := by
  rcases Deep.open_int_rows ht he hq ce cq h with ⟨hcs, _⟩ | ⟨ad, l, c, A, LL, C, Z, hcs, _, hl, hm, _, hall⟩
  · simp only [List.cons.injEq, and_true, Value.slice.injEq] at hcs
    obtain ⟨rfl, rfl, rfl⟩ := hcs
    exact ⟨[], ⟨none, 0, rfl, .inl rfl⟩, fun i => by simpa using fits_nil, by omega⟩
  · simp only [List.cons.injEq, and_true, Value.slice.injEq] at hcs
    obtain ⟨rfl, rfl, rfl⟩ := hcs
    have hgd : ∀ i, i < len → ((List.range len).map fun r => (Z r).take (LL r)).getD i [] = (Z i).take (LL i) := fun i hi => by simp [List.getD_eq_getElem?_getD, hi]
    refine ⟨(List.range len).map fun r => (Z r).take (LL r), ⟨some ad, cap, by simp, ?_⟩, fun i => ?_, by unfold maxLen at hm; omega⟩
    · by_cases h0 : len = 0
      · left; subst h0; rfl
      · right
        obtain ⟨b, off, spot⟩ := ad
        have hc := (hall 0 (by omega)).1
        have hspot : spot = none := by simpa [Addr.add] using World.cell?_spot hc
        subst hspot
        refine ⟨b, off, rfl, World.block_lt_of_cell? w _ hc, fun i hi => ?_⟩
        have hi : i < len := by simpa using hi
        obtain ⟨h1, h2, h3, h4, h5, h6, h7⟩ := hall i (by omega)
        rw [Addr.add_lit] at h1
        rw [hgd i hi]
        have hzl : ((Z i).take (LL i)).length = LL i := by rw [List.length_take]; omega
        refine ⟨_, h1, A i, C i, by rw [hzl], fun _ => by rw [hzl]; exact h2, ?_⟩
        by_cases h00 : LL i = 0
        · left; rw [h00]; simp
        · right
          cases hA : A i with
          | none => have := h6 hA; omega
          | some a' =>
            obtain ⟨_, h8⟩ := h7 a' hA
            obtain ⟨b', off', spot'⟩ := a'
            have hc' := h8 0 (by omega)
            have hspot' : spot' = none := by simpa [Addr.add] using World.cell?_spot hc'
            subst hspot'
            refine ⟨b', off', rfl, by simp, World.block_lt_of_cell? w _ hc', fun j hj => ?_⟩
            rw [hzl] at hj
            have := h8 j (by omega)
            rw [Addr.add_lit] at this
            rw [getD_take _ _ _ hj]
            exact this
    · by_cases hi : i < len
      · rw [hgd i hi]
        obtain ⟨_, _, _, _, h5, _⟩ := hall i (by omega)
        exact fits_of fun y hy => h5 y (List.mem_of_mem_take hy)
      · rw [List.getD_eq_getElem?_getD, List.getElem?_eq_none (by simp; omega)]
        exact fits_nil
end Go.Proofs.Ytdgacbelpenmmaa
