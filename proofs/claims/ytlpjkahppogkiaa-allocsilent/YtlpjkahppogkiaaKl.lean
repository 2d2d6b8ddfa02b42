/- A region that draws its order, whose operations only read, and whose callees at most make memory: what its walk in the text's order wants. -/
import Derived.Test.YtlpjkahppogkiaaKk
import Derived.BigQuiet
namespace Go.Proofs.Ytlpjkahppogkiaa
open Go.RowKit Go.Sort
set_option linter.unusedVariables false
set_option linter.unusedSimpArgs false

theorem cellQ {w : World} {a : Addr} {v : Value} (h : w.cell? a = some v) : ∀ d os, (grow (redrawn w d) os).cell? a = some v := cell_regrown h
theorem callQ {P : Program} {f : FuncId} {args : Array Value} {v : Value} {w : World} (h : ∀ w', Below w.heap.size w w' → Calls P f args w' fun e w'' => e = .returned v ∧ Below w'.heap.size w' w'') : ∀ d os, Calls P f args (grow (redrawn w d) os) fun e w'' => e = .returned v ∧ ∃ p : Regrown, w'' = grow (redrawn w p.d) p.os := fun d os => Calls.regrown_of (h _ (below_regrown w d os))
theorem sameQ {P : Program} {f : FuncId} {args : Array Value} {v : Value} {w : World} (h : ∀ w', Calls P f args w' fun e w'' => e = .returned v ∧ w'' = w') : ∀ d os, Calls P f args (grow (redrawn w d) os) fun e w'' => e = .returned v ∧ ∃ p : Regrown, w'' = grow (redrawn w p.d) p.os :=
  callQ fun w' _ => (h w').mono (by rintro e w'' ⟨rfl, rfl⟩; exact ⟨rfl, Below.refl _ _⟩)

/-- Two lists in a list. -/
theorem gr2 (w : World) (v1 v2 : Value) (x y : List Int) (t : TypeId) (h1 : Rw .i64 w v1 x) (h2 : Rw .i64 w v2 y) : Fr false (w.alloc (.cells #[v1, v2] t)) (.slice (some ⟨w.heap.size, 0, none⟩) 2 2) [x, y] := by
  refine ⟨_, 2, rfl, .inr ⟨w.heap.size, 0, rfl, by simp, fun i hi => ?_⟩⟩
  have hi : i = 0 ∨ i = 1 := by have : i < 2 := hi; omega
  rcases hi with rfl | rfl
  · exact ⟨v1, by simp [go_sem], (Rx.ofF h1.any (fun b e => by cases e)).below (below1 _ _)⟩
  · exact ⟨v2, by simp [go_sem], (Rx.ofF h2.any (fun b e => by cases e)).below (below1 _ _)⟩
theorem fair2 (x y : List Int) : fairG 2 [x, y] = (gokB x && gokB y) := by
  unfold fairG
  show (decide ((2 : Int) = 2) && ((List.range 2).all fun i => gokB ([x, y].getD i []))) = _
  simp [List.range_succ]
theorem p2_ok (n : Int) (v1 v2 : Value) (x y : List Int) (w : World) (hr : rtB n 2 = true) (hx : gokB x = true) (hy : gokB y = true) (h1 : Rw .i64 w v1 x) (h2 : Rw .i64 w v2 y) : Calls Try.prog 15 #[.int .i64 n, .int .i64 2, .slice (some ⟨w.heap.size, 0, none⟩) 2 2] (w.alloc (.cells #[v1, v2] 34)) fun e w' => ∃ (G : Nat) (ra rb : Option Addr) (rc rd : Nat), e = .returned (.tuple #[.slice (some ⟨G, 0, none⟩) 2 2, .int .i64 0]) ∧ G < w'.heap.size ∧ w'.cell? ⟨G, 0, none⟩ = some (.slice ra 5 rc) ∧ w'.cell? ⟨G, 1, none⟩ = some (.slice rb 5 rd) ∧ Rw .i64 w' (.slice ra 5 rc) (pls (chan x (rmI n 2))) ∧ Rw .i64 w' (.slice rb 5 rd) (pls (chan y (rmI n 2))) ∧ Below w.heap.size w w' := by
  refine Calls.mono (pulses_ok n 2 _ 2 [x, y] _ (gr2 w v1 v2 x y _ h1 h2) hr (by rw [show (((2 : Nat) : Int)) = 2 from rfl, fair2, hx, hy]; rfl)) ?_
  rintro e w' ⟨G, rfl, hf, hB⟩
  obtain ⟨b0, o0, e0, hb0, ra, rc, c0, _, r0⟩ := hf.at 0 (by omega)
  obtain ⟨b1, o1, e1, hb1, rb, rd, c1, _, r1⟩ := hf.at 1 (by omega)
  simp only [Option.some.injEq, Addr.mk.injEq, and_true] at e0 e1
  obtain ⟨rfl, rfl⟩ := e0
  obtain ⟨rfl, rfl⟩ := e1
  rw [pul_at 2 _ _ 0 (by omega), pls_len] at c0 r0
  rw [pul_at 2 _ _ 1 (by omega), pls_len] at c1 r1
  exact ⟨G, ra, rb, rc, rd, rfl, hb0, by simpa using c0, by simpa using c1, r0, r1, bthen' (below1 _ _) hB⟩
theorem p2_no (n : Int) (v1 v2 : Value) (x y : List Int) (w : World) (h : (rtB n 2 && (gokB x && gokB y)) = false) (h1 : Rw .i64 w v1 x) (h2 : Rw .i64 w v2 y) : Calls Try.prog 15 #[.int .i64 n, .int .i64 2, .slice (some ⟨w.heap.size, 0, none⟩) 2 2] (w.alloc (.cells #[v1, v2] 34)) fun e w' => e = .returned (.tuple #[.slice none 0 0, .int .i64 1]) ∧ Below w.heap.size w w' := by
  refine Calls.mono (pulses_no n 2 _ 2 2 [x, y] _ rfl (by omega) (gr2 w v1 v2 x y _ h1 h2) (by rw [fair2]; exact h)) ?_
  rintro e w' ⟨rfl, rfl⟩
  exact ⟨rfl, below1 _ _⟩
theorem p2_any (n : Int) (v1 v2 : Value) (x y : List Int) (w : World) (h1 : Rw .i64 w v1 x) (h2 : Rw .i64 w v2 y) : Calls Try.prog 15 #[.int .i64 n, .int .i64 2, .slice (some ⟨w.heap.size, 0, none⟩) 2 2] (w.alloc (.cells #[v1, v2] 34)) fun e w' => ∃ (a : Option Addr) (m c : Nat) (er : Int), e = .returned (.tuple #[.slice a m c, .int .i64 er]) ∧ Below w.heap.size w w' := by
  by_cases h : (rtB n 2 && (gokB x && gokB y)) = true
  · have h' := h
    rw [Bool.and_eq_true, Bool.and_eq_true] at h'
    refine Calls.mono (p2_ok n v1 v2 x y w h'.1 h'.2.1 h'.2.2 h1 h2) ?_
    rintro e w' ⟨G, ra, rb, rc, rd, rfl, _, _, _, _, _, hB⟩
    exact ⟨_, _, _, _, rfl, hB⟩
  · refine Calls.mono (p2_no n v1 v2 x y w (by simpa using h) h1 h2) ?_
    rintro e w' ⟨rfl, hB⟩
    exact ⟨_, _, _, _, rfl, hB⟩
end Go.Proofs.Ytlpjkahppogkiaa
