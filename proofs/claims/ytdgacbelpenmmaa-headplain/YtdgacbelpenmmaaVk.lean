/- Contract of the document's Read. -/
import Derived.Test.YtdgacbelpenmmaaVd
import Derived.Deep.RegionWith
import Derived.Deep.RegionHeld3
import Derived.Deep.DeepCutAuto
import Derived.Deep.CutRange
namespace Go.Proofs.Ytdgacbelpenmmaa
open Go.RowKit
set_option linter.unusedVariables false
set_option linter.unusedSimpArgs false

/-- The document's loop over a book: what stands after k rounds (o: which field). -/
structure RkF (w wr : World) (s : Nat) (c q : Int) (v : Value) (k p : Nat) (xs : List Int) : Prop where
  res : B4 wr w.heap.size (.int .i64 0) (.int .i64 0) (.slice none 0 0) (.slice none 0 0)
  box : B4 wr s (.int .i64 c) (.int .i64 q) v (.slice none 0 0)
  own : wr.ownsRow (s + 1) 3 1 v k ((tab k fun j => ((gv xs (p + 5 * j) 5 : Nat) : Int)).map (Value.int .i64))
  bl : Below w.heap.size w wr
  z : w.heap.size < s
theorem gv_push (xs : List Int) (p k : Nat) : (tab (k + 1) fun j => ((gv xs (p + 5 * j) 5 : Nat) : Int)).map (Value.int .i64) = (tab k fun j => ((gv xs (p + 5 * j) 5 : Nat) : Int)).map (Value.int .i64) ++ [.int .i64 ((gv xs (p + 5 * k) 5 : Nat) : Int)] := by
  rw [tab_push, List.map_append]; rfl
theorem RkF.push {w wr y1 w2 : World} {s : Nat} {c q x : Int} {a a2 : Option Addr} {k cap c2 p : Nat} {xs : List Int} {t : TypeId} (h : RkF w wr s c q (.slice a k cap) k p xs) (hy : Below wr.heap.size wr y1) (hg : (y1.alloc (.cells #[.int .i64 x] t)).grownBy w2 (Value.slice a k cap).ownBlock) (hown : w2.ownsRow (s + 1) 3 1 (.slice a2 (k + 1) c2) (k + 1) ((tab k fun j => ((gv xs (p + 5 * j) 5 : Nat) : Int)).map (Value.int .i64) ++ [.int .i64 x])) (hx : ((gv xs (p + 5 * k) 5 : Nat) : Int) = x) :
    RkF w (w2.setCell ⟨s, 2, none⟩ (.slice a2 (k + 1) c2)) s c q (.slice a2 (k + 1) c2) (k + 1) p xs := by
  have hy2 := hy.alloc hy.size (.cells #[.int .i64 x] t)
  have hlt := h.own.lt
  have hz := h.z
  have hne : ∀ p, p < s + 1 → (Value.slice a k cap).ownBlock ≠ some p := fun p hp e => by have := (hlt _ e).1; omega
  have hb2 := B4.grown (h.box.below hy2) hg (hne _ (by omega))
  have ha2 := B4.grown (h.res.below hy2) hg (hne _ (by omega))
  refine ⟨B4.other ha2 _ _ _ (by omega), B4.set2 hb2 _, ?_, ?_, hz⟩
  · rw [gv_push, hx]; exact owns_other hown s 2 _ (by omega)
  · exact bset1 ((bthen h.bl hy2 h.bl.size).grown hg (Nat.le_trans h.bl.size hy2.size) (fun j hj => by have := (hlt j hj).1; omega)) s 2 _ (by omega)

def RdPost (xs : List Int) (w : World) (e : Ending) (w' : World) : Prop := ∃ a1 n1 c1 a2 n2 c2, e = .returned (.tuple #[.agg #[.int .i64 (oC xs), .int .i64 (oQ xs), .slice a1 n1 c1, .slice a2 n2 c2], .int .i64 (vhE xs)]) ∧ RwF w.heap.size .i64 w' (.slice a1 n1 c1) (oF xs) ∧ RwF w.heap.size .i64 w' (.slice a2 n2 c2) (oR xs) ∧ Below w.heap.size w w'
theorem rd_bad {xs : List Int} {w w' : World} (e : Int) (h1 : vhOk xs = false) (h2 : vhE xs = e) (h3 : Below w.heap.size w w') : RdPost xs w (.returned (.tuple #[.agg #[.int .i64 0, .int .i64 0, .slice none 0 0, .slice none 0 0], .int .i64 e])) w' := by
  unfold RdPost oC oQ oF oR
  rw [h1, h2]
  exact ⟨none, 0, 0, none, 0, 0, rfl, ⟨none, 0, rfl, .inl rfl⟩, ⟨none, 0, rfl, .inl rfl⟩, h3⟩
theorem vhOk_not (xs : List Int) (h : ¬ (xs.length = 41 ∧ gv xs 0 16 = 22099 ∧ gv xs 326 2 = 0 ∧ vhIn xs = true)) : vhOk xs = false := decide_eq_false h
set_option maxHeartbeats 2000000 in
theorem rread_short (a : Option Addr) (n cap : Nat) (xs : List Int) (w : World) (hn : xs.length = n) (h40 : n ≤ 40) :
    Calls Try.prog 20 #[.slice a n cap] w (RdPost xs w) := by
  have hB := B4.new w (.int .i64 0) (.int .i64 0) (.slice none 0 0) (.slice none 0 0) 28
  have hW := below1 w (.cells #[.int .i64 0, .int .i64 0, .slice none 0 0, .slice none 0 0] 28)
  have HBD := hid (fun w' h => rd_bad (w := w) (w' := w') 4 (vhOk_not xs (fun k => by omega)) (if_pos (by omega)) h)
  have d1 : decide ((n : Int) < 41) = true := decide_eq_true (by omega)
  clear hn h40
  obtain ⟨b4z, c0, c1, c2, c3, f0, f1, f2, f3⟩ := id hB
  go_enter Try.func20, Try.ntmps20
  go_wp2
  obtain ⟨gz', k0, k1, k2, k3, q0, q1', q2, q3⟩ := hB
  refine bodyPost_ret (v := .tuple #[.agg #[.int .i64 0, .int .i64 0, .slice none 0 0, .slice none 0 0], .int .i64 4]) (by simp [results, Try.results20, go_sem, k0, k1, k2, k3, q0, q1', q2, q3]) rfl ?_
  exact HBD.out _ hW
set_option maxHeartbeats 2000000 in
theorem rread_bad (a : Option Addr) (n cap : Nat) (xs : List Int) (w : World) (hn : xs.length = n) (hv : Rw .u8 w (.slice a n cap) xs) (hx : Byts xs) (h40 : 41 ≤ n) (hbad : n ≠ 41 ∨ gv xs 0 16 ≠ 22099) :
    Calls Try.prog 20 #[.slice a n cap] w (RdPost xs w) := by
  have hB := B4.new w (.int .i64 0) (.int .i64 0) (.slice none 0 0) (.slice none 0 0) 28
  have hW := below1 w (.cells #[.int .i64 0, .int .i64 0, .slice none 0 0, .slice none 0 0] 28)
  have hv0 := hv.below hW
  have hok := vhOk_not xs (fun k => by rcases hbad with h | h; exact h (by omega); exact h k.2.1)
  have HBD := hid (fun w' h => rd_bad (w := w) (w' := w') 2 hok (by unfold vhE; rw [if_neg (by omega), hok]; rfl) h)
  have d1 : decide ((n : Int) < 41) = false := decide_eq_false (by omega)
  have hm := magic_bytes hx (by omega)
  rw [← hn] at hv0
  obtain ⟨b, off, ha, hb, hc0⟩ := hv0.at 0 (by omega)
  obtain ⟨b', off', ha', _, hc1⟩ := hv0.at 1 (by omega)
  subst ha
  simp only [Option.some.injEq, Addr.mk.injEq, and_true] at ha'
  obtain ⟨rfl, rfl⟩ := ha'
  rw [Nat.add_zero] at hc0
  have hx0 := hx.getD 0
  have hx1 := hx.getD 1
  generalize xs.getD 0 0 = X0 at *
  generalize xs.getD 1 0 = X1 at *
  obtain ⟨b4z, c0, c1, c2, c3, f0, f1, f2, f3⟩ := id hB
  clear hv hv0 hok hn
  by_cases h41 : n = 41
  · have h3 : ¬ (X0 = 83 ∧ X1 = 86) := fun k => by rcases hbad with h | h; exact h h41; exact h (hm.2 k)
    subst h41
    clear d1 hm hbad h40
    by_cases h83 : X0 = 83
    · have h86 : (X1 != 86) = true := by simp; exact fun k => h3 ⟨h83, k⟩
      subst h83
      clear h3
      go_enter Try.func20, Try.ntmps20
      go_wp2
      obtain ⟨gz', k0, k1, k2, k3, q0, q1', q2, q3⟩ := hB
      refine bodyPost_ret (v := .tuple #[.agg #[.int .i64 0, .int .i64 0, .slice none 0 0, .slice none 0 0], .int .i64 2]) (by simp [results, Try.results20, go_sem, k0, k1, k2, k3, q0, q1', q2, q3]) rfl ?_
      exact HBD.out _ hW
    · have h83' : (X0 != 83) = true := by simp; exact h83
      clear h3 h83
      go_enter Try.func20, Try.ntmps20
      go_wp2
      obtain ⟨gz', k0, k1, k2, k3, q0, q1', q2, q3⟩ := hB
      refine bodyPost_ret (v := .tuple #[.agg #[.int .i64 0, .int .i64 0, .slice none 0 0, .slice none 0 0], .int .i64 2]) (by simp [results, Try.results20, go_sem, k0, k1, k2, k3, q0, q1', q2, q3]) rfl ?_
      exact HBD.out _ hW
  · have d2 : decide ((41 : Int) < n) = true := decide_eq_true (by omega)
    clear hm hbad h40 h41
    go_enter Try.func20, Try.ntmps20
    go_wp2
    obtain ⟨gz', k0, k1, k2, k3, q0, q1', q2, q3⟩ := hB
    refine bodyPost_ret (v := .tuple #[.agg #[.int .i64 0, .int .i64 0, .slice none 0 0, .slice none 0 0], .int .i64 2]) (by simp [results, Try.results20, go_sem, k0, k1, k2, k3, q0, q1', q2, q3]) rfl ?_
    exact HBD.out _ hW
end Go.Proofs.Ytdgacbelpenmmaa
