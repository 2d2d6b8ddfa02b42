/- An encoder as the document's: all its bytes. -/
import Derived.Test.YtocccimlojeaeaaCl
import Derived.Deep.RegionLaw
import Derived.Deep.DeepCutAuto
namespace Go.Proofs.Ytocccimlojeaeaa
open Go.RowKit
set_option linter.unusedVariables false
set_option linter.unusedSimpArgs false

/-- A struct of two cells, of the call's own. -/
structure B2 (w : World) (b : Nat) (x0 x1 : Value) : Prop where
  z : b < w.heap.size
  c0 : w.cell? ⟨b, 0, none⟩ = some x0
  c1 : w.cell? ⟨b, 1, none⟩ = some x1
  f0 : w.frozen? ⟨b, 0, none⟩ = false
  f1 : w.frozen? ⟨b, 1, none⟩ = false
theorem B2.below {w w' : World} {b : Nat} {x0 x1 : Value} (h : B2 w b x0 x1) (hb : Below w.heap.size w w') : B2 w' b x0 x1 := by
  obtain ⟨hc, hf⟩ := bcell hb
  have hz := h.z
  exact ⟨Nat.lt_of_lt_of_le hz hb.size, (hc _ _ hz).trans h.c0, (hc _ _ hz).trans h.c1, (hf _ _ hz).trans h.f0, (hf _ _ hz).trans h.f1⟩
theorem B2.new (w : World) (x0 x1 : Value) (t : TypeId) : B2 (w.alloc (.cells #[x0, x1] t)) w.heap.size x0 x1 :=
  ⟨by simp, by simp [go_sem], by simp [go_sem], by simp [go_sem], by simp [go_sem]⟩
theorem B2.new2 (w : World) (o : Obj) (x0 x1 : Value) (t : TypeId) : B2 ((w.alloc o).alloc (.cells #[x0, x1] t)) (w.heap.size + 1) x0 x1 := by
  simpa using B2.new (w.alloc o) x0 x1 t
theorem B2.of_block {w w' : World} {b : Nat} {x0 x1 : Value} (h : B2 w b x0 x1) (e : w'.heap[b]? = w.heap[b]?) (hz : b < w'.heap.size) : B2 w' b x0 x1 :=
  ⟨hz, (World.cell?_of_block (w := w) e).trans h.c0, (World.cell?_of_block (w := w) e).trans h.c1, (World.frozen?_of_block (w := w) e).trans h.f0, (World.frozen?_of_block (w := w) e).trans h.f1⟩
theorem B2.other {w : World} {b : Nat} {x0 x1 : Value} (h : B2 w b x0 x1) (c o : Nat) (y : Value) (hne : b ≠ c) : B2 (w.setCell ⟨c, o, none⟩ y) b x0 x1 :=
  h.of_block (Below.heap_setCell w ⟨c, o, none⟩ y b hne) (by simpa [World.setCell] using h.z)
theorem B2.set0 {w : World} {b : Nat} {x0 x1 : Value} (h : B2 w b x0 x1) (y : Value) : B2 (w.setCell ⟨b, 0, none⟩ y) b y x1 :=
  ⟨by simpa [World.setCell] using h.z, by simp [go_sem, h.c0], by simp [go_sem, h.c1], by simp [h.f0], by simp [h.f1]⟩
theorem B2.set1 {w : World} {b : Nat} {x0 x1 : Value} (h : B2 w b x0 x1) (y : Value) : B2 (w.setCell ⟨b, 1, none⟩ y) b x0 y :=
  ⟨by simpa [World.setCell] using h.z, by simp [go_sem, h.c0], by simp [go_sem, h.c1], by simp [h.f0], by simp [h.f1]⟩
theorem B2.grown {w w' : World} {b : Nat} {x0 x1 : Value} {o : Option Nat} (h : B2 w b x0 x1) (hg : w.grownBy w' o) (hne : o ≠ some b) : B2 w' b x0 x1 :=
  h.of_block (hg.block b h.z (fun hh => hne hh.symm)) (Nat.lt_of_lt_of_le h.z hg.size)
theorem bset2' {B : Nat} {a w : World} (h : Below B a w) (p : Nat) (x0 x1 : Value) (hp : B ≤ p) : Below B a ((w.setCell ⟨p, 0, none⟩ x0).setCell ⟨p, 1, none⟩ x1) :=
  bset1 (bset1 h p 0 x0 hp) p 1 x1 hp

/-- An append onto a row of the call's own, at a step of a region that draws its order. -/
theorem step_append_own {P : Program} {w : World} {ops : Array Oper} {o : Oper} {a : Act} {K : Act → World → Prop} {Q : Exit → Act → World → Prop} {E : Prop} (hgd : o.guard = none) (s x : Operand) (t : TypeId)
    (ho : o.op = .call { callee := .builtin .append, args := #[s, x], argTypes := #[t, t] })
    (base : Nat) (e : TypeId) (i : TypeInfo) (z : Value) (bytes : Nat) (ht : P.underlying t = some (.slice e)) (hi : P.info? e = some i) (hz : i.zero = some z)
    (hsize : i.size = 1) (hby : i.bytes = bytes) (hzs : z.cells.size = 1)
    (v : Value) (n : Nat) (xs : List Value) (hs : a.eval s = v) (hown : w.ownsRow base e 1 v n xs)
    (ad : Addr) (m c : Nat) (news : List Value) (hx : a.eval x = .slice (some ad) m c) (hl : news.length = m * 1) (hnews : ∀ j u, news[j]? = some u → w.cell? (ad.add j) = some u) (h1 : ∀ u ∈ news, u.oneCell' = true)
    (h63 : n + m ≤ maxLen) (hbytes : (n + m) * bytes ≤ 140737488355328) (hbase : base ≤ w.heap.size)
    (h : ∀ v' w', w'.ownsRow base e 1 v' (n + m) (xs ++ news) → w.grownBy w' v.ownBlock → K (a.put o.dst v') w') :
    if Region.wanted o (yielded ops a.tmps) = true then Oper.wp P o a w K Q else E := by
  have hw : Region.wanted o (yielded ops a.tmps) = true := by simp [Region.wanted, hgd]
  rw [if_pos hw]
  obtain ⟨v', w', hr, h2, h3, _⟩ := run_append_own (P := P) w base t o.type e i z 1 bytes ht hi hz hsize hby hzs (by decide) v n xs hown ad m c news hl hnews h1 h63 hbytes hbase
  unfold Oper.wp execOp
  simp only [ho, resolve, invoke, builtin, Sem.run_bind, Sem.run_pure, Result.andThen_ok, List.map_toArray, List.map_cons, List.map_nil, hs, hx, hr]
  exact h v' w' h2 h3

def refV (v : Value) (e : En) : Value := .agg #[.int .u64 e.R, v]

/-! ### The document's new one -/
theorem all_new : En.new.all = [0, 0, 0, 0] := by simp [En.all, En.new, beL]
theorem rw_lit4 (base : Nat) (w : World) (b : Nat) (x y z u : Int) (k : IntKind) (c : Nat) (h : w.cell? ⟨b, 0, none⟩ = some (.int k x)) (h1 : w.cell? ⟨b, 1, none⟩ = some (.int k y)) (h2 : w.cell? ⟨b, 2, none⟩ = some (.int k z)) (h3 : w.cell? ⟨b, 3, none⟩ = some (.int k u)) (hb : b < w.heap.size) (hB : base ≤ b) : RwF base k w (.slice (some ⟨b, 0, none⟩) 4 c) [x, y, z, u] := by
  refine ⟨some ⟨b, 0, none⟩, c, rfl, .inr ⟨b, 0, rfl, hB, hb, fun i hi => ?_⟩⟩
  simp at hi
  have : i = 0 ∨ i = 1 ∨ i = 2 ∨ i = 3 := by omega
  rcases this with rfl | rfl | rfl | rfl
  · simpa using h
  · simpa using h1
  · simpa using h2
  · simpa using h3

set_option maxHeartbeats 1000000 in
theorem rnew_any (w : World) : Calls Try.prog 41 #[] w fun x w' => ∃ a cap, x = .returned (.agg #[.int .u64 4294967295, .slice a 4 cap]) ∧ RwF w.heap.size .i64 w' (.slice a 4 cap) En.new.all ∧ Below w.heap.size w w' := by
  rw [all_new]
  go_enter Try.func41, Try.ntmps41
  go_wp2
  refine bodyPost_ret (v := .agg #[.int .u64 4294967295, .slice (some ⟨w.heap.size + 1, 0, none⟩) 4 4]) (by simp [results, Try.results41, go_sem]) rfl ⟨_, _, rfl, ?_, below2 _ _ _⟩
  exact rw_lit4 _ _ _ _ _ _ _ _ _ (by simp [go_sem]) (by simp [go_sem]) (by simp [go_sem]) (by simp [go_sem]) (by simp) (by omega)

theorem owns_drew {w : World} {base : Nat} {e : TypeId} {size : Nat} {v : Value} {n : Nat} {xs : List Value} (h : w.ownsRow base e size v n xs) : w.drew.ownsRow base e size v n xs := h
theorem owns_new {w : World} {base : Nat} {e : TypeId} {size : Nat} {v : Value} {n : Nat} {xs : List Value} (h : w.ownsRow base e size v n xs) (o : Obj) : (w.alloc o).drew.ownsRow base e size v n xs := owns_drew (h.alloc o)
theorem cell_one_drew (W : World) (x : Value) (t : TypeId) : ∀ j v, [x][j]? = some v → (W.alloc (.cells #[x] t)).drew.cell? ((⟨W.heap.size, 0, none⟩ : Addr).add j) = some v := cell_one_at rfl x t
theorem one_cell (k : IntKind) (y : Int) : ∀ u ∈ [Value.int k y], u.oneCell' = true := by intro u hu; simp at hu; subst hu; rfl
end Go.Proofs.Ytocccimlojeaeaa
