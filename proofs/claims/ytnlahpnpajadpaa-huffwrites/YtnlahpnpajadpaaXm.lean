/- The contract of the document's Write. -/
import Derived.Test.YtnlahpnpajadpaaXj
import Derived.Deep.RegionHeld3
import Derived.Maps.AppendAt
namespace Go.Proofs.Ytnlahpnpajadpaa
open Go.RowKit Go.Maps
set_option linter.unusedVariables false
set_option linter.unusedSimpArgs false

/-- A whole row of integers, nil or not, behind a row of the call's own: at a step of a region that draws its order. -/
theorem step_append_rw {P : Program} {w : World} {ops : Array Oper} {o : Oper} {a : Act} {K : Act → World → Prop} {Q : Exit → Act → World → Prop} {E : Prop} (hgd : o.guard = none) (s x : Operand) (t : TypeId)
    (ho : o.op = .call { callee := .builtin .append, args := #[s, x], argTypes := #[t, t] })
    (base : Nat) (e : TypeId) (i : TypeInfo) (z : Value) (bytes : Nat) (ht : P.underlying t = some (.slice e)) (hi : P.info? e = some i) (hz : i.zero = some z)
    (hsize : i.size = 1) (hby : i.bytes = bytes) (hzs : z.cells.size = 1)
    (k : IntKind) (v : Value) (n : Nat) (xs : List Value) (hs : a.eval s = v) (hown : w.ownsRow base e 1 v n xs)
    (ad : Option Addr) (m c : Nat) (ys : List Int) (hm : ys.length = m) (hx : a.eval x = .slice ad m c) (hrw : Rw k w (.slice ad m c) ys) (hn : ad = none → c = 0)
    (h63 : n + m ≤ maxLen) (hbytes : (n + m) * bytes ≤ 140737488355328) (hbase : base ≤ w.heap.size)
    (h : ∀ v' w', w'.ownsRow base e 1 v' (n + m) (xs ++ ys.map (Value.int k)) → w.grownBy w' v.ownBlock → K (a.put o.dst v') w') :
    if Region.wanted o (yielded ops a.tmps) = true then Oper.wp P o a w K Q else E := by
  have hw : Region.wanted o (yielded ops a.tmps) = true := by simp [Region.wanted, hgd]
  rw [if_pos hw]
  subst hm
  have key : ∃ v' w', (Builtin.append_ #[t, t] o.type #[v, .slice ad ys.length c]).run P w = .ok v' w' ∧ w'.ownsRow base e 1 v' (n + ys.length) (xs ++ ys.map (Value.int k)) ∧ w.grownBy w' v.ownBlock := by
    obtain ⟨a', c', he, hr⟩ := hrw
    simp only [Value.slice.injEq, true_and] at he
    obtain ⟨rfl, rfl⟩ := he
    cases ad with
    | none =>
      have hc := hn rfl
      subst hc
      have hy : ys = [] := by
        rcases hr with h | ⟨b, off, hh, _⟩
        · exact h
        · cases hh
      subst hy
      exact ⟨v, w, run_append_owned_none (P := P) (w := w) base t o.type e i 1 ht hi v n xs hown, by simpa using hown, World.grownBy.refl w _⟩
    | some ad =>
      obtain ⟨v', w', h1, h2, h3, _⟩ := run_append_own (P := P) w base t o.type e i z 1 bytes ht hi hz hsize hby hzs (by decide) v n xs hown ad ys.length c (ys.map (Value.int k)) (by simp) (by
        intro j u hj
        have hjl : j < ys.length := by
          have := (List.getElem?_eq_some_iff.1 hj).1
          simpa using this
        obtain ⟨b, off, hh, hb, hc⟩ := hr.resolve_left (by intro h; subst h; simp at hjl)
        cases hh
        rw [Addr.add_lit, hc j hjl, ← hj]
        simp [hjl]) (ints_oneCell k ys) h63 hbytes hbase
      exact ⟨v', w', h1, h2, h3⟩
  obtain ⟨v', w', hr, h2, h3⟩ := key
  unfold Oper.wp execOp
  simp only [ho, resolve, invoke, builtin, Sem.run_bind, Sem.run_pure, Result.andThen_ok, List.map_toArray, List.map_cons, List.map_nil, hs, hx, hr]
  exact h v' w' h2 h3

theorem own_empty {w : World} {base : Nat} {e : TypeId} (h : base ≤ w.heap.size) : (w.alloc (.cells #[] e)).ownsRow base e 1 (.slice (some ⟨w.heap.size, 0, none⟩) 0 0) 0 [] :=
  ⟨by simp, .inr ⟨w.heap.size, 0, #[], rfl, h, heap_alloc_new w _, by omega, by unfold maxLen; omega, by simp, by simp⟩⟩

/-- The bits of a number, and behind them those of a code. -/
theorem bl_written (X C n N : Nat) (hX : X < 2 ^ N) : bl (X + rvb C n n * 2 ^ N) (N + n) = bl X N ++ sp C n := by
  apply List.ext_getElem?
  intro i
  by_cases hi : i < N
  · rw [List.getElem?_append_left (by rw [bl_length]; exact hi)]
    unfold bl
    rw [List.getElem?_map, List.getElem?_map, List.getElem?_range (by omega), List.getElem?_range hi]
    simp only [Option.map_some]
    rw [bl_put_old _ _ _ _ hi]
  · obtain ⟨k, rfl⟩ : ∃ k, i = N + k := ⟨i - N, by omega⟩
    rw [List.getElem?_append_right (by rw [bl_length]; omega), bl_length, Nat.add_sub_cancel_left]
    by_cases hk : k < n
    · have h1 : (sp C n)[k]? = some ((sp C n).getD k 0) := by
        rw [List.getD_eq_getElem?_getD, List.getElem?_eq_getElem (by rw [sp_len]; exact hk)]; rfl
      rw [h1, sp_at C n k hk]
      unfold bl
      rw [List.getElem?_map, List.getElem?_range (by omega)]
      simp only [Option.map_some]
      rw [bl_put_new _ _ _ _ hX, rvb_bit C n n k hk]
    · rw [List.getElem?_eq_none (by rw [bl_length]; omega), List.getElem?_eq_none (by rw [sp_len]; omega)]

/-- Good, told by letters. -/
theorem rgood (a : Option Addr) (cap : Nat) (xs : List Int) (M : Int) (w0 w : World) (hv0 : Rw .u8 w0 (.slice a xs.length cap) xs) (hv : Rw .u8 w (.slice a xs.length cap) xs) (hx : Byts xs) (hl : xs.length ≤ 100000) :
    Calls Try.prog 27 #[.agg #[.slice a xs.length cap, .int .i64 M]] w fun e w' => ∃ x c ys G, Hid (ys = goodX xs M) ∧ Hid (G = goodN xs M) ∧ e = .returned (.agg #[.slice x ys.length c, .int .i64 G]) ∧ Rw .u8 w0 (.slice x ys.length c) ys ∧ Below w.heap.size w w' := by
  refine (good_any _ M xs w hv hx hl).mono ?_
  rintro e w' ⟨rfl, hb⟩
  have hg := good_rw hv0 M
  obtain ⟨a2, cap2, hgv, _⟩ := id hg
  rw [hgv] at hg ⊢
  exact ⟨a2, cap2, _, _, rfl, rfl, rfl, hg, hb⟩

set_option maxHeartbeats 2000000 in
theorem rwrite_no (a : Option Addr) (cap : Nat) (vl : Value) (xs l : List Int) (M s : Int) (w : World) (hv : Rw .u8 w (.slice a xs.length cap) xs) (hx : Byts xs) (hlx : xs.length ≤ 100000) (hvl : Rw .i64 w vl l) (hr : rightL l = false) :
    Calls Try.prog 18 #[.agg #[.slice a xs.length cap, .int .i64 M], vl, .int .i64 s] w fun e w' => ∃ x c ys G, Hid (ys = goodX xs M) ∧ Hid (G = goodN xs M) ∧ e = .returned (.tuple #[.agg #[.slice x ys.length c, .int .i64 G], .int .i64 1]) ∧ Rw .u8 w' (.slice x ys.length c) ys ∧ Below w.heap.size w w' := by
  have hW := below2 w (.cells #[.slice a xs.length cap, .int .i64 M] 38) (.cells #[.slice none 0 0, .int .i64 0] 38)
  have hv1 := hv.below hW
  have hvl0 := hvl
  obtain ⟨al, cl, rfl, _⟩ := hvl
  go_enter Try.func18, Try.ntmps18
  go_wp2_with (first | (go_at_call 27; refine (rgood _ _ xs M w _ hv hv1 hx hlx).mono ?_; rintro e w1 ⟨x, c, ys, G, HY, HG, rfl, hrw, hb1⟩; obtain ⟨q0, q1, q2, q3, f0, f1, f2, f3, hz⟩ := two_boxes hb1; have hB1 := bthen hW hb1 hW.size) | (go_at_call 12; refine (rright4_any _ l _ (hvl0.below (bset2 hB1 _ _ _ _ _ _ (Nat.le_refl _) (Nat.le_refl _)))).mono ?_; rintro e w' ⟨rfl, rfl⟩; rw [hr]))
  have hB := bset4 hB1 w.heap.size (w.heap.size + 1) 0 1 0 1 (.slice x ys.length c) (.int .i64 G) (.slice x ys.length c) (.int .i64 G) (by omega) (by omega)
  exact bodyPost_ret (v := .tuple #[.agg #[.slice x ys.length c, .int .i64 G], .int .i64 1]) (by simp [results, Try.results18, go_sem, q0, q1, q2, q3, f0, f1, f2, f3]) rfl ⟨x, c, ys, G, HY, HG, rfl, hrw.below hB, hB⟩

set_option maxHeartbeats 4000000 in
theorem rwrite_unused (a : Option Addr) (cap : Nat) (vl : Value) (xs l : List Int) (M s : Int) (w : World) (hv : Rw .u8 w (.slice a xs.length cap) xs) (hx : Byts xs) (hlx : xs.length ≤ 100000) (hvl : Rw .i64 w vl l) (hr : rightL l = true) (hs : usedS l s = false) :
    Calls Try.prog 18 #[.agg #[.slice a xs.length cap, .int .i64 M], vl, .int .i64 s] w fun e w' => ∃ x c ys G, Hid (ys = goodX xs M) ∧ Hid (G = goodN xs M) ∧ e = .returned (.tuple #[.agg #[.slice x ys.length c, .int .i64 G], .int .i64 1]) ∧ Rw .u8 w' (.slice x ys.length c) ys ∧ Below w.heap.size w w' := by
  have hl1 := (right_parts hr).1
  have hW := below2 w (.cells #[.slice a xs.length cap, .int .i64 M] 38) (.cells #[.slice none 0 0, .int .i64 0] 38)
  have hv1 := hv.below hW
  have hvl0 := hvl
  obtain ⟨al, cl, rfl, hal⟩ := hvl
  obtain ⟨bl_, ol, rfl, hbl, hcl⟩ := hal.resolve_left (by intro h0; subst h0; simp at hl1)
  clear hal
  unfold usedS at hs
  rw [decide_eq_false_iff_not] at hs
  have ways : s < 0 ∨ (0 ≤ s ∧ l.length ≤ s) ∨ (∃ n : Nat, s = n ∧ n < l.length ∧ l.getD n 0 = 0) := by
    by_cases h1 : s < 0
    · exact .inl h1
    · by_cases h2 : (l.length : Int) ≤ s
      · exact .inr (.inl ⟨by omega, h2⟩)
      · refine .inr (.inr ⟨s.toNat, by omega, by omega, ?_⟩)
        have := inB_at (right_parts hr).2.2.1 s.toNat
        omega
  clear hs
  rcases ways with h1 | ⟨h1, h2⟩ | ⟨n, rfl, hn, h0⟩
  · go_enter Try.func18, Try.ntmps18
    go_wp2_with (first | (go_at_call 27; refine (rgood _ _ xs M w _ hv hv1 hx hlx).mono ?_; rintro e w1 ⟨x, c, ys, G, HY, HG, rfl, hrw, hb1⟩; obtain ⟨q0, q1, q2, q3, f0, f1, f2, f3, hz⟩ := two_boxes hb1; have hB1 := bthen hW hb1 hW.size) | (go_at_call 12; refine (rright4_any _ l _ (hvl0.below (bset2 hB1 _ _ _ _ _ _ (Nat.le_refl _) (Nat.le_refl _)))).mono ?_; rintro e w' ⟨rfl, rfl⟩; rw [hr]))
    have hB := bset4 hB1 w.heap.size (w.heap.size + 1) 0 1 0 1 (.slice x ys.length c) (.int .i64 G) (.slice x ys.length c) (.int .i64 G) (by omega) (by omega)
    exact bodyPost_ret (v := .tuple #[.agg #[.slice x ys.length c, .int .i64 G], .int .i64 1]) (by simp [results, Try.results18, go_sem, q0, q1, q2, q3, f0, f1, f2, f3]) rfl ⟨x, c, ys, G, HY, HG, rfl, hrw.below hB, hB⟩
  · go_enter Try.func18, Try.ntmps18
    go_wp2_with (first | (go_at_call 27; refine (rgood _ _ xs M w _ hv hv1 hx hlx).mono ?_; rintro e w1 ⟨x, c, ys, G, HY, HG, rfl, hrw, hb1⟩; obtain ⟨q0, q1, q2, q3, f0, f1, f2, f3, hz⟩ := two_boxes hb1; have hB1 := bthen hW hb1 hW.size) | (go_at_call 12; refine (rright4_any _ l _ (hvl0.below (bset2 hB1 _ _ _ _ _ _ (Nat.le_refl _) (Nat.le_refl _)))).mono ?_; rintro e w' ⟨rfl, rfl⟩; rw [hr]))
    have hB := bset4 hB1 w.heap.size (w.heap.size + 1) 0 1 0 1 (.slice x ys.length c) (.int .i64 G) (.slice x ys.length c) (.int .i64 G) (by omega) (by omega)
    exact bodyPost_ret (v := .tuple #[.agg #[.slice x ys.length c, .int .i64 G], .int .i64 1]) (by simp [results, Try.results18, go_sem, q0, q1, q2, q3, f0, f1, f2, f3]) rfl ⟨x, c, ys, G, HY, HG, rfl, hrw.below hB, hB⟩
  · have g0 := hcl n hn
    rw [h0] at g0
    clear h0 hcl
    go_enter Try.func18, Try.ntmps18
    go_wp2_with (first | (go_at_call 27; refine (rgood _ _ xs M w _ hv hv1 hx hlx).mono ?_; rintro e w1 ⟨x, c, ys, G, HY, HG, rfl, hrw, hb1⟩; obtain ⟨q0, q1, q2, q3, f0, f1, f2, f3, hz⟩ := two_boxes hb1; have hB1 := bthen hW hb1 hW.size; have g1 := ((bset2 hB1 w.heap.size w.heap.size 0 1 (.slice x ys.length c) (.int .i64 G) (Nat.le_refl _) (Nat.le_refl _)).cell (p := ⟨bl_, ol + n, none⟩) hbl).trans g0) | (go_at_call 12; refine (rright4_any _ l _ (hvl0.below (bset2 hB1 _ _ _ _ _ _ (Nat.le_refl _) (Nat.le_refl _)))).mono ?_; rintro e w' ⟨rfl, rfl⟩; rw [hr]))
    have hB := bset4 hB1 w.heap.size (w.heap.size + 1) 0 1 0 1 (.slice x ys.length c) (.int .i64 G) (.slice x ys.length c) (.int .i64 G) (by omega) (by omega)
    exact bodyPost_ret (v := .tuple #[.agg #[.slice x ys.length c, .int .i64 G], .int .i64 1]) (by simp [results, Try.results18, go_sem, q0, q1, q2, q3, f0, f1, f2, f3]) rfl ⟨x, c, ys, G, HY, HG, rfl, hrw.below hB, hB⟩
end Go.Proofs.Ytnlahpnpajadpaa
