/- The Go function of the statement PackReads returns true at every input, and leaves each argument as it read. No condition. -/
import Derived.Test.YtidppkbphkcmeaaGreatZg
import Derived.Test.YtidppkbphkcmeaaGreatZi
import Derived.ProofKit
import Derived.OpenShut
import Derived.ShutString
import Derived.ChangeOld
import Derived.Lib.SmallJoins
namespace Go.Proofs.YtidppkbphkcmeaaGreat.packReads
open Go.ChangeShapes Go.WideShapes Go.ChangeAt Go.RowKit Go.Joins
set_option linter.unusedVariables false
set_option linter.unusedSimpArgs false

theorem own : ownKnob Tryz.prog.godebug = none := by kernel_rfl
theorem laidOut : laidOutB Tryz.prog = true := by kernel_rfl

theorem row_cap {k : IntKind} {w : World} {a : Option Addr} {len cap : Nat} {zs : List Int} (h : IsRow k w a len cap zs) : a = none → cap = 0 := by
  rcases h with ⟨rfl, rfl, rfl, rfl⟩ | ⟨x, rfl, _⟩
  · intro _; rfl
  · intro h; cases h
theorem copied {w : World} {base n : Nat} {e : TypeId} {v : Value} {B : List Int} (h : w.ownsRow base e 1 v n (B.map (Value.int .u8))) : ∃ a c, v = .slice a n c ∧ Rw .u8 w (.slice a n c) B := by
  have hr := Rw.of_owns h
  obtain ⟨a, c, rfl, _⟩ := owns_open h
  exact ⟨a, c, rfl, hr⟩
theorem info_u8r : (Tryz.prog.info? 5).map (fun i => (i.zero, i.size, i.bytes)) = some (some (.int .u8 0), 1, 1) := by kernel_rfl
def Nos (w : World) (a0 a1 : Int) (a2 : Option Addr) (len2 cap2 : Nat) (B : List Int) (a3 : Option Addr) (len3 cap3 : Nat) (er : Int) : Prop :=
  (∀ ab cb W, Below w.heap.size w W → Rw .u8 W (.slice ab len2 cb) B → Calls Tryz.prog 13 #[.int .i64 a0, .int .i64 a1, .slice ab len2 cb, .slice a3 len3 cap3] W fun x w' => RdNo W x w' er) ∧ (∀ W, Below w.heap.size w W → Calls Tryz.prog 14 #[.int .i64 a0, .int .i64 a1, .slice a2 len2 cap2, .slice a3 len3 cap3] W fun x w' => RdNo W x w' er)
theorem nos_of (w : World) (a0 a1 : Int) (a2 : Option Addr) (len2 cap2 : Nat) (B : List Int) (a3 : Option Addr) (len3 cap3 : Nat) (z3 : List (List Int)) (hBl : B.length = len2) (hBr : Rw .u8 w (.slice a2 len2 cap2) B) (hby : Byts B) (hA : z3.length = len3) (hma : len3 ≤ 20) (has : ∀ i, i < len3 → (z3.getD i []).length ≤ 100) (hva : Fr false w (.slice a3 len3 cap3) z3)
    (h : ¬ (rtB a0 a1 = true ∧ (len2 : Int) = a0 ∧ ahB (fI (De.open B)) a1 z3 = true)) : ∃ er : Int, (er = 1 ∨ er = 2) ∧ Nos w a0 a1 a2 len2 cap2 B a3 len3 cap3 er := by
  cases hr : rtB a0 a1
  · exact ⟨1, .inl rfl, fun ab cb W _ _ => cread_shape a0 a1 ab len2 cb a3 len3 cap3 W hr, fun W _ => rread_shape a0 a1 a2 len2 cap2 a3 len3 cap3 W hr⟩
  · by_cases hl : (len2 : Int) = a0
    · subst hl
      have hno : ahB (fI (De.open B)) a1 z3 = false := by
        cases hh : ahB (fI (De.open B)) a1 z3
        · rfl
        · exact absurd ⟨hr, rfl, hh⟩ h
      refine ⟨1, .inl rfl, fun ab cb W hW hq => cread_ahead len2 a1 ab cb B a3 len3 cap3 z3 W hr hBl hby (by rw [hBl]; exact hq) hA (by omega) (hva.below hW) hno, fun W hW => rread_ahead len2 a1 a2 cap2 B a3 len3 cap3 z3 W hr hBl hby (by rw [hBl]; exact hBr.below hW) hA hma has (hva.below hW) hno⟩
    · exact ⟨2, .inr rfl, fun ab cb W _ _ => cread_form a0 a1 ab len2 cb a3 len3 cap3 W hr hl, fun W _ => rread_form a0 a1 a2 len2 cap2 a3 len3 cap3 W hr hl⟩
set_option maxRecDepth 10000 in
set_option maxHeartbeats 8000000 in
theorem walk (a0 : Int) (a1 : Int) (a2 : Option Addr) (len2 cap2 : Nat) (z2 : List Int) (a3 : Option Addr) (len3 cap3 : Nat) (z3 : List (List Int)) (w : World) (w0 : (Lit.int .i64 a0).wf = true) (w1 : (Lit.int .i64 a1).wf = true) (w2 : IsRow .u8 w a2 len2 cap2 z2) (w3 : IsGrid w a3 len3 cap3 z3) :
    Calls Tryz.prog 4 #[.int .i64 a0, .int .i64 a1, .slice a2 len2 cap2, .slice a3 len3 cap3] w fun e w' => e = .returned (.bool true) ∧ Below w.heap.size w w' := by
  obtain ⟨i0, hi, hz0, hz1, hz2⟩ := info_parts info_u8r
  obtain ⟨B, hBl, hBr, hby⟩ := row_rw w2
  have hcn := row_cap w2
  have HBL := hid hBl
  have hA := w3.len
  have hma := w3.2.2
  have hva := w3.1.weak
  clear w0 w1 w2 w3
  have hwd := fun W (h : Below w.heap.size w W) => wide_any a3 len3 cap3 z3 W hA hma (hva.below h)
  by_cases g1 : (200 : Int) < (len2 : Int)
  · clear hwd hva hma hA hBr hby hBl HBL hcn
    go_enter Tryz.func4, Tryz.ntmps4
    go_wp2_with (go_at_call 6; refine (knows_any _).mono ?_; rintro e wk ⟨rfl, hbk⟩)
    go_ret
    exact ⟨rfl, hbk⟩
  have g1' : (len2 : Int) ≤ 200 := by omega
  clear g1
  cases hw : wideB z3
  rotate_left
  · rw [hw] at hwd
    clear hw hva hma hA hBr hby hBl HBL hcn
    go_enter Tryz.func4, Tryz.ntmps4
    go_wp2_with (first | (go_at_call 12; refine (hwd _ (Below.refl _ _)).mono ?_; rintro e w9 ⟨rfl, h9⟩; have h9 := h9.symm; subst h9) | (go_at_call 6; refine (knows_any _).mono ?_; rintro e wk ⟨rfl, hbk⟩))
    go_ret
    exact ⟨rfl, hbk⟩
  obtain ⟨hz1, hz2'⟩ := wide_no hw
  rw [hA] at hz1 hz2'
  rw [hw] at hwd
  clear hw
  by_cases hD : rtB a0 a1 = true ∧ (len2 : Int) = a0 ∧ ahB (fI (De.open B)) a1 z3 = true
  rotate_left
  · obtain ⟨er, her, hcr, hrr⟩ := nos_of w a0 a1 a2 len2 cap2 B a3 len3 cap3 z3 hBl hBr hby hA (by omega) (fun i hi => by have := hz2' i hi; omega) hva hD
    unfold RdNo at hcr hrr
    clear hD hva hma hA hby hBl hz1 hz2'
    go_enter Tryz.func4, Tryz.ntmps4
    go_wp2_with (first | (go_at_call 12; refine (hwd _ (Below.refl _ _)).mono ?_; rintro e w9 ⟨rfl, h9⟩; have h9 := h9.symm; subst h9) | (at_builtin; refine wpList_append_rw rfl _ _ _ rfl w.heap.size 5 i0 (.int .u8 0) 1 Tryz.underlying28 hi hz0 hz1 hz2 rfl .u8 _ 0 [] rfl (own_empty (Nat.le_refl _)) a2 cap2 B ?h1 ?h2 hcn ?h3 ?h4 ?h5 ?h6))
    case h1 => rw [HBL.out]; rfl
    case h2 => rw [HBL.out]; exact hBr.below (below1 _ _)
    case h3 => rw [HBL.out]; unfold maxLen; omega
    case h4 => rw [HBL.out]; omega
    case h5 => simp
    intro v5 w5 hown5 hgrow5
    have hb5 : Below w.heap.size w w5 := (below1 w (.cells #[] 5)).grown hgrow5 (by simp) (fun k hk => by simp [Value.ownBlock] at hk; omega)
    obtain ⟨a5, c5, rfl, hr5⟩ := copied (w := w5) (base := w.heap.size) (n := len2) (e := 5) (v := v5) (B := B) (by rw [HBL.out] at hown5; simpa using hown5)
    clear hown5 hgrow5
    have hcr5 := hcr _ _ _ hb5 hr5
    go_wp2_with (go_at_call 13; refine hcr5.mono ?_; rintro e w6 ⟨rfl, hb6⟩)
    have hx6 := below1 w6 (.cells #[.bool false, .slice none 0 0, .slice none 0 0] 25)
    have hBp := B3.new w6 (.bool false) (.slice none 0 0) (.slice none 0 0) 25
    have hbw6 := bthen' (bthen' hb5 hb6) hx6
    generalize w6.alloc (.cells #[.bool false, .slice none 0 0, .slice none 0 0] 25) = W6 at *
    generalize w6.heap.size = bp at *
    have hrr6 := hrr _ hbw6
    clear hcr hcr5 hrr hr5 hb5 hb6 hx6 hBr hwd hcn HBL
    go_upto_region 5 with (go_at_call 14; refine hrr6.mono ?_; rintro e w7 ⟨rfl, hb7⟩)
    have hx7 := below1 w7 (.cells #[.bool false, .slice none 0 0, .slice none 0 0] 33)
    have hBq := B3.new w7 (.bool false) (.slice none 0 0) (.slice none 0 0) 33
    have hBp8 := (hBp.below hb7).below hx7
    have HBW := hid (bthen' (bthen' hbw6 hb7) hx7)
    generalize w7.alloc (.cells #[.bool false, .slice none 0 0, .slice none 0 0] 33) = W8 at *
    generalize w7.heap.size = bq at *
    have E0 := cellQ hBp8.c0
    have E1 := cellQ hBp8.c1
    have E2 := cellQ hBp8.c2
    have D0 := cellQ hBq.c0
    have D1 := cellQ hBq.c1
    have D2 := cellQ hBq.c2
    have H1 := callQ (w := W8) (fun w' _ => as_any false (.slice none 0 0) (.slice none 0 0) ⟨_, _, _, rfl⟩ ⟨_, _, _, rfl⟩ w')
    have H3 := callQ (w := W8) (fun w' h => sameP_yes false _ _ _ _ [] [] w' (fr_none _) (fr_none _) (fc_none _) (fc_none _) few_nil)
    have H4 := callQ (w := W8) (fun w' _ => knows_any w')
    have hwe : IntKind.i64.wrap er = er := by rcases her with rfl | rfl <;> decide
    have hee : (er == er) = true := by simp
    clear hrr6 hb7 hx7 hBp hBp8 hBq hbw6 her
    go_wp2
    refine wp_region_quiet_below (by kernel_rfl) (by kernel_rfl) ?_
    repeat (go_big_quiet_step (first | (go_at_call 9; exact H1 _ _) | (go_at_call 15; exact H3 _ _) | (go_at_call 6; exact H4 _ _)))
    refine wpQuiet_nil ?_
    intro _ hw'
    obtain ⟨⟨dq, osq⟩, hw''⟩ := hw'
    subst hw''
    go_wp2
    go_ret
    exact ⟨rfl, bthen' HBW.out (below_regrown W8 dq osq)⟩
  obtain ⟨hrt, hl, hah⟩ := hD
  subst hl
  obtain ⟨c, hc⟩ : ∃ c : Nat, (c : Int) = a1 := ⟨a1.toNat, by have := rt_parts hrt; omega⟩
  subst hc
  have hcr := fun ab cb W (h : Below w.heap.size w W) (hq : Rw .u8 W (.slice ab len2 cb) B) => cread_ok len2 c ab cb B a3 len3 cap3 z3 W hrt hBl hby (by rw [hBl]; exact hq) hA hma (hva.below h) hah
  have hrr := fun W (h : Below w.heap.size w W) => rread_ok len2 c a2 cap2 B a3 len3 cap3 z3 W hrt hBl hby (by rw [hBl]; exact hBr.below h) hA (by omega) (fun i hi => by have := hz2' i hi; omega) (hva.below h) hah
  unfold RdOk at hcr
  unfold RdOkR at hrr
  have HTK : Hid (∀ Y, TkY (dGs (fI (De.open B)) (dF (De.open B)) c) (kkG (rmI len2 c) (gL (fI (De.open B)) (dF (De.open B)) z3 c)) c Y → PkOk len2 c (gL (fI (De.open B)) (dF (De.open B)) z3 c) Y) := fun Y h => taken_ok hrt _ _ _ h
  have HON : Hid (∀ Y Y', TkY (dGs (fI (De.open B)) (dF (De.open B)) c) (kkG (rmI len2 c) (gL (fI (De.open B)) (dF (De.open B)) z3 c)) c Y → TkY (dGs (fI (De.open B)) (dF (De.open B)) c) (kkG (rmI len2 c) (gL (fI (De.open B)) (dF (De.open B)) z3 c)) c Y' → Y = Y') := fun Y Y' h h' => h.only h'
  generalize gL (fI (De.open B)) (dF (De.open B)) z3 c = G at *
  generalize (fun Y => TkY (dGs (fI (De.open B)) (dF (De.open B)) c) (kkG (rmI len2 c) G) c Y) = TK at *
  generalize fI (De.open B) = intra at *
  have hN := rt_parts hrt
  clear hrt hah hva hma hA hby hBl hz1 hz2'
  · go_enter Tryz.func4, Tryz.ntmps4
    go_wp2_with (first | (go_at_call 12; refine (hwd _ (Below.refl _ _)).mono ?_; rintro e w9 ⟨rfl, h9⟩; have h9 := h9.symm; subst h9) | (at_builtin; refine wpList_append_rw rfl _ _ _ rfl w.heap.size 5 i0 (.int .u8 0) 1 Tryz.underlying28 hi hz0 hz1 hz2 rfl .u8 _ 0 [] rfl (own_empty (Nat.le_refl _)) a2 cap2 B ?k1 ?k2 hcn ?k3 ?k4 ?k5 ?k6))
    case k1 => rw [HBL.out]; rfl
    case k2 => rw [HBL.out]; exact hBr.below (below1 _ _)
    case k3 => rw [HBL.out]; unfold maxLen; omega
    case k4 => rw [HBL.out]; omega
    case k5 => simp
    intro v5 w5 hown5 hgrow5
    have hb5 : Below w.heap.size w w5 := (below1 w (.cells #[] 5)).grown hgrow5 (by simp) (fun k hk => by simp [Value.ownBlock] at hk; omega)
    obtain ⟨a5, c5, rfl, hr5⟩ := copied (w := w5) (base := w.heap.size) (n := len2) (e := 5) (v := v5) (B := B) (by rw [HBL.out] at hown5; simpa using hown5)
    clear hown5 hgrow5
    have hcr5 := hcr _ _ _ hb5 hr5
    go_wp2_with (go_at_call 13; refine hcr5.mono ?_; rintro e w6 ⟨gG, gY, Y, rfl, hgg, htk, hyy, hb6⟩)
    have hx6 := below1 w6 (.cells #[.bool intra, .slice (some ⟨gG, 0, none⟩) c c, .slice (some ⟨gY, 0, none⟩) c c] 25)
    have hBp := B3.new w6 (.bool intra) (.slice (some ⟨gG, 0, none⟩) c c) (.slice (some ⟨gY, 0, none⟩) c c) 25
    have hbw6 := bthen' (bthen' hb5 hb6) hx6
    have hgg6 := hgg.below hx6
    have hyy6 := hyy.below hx6
    generalize w6.alloc (.cells #[.bool intra, .slice (some ⟨gG, 0, none⟩) c c, .slice (some ⟨gY, 0, none⟩) c c] 25) = W6 at *
    generalize w6.heap.size = bp at *
    have hrr6 := hrr _ hbw6
    clear hcr hcr5 hrr hr5 hb5 hb6 hx6 hBr hwd hcn HBL hgg hyy
    go_upto_region 5 with (go_at_call 14; refine hrr6.mono ?_; rintro e w7 ⟨vG, vY, Y', rfl, hgg', htk', hyy', hb7⟩; obtain ⟨qa, qc, rfl, _⟩ := id hgg'; obtain ⟨qb, qd, rfl, _⟩ := id hyy')
    have hYY := HON.out Y Y' htk htk'
    subst hYY
    have HFEW := hid (few_of (HTK.out Y htk))
    have hx7 := below1 w7 (.cells #[.bool intra, .slice qa G.length qc, .slice qb Y.length qd] 33)
    have hBq := B3.new w7 (.bool intra) (.slice qa G.length qc) (.slice qb Y.length qd) 33
    have hBp8 := (hBp.below hb7).below hx7
    have HBW := hid (bthen' (bthen' hbw6 hb7) hx7)
    have hg1 := (hgg6.below hb7).below hx7
    have hy1 := (hyy6.below hb7).below hx7
    have hg2 := hgg'.below hx7
    have hy2 := hyy'.below hx7
    generalize w7.alloc (.cells #[.bool intra, .slice qa G.length qc, .slice qb Y.length qd] 33) = W8 at *
    generalize w7.heap.size = bq at *
    have E0 := cellQ hBp8.c0
    have E1 := cellQ hBp8.c1
    have E2 := cellQ hBp8.c2
    have D0 := cellQ hBq.c0
    have D1 := cellQ hBq.c1
    have D2 := cellQ hBq.c2
    have H1 := callQ (w := W8) (fun w' _ => as_any intra (.slice (some ⟨gG, 0, none⟩) c c) (.slice (some ⟨gY, 0, none⟩) c c) ⟨_, _, _, rfl⟩ ⟨_, _, _, rfl⟩ w')
    have H3 := callQ (w := W8) (fun w' h => sameP_yes intra _ _ _ _ G Y w' (hg1.below h) (hg2.below h) (hy1.below h) (hy2.below h) HFEW.out)
    have H4 := callQ (w := W8) (fun w' _ => knows_any w')
    clear hrr6 hb7 hx7 hBp hBp8 hBq hbw6 hg1 hg2 hy1 hy2 hgg' hyy' htk htk' HTK HON HFEW hgg6 hyy6
    go_wp2
    refine wp_region_quiet_below (by kernel_rfl) (by kernel_rfl) ?_
    repeat (go_big_quiet_step (first | (go_at_call 9; exact H1 _ _) | (go_at_call 15; exact H3 _ _) | (go_at_call 6; exact H4 _ _)))
    refine wpQuiet_nil ?_
    intro _ hw'
    obtain ⟨⟨dq, osq⟩, hw''⟩ := hw'
    subst hw''
    go_wp2
    go_ret
    exact ⟨rfl, bthen' HBW.out (below_regrown W8 dq osq)⟩

set_option maxRecDepth 100000 in
theorem lifted (os : Os) (started : os.Started) (H : Type) (enc : TypeId × Value → H) :
    ReturnsInHanded {} Tryz.checked os 4 .any (Rows.packReadsSpec.pre6 enc Tryz.prog Tryz.f4 Rows.packReadsRow.domain false) (Rows.packReadsSpec.post enc Tryz.prog Tryz.f4 false true false false) := by
  refine returnsInHanded_of_change (C := Tryz.checked) own started (by kernel_rfl) Tryz.func4
    (ChangeSpec.witness6 (enc := enc) (C := Tryz.checked) false ⟨#[], #[.int .i64 0, .int .i64 0, .slice none 0 0, .slice none 0 0], []⟩ 8 (by kernel_rfl) (by kernel_rfl) (by kernel_rfl) (by kernel_rfl)) ?_
  intro W base args ds gs before hval0 hW hcnd _
  have hval : ∀ (j : Nat) t v, Tryz.f4.params[j]? = some t → args[j]? = some v → Value.okWide Tryz.prog W .any base t v := hval0
  have hW' := hW
  obtain ⟨p, q, hA0, hV, rfl, hfz, hnd⟩ := hW
  have hA : DataW.TrodAll enc Tryz.prog W 0 (fun _ => true) true Tryz.f4.params.toList args.toList ds p := hA0
  rw [Tryz.params4] at hA hval
  obtain ⟨v0, vs0, d0, ds0, p0, q0, hargs, rfl, rfl, h0, r0⟩ := trodAll_cons hA
  obtain ⟨v1, vs1, d1, ds1, p1, q1, rfl, rfl, rfl, h1, r1⟩ := trodAll_cons r0
  obtain ⟨v2, vs2, d2, ds2, p2, q2, rfl, rfl, rfl, h2, r2⟩ := trodAll_cons r1
  obtain ⟨v3, vs3, d3, ds3, p3, q3, rfl, rfl, rfl, h3, r3⟩ := trodAll_cons r2
  obtain ⟨rfl, rfl, rfl⟩ := trodAll_nil r3
  obtain rfl : args = #[v0, v1, v2, v3] := by cases args; simp_all
  obtain ⟨rfl, rfl⟩ := trodVars_none hV
  obtain ⟨a0, rfl, rfl, rfl, w0⟩ := open_int Tryz.underlying3 (hval 0 3 v0 rfl rfl) h0
  obtain ⟨a1, rfl, rfl, rfl, w1⟩ := open_int Tryz.underlying3 (hval 1 3 v1 rfl rfl) h1
  have k2 := h2
  have lt2 : ∀ x ∈ p2, x.block < W.heap.size := by obtain ⟨m, hm⟩ := k2; exact DataW.trod_lt m _ _ _ hm
  obtain ⟨a2, len2, cap2, rfl⟩ := okWide_slice Tryz.underlying28 (hval 2 28 v2 rfl rfl)
  obtain ⟨z2, w2⟩ : ∃ zs, IsRow .u8 W a2 len2 cap2 zs := by
    obtain ⟨fuel, hf⟩ := h2
    obtain ⟨a', l', c', zs, he, hr⟩ := ints_of_trod Tryz.underlying28 Tryz.underlying5 (by kernel_rfl) (show DataW.trod enc Tryz.prog W 0 (fun _ => true) true fuel 28 [.slice a2 len2 cap2] = _ from hf)
    simp only [Value.slice.injEq] at he
    obtain ⟨rfl, rfl, rfl⟩ := he
    exact ⟨zs, hr⟩
  have k3 := h3
  have lt3 : ∀ x ∈ p3, x.block < W.heap.size := by obtain ⟨m, hm⟩ := k3; exact DataW.trod_lt m _ _ _ hm
  obtain ⟨a3, len3, cap3, rfl⟩ := okWide_slice Tryz.underlying22 (hval 3 22 v3 rfl rfl)
  obtain ⟨z3, w3⟩ : ∃ zs, IsGrid W a3 len3 cap3 zs := by
    obtain ⟨fuel, hf⟩ := h3
    exact grid_of_trod Tryz.underlying22 Tryz.underlying45 Tryz.underlying3 (by kernel_rfl) (by kernel_rfl) (show DataW.trod enc Tryz.prog W 0 (fun _ => true) true fuel 22 [.slice a3 len3 cap3] = _ from hf)
  clear hA0 hval0
  refine (walk a0 a1 a2 len2 cap2 z2 a3 len3 cap3 z3 W w0 w1 w2 w3).mono fun e W' ⟨he, bel⟩ => ?_
  subst he
  exact ⟨_, rfl, _, _, _, [], _, [], hW', trodAll_mk1 (shut_bool Tryz.underlying4 _), (trodAll_cons_mk (shut_int Tryz.underlying3 w0) (trodAll_cons_mk (shut_int Tryz.underlying3 w1) (trodAll_cons_mk (Below.trod laidOut (by kernel_rfl) (of_decide_eq_true (by kernel_rfl)) k2 bel lt2) (trodAll_cons_mk (Below.trod laidOut (by kernel_rfl) (of_decide_eq_true (by kernel_rfl)) k3 bel lt3) trodAll_mk0)))), rfl, bel.frame _, fun h => by cases h⟩

theorem over : Rows.packReadsRow.holds Tryz.pinned (OpenSpec.ofChange Rows.packReadsSpec) :=
  OpenClaim.holds_of_wide 4 Tryz.f4 rfl rfl rfl rfl rfl rfl rfl ⟨rfl, rfl, rfl, rfl, rfl⟩ rfl rfl rfl rfl rfl (by kernel_rfl) Tryz.func4 (by kernel_rfl)
    (of_decide_eq_true (by kernel_rfl)) (by unfold Func.isWrapper; first | (rw [if_pos (by decide +kernel)]; kernel_rfl) | (rw [if_neg (by decide +kernel)]; exact ⟨rfl, rfl⟩))
    (fun os started H enc _ => lifted os started H enc)

theorem proved : Rows.PackReadsSaid := over
#print axioms proved
end Go.Proofs.YtidppkbphkcmeaaGreat.packReads
