/- Contracts of the long products, by the program and by the document. -/
import Derived.Test.YtpbnigancbpnkaaWc
import Derived.Laws.MathBits
namespace Go.Proofs.Ytpbnigancbpnkaa
open Go.RowKit
set_option linter.unusedVariables false
set_option linter.unusedSimpArgs false

theorem halves_any (n : Nat) (h : n < 2 ^ 64) (w : World) : Calls Try.prog 24 #[.int .u64 n] w fun e w' => e = .returned (.agg #[.int .u64 ((n : Int) % 4294967296), .int .u64 ((n : Int) / 4294967296)]) ∧ Below w.heap.size w w' := by
  have ha := and_low32 (n : Int) (by omega) (by omega)
  go_enter Try.func24, Try.ntmps24
  go_wp2
  exact bodyPost_ret (v := .agg #[.int .u64 ((n : Int) % 4294967296), .int .u64 ((n : Int) / 4294967296)]) (by simp [results, Try.results24, go_sem]) rfl ⟨rfl, below1 _ _⟩

/-- An upper half and a lower one, joined. -/
theorem join_halves (X Y : Int) (X0 : 0 ≤ X) (Y0 : 0 ≤ Y) (Y1 : Y < 4294967296) : bits .or .u64 (IntKind.u64.wrap (X * 4294967296)) Y = X % 4294967296 * 4294967296 + Y := by
  have e : IntKind.u64.wrap (X * 4294967296) = (((X % 4294967296).toNat * 2 ^ 32 : Nat) : Int) := by
    rw [IntKind.wrap_u64]; omega
  have h := or_high (X % 4294967296).toNat Y.toNat 32 (by omega) (by omega) (by omega)
  rw [e]
  have e2 : (Y.toNat : Int) = Y := by omega
  rw [e2] at h
  rw [h]
  omega

theorem product_core (a0 a1 b0 b1 A B C D : Int) (hA : a1 * b1 = A) (hB : a1 * b0 = B) (hC : a0 * b0 = C) (hD : a0 * b1 = D) (A0 : 0 ≤ A) (A1 : A ≤ 18446744065119617025) (B0 : 0 ≤ B) (B1 : B ≤ 18446744065119617025) (C0 : 0 ≤ C) (C1 : C ≤ 18446744065119617025) (D0 : 0 ≤ D) (D1 : D ≤ 18446744065119617025) (w : World) :
    Calls Try.prog 23 #[.agg #[.int .u64 a0, .int .u64 a1], .agg #[.int .u64 b0, .int .u64 b1]] w fun e w' => e = .returned (.agg #[.int .u64 ((A * 18446744073709551616 + (B + D) * 4294967296 + C) % 18446744073709551616), .int .u64 ((A * 18446744073709551616 + (B + D) * 4294967296 + C) / 18446744073709551616)]) ∧ Below w.heap.size w w' := by
  have m1 := and_low32 C (by omega) (by omega)
  have m2 := and_low32 (B + C / 4294967296) (by omega) (by omega)
  go_enter Try.func23, Try.ntmps23
  go_wp2
  refine bodyPost_ret (v := .agg #[.int .u64 _, .int .u64 _]) (by simp [results, Try.results23, go_sem]; exact ⟨rfl, rfl⟩) rfl ⟨?_, below3 _ _ _ _⟩
  have j := join_halves (D + (B + C / 4294967296) % 4294967296) (C % 4294967296) (by omega) (by omega) (by omega)
  rw [j]
  have e1 : (D + (B + C / 4294967296) % 4294967296) % 4294967296 * 4294967296 + C % 4294967296 = (A * 18446744073709551616 + (B + D) * 4294967296 + C) % 18446744073709551616 := by omega
  have e2 : A + (B + C / 4294967296) / 4294967296 + (D + (B + C / 4294967296) % 4294967296) / 4294967296 = (A * 18446744073709551616 + (B + D) * 4294967296 + C) / 18446744073709551616 := by omega
  rw [e1, e2]

theorem product_any (x y : Nat) (hx : x < 2 ^ 64) (hy : y < 2 ^ 64) (w : World) :
    Calls Try.prog 23 #[.agg #[.int .u64 ((x : Int) % 4294967296), .int .u64 ((x : Int) / 4294967296)], .agg #[.int .u64 ((y : Int) % 4294967296), .int .u64 ((y : Int) / 4294967296)]] w fun e w' => e = .returned (.agg #[.int .u64 ((x : Int) * y % 18446744073709551616), .int .u64 ((x : Int) * y / 18446744073709551616)]) ∧ Below w.heap.size w w' := by
  have ex : (x : Int) = (x : Int) / 4294967296 * 4294967296 + (x : Int) % 4294967296 := by omega
  have ey : (y : Int) = (y : Int) / 4294967296 * 4294967296 + (y : Int) % 4294967296 := by omega
  have e := split_mul ((x : Int) / 4294967296) ((x : Int) % 4294967296) ((y : Int) / 4294967296) ((y : Int) % 4294967296)
  rw [← ex, ← ey] at e
  rw [e]
  have p1 := prod_bound ((x : Int) / 4294967296) ((y : Int) / 4294967296) (by omega) (by omega) (by omega) (by omega)
  have p2 := prod_bound ((x : Int) / 4294967296) ((y : Int) % 4294967296) (by omega) (by omega) (by omega) (by omega)
  have p3 := prod_bound ((x : Int) % 4294967296) ((y : Int) % 4294967296) (by omega) (by omega) (by omega) (by omega)
  have p4 := prod_bound ((x : Int) % 4294967296) ((y : Int) / 4294967296) (by omega) (by omega) (by omega) (by omega)
  exact product_core _ _ _ _ _ _ _ _ rfl rfl rfl rfl p1.1 p1.2 p2.1 p2.2 p3.1 p3.2 p4.1 p4.2 w

theorem mulP_any (x y : Nat) (hx : x < 2 ^ 64) (hy : y < 2 ^ 64) (w : World) :
    Calls Try.prog 14 #[.int .u64 x, .int .u64 y] w fun e w' => e = .returned (.tuple #[.int .u64 ((x : Int) * y / 18446744073709551616), .int .u64 ((x : Int) * y % 18446744073709551616)]) ∧ Below w.heap.size w w' := by
  have hp := fun w => product_any x y hx hy w
  have h1 := fun w => halves_any x hx w
  have h2 := fun w => halves_any y hy w
  generalize (x : Int) * y % 18446744073709551616 = L at *
  generalize (x : Int) * y / 18446744073709551616 = U at *
  generalize (x : Int) % 4294967296 = x0 at *
  generalize (x : Int) / 4294967296 = x1 at *
  generalize (y : Int) % 4294967296 = y0 at *
  generalize (y : Int) / 4294967296 = y1 at *
  go_enter Try.func14, Try.ntmps14
  go_wp2_with (first | (go_at_call_of 24 (Value.int .u64 (x : Int)); refine (h1 _).mono ?_; rintro e w1 ⟨rfl, b1⟩) | (go_at_call_of 24 (Value.int .u64 (y : Int)); refine (h2 _).mono ?_; rintro e w2 ⟨rfl, b2⟩) | (go_at_call 23; refine (hp _).mono ?_; rintro e w3 ⟨rfl, b3⟩))
  have hB := (bthen (bthen b1 b2 b1.size) b3 (Nat.le_trans b1.size b2.size)).alloc (Nat.le_trans b1.size (Nat.le_trans b2.size b3.size)) (.cells #[.int .u64 L, .int .u64 U] 40)
  clear b1 b2 b3 hp h1 h2
  go_region
  go_wp2
  go_ret2
  exact ⟨rfl, hB.drew⟩
end Go.Proofs.Ytpbnigancbpnkaa
