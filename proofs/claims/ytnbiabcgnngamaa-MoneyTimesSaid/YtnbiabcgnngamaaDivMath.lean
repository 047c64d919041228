import Derived.WalkKit
/- Long division by two halves: plain numbers. -/
namespace Go.Proofs.DivMath
set_option linter.unusedVariables false
section
variable {y1 y0 U u q r : Int}
/-- what the quotient's size means -/
theorem le_quo {T Y q : Int} (hY : 0 < Y) : q ≤ T / Y ↔ q * Y ≤ T := Int.le_ediv_iff_mul_le hY
theorem prod_split (q y1 y0 : Int) : q * (y1 * 4294967296 + y0) = q * y1 * 4294967296 + q * y0 := by rw [Int.mul_add, ← Int.mul_assoc]
theorem exit_ok (hY : 0 < y1 * 4294967296 + y0) (hs : q * y1 + r = U) (hq : (U * 4294967296 + u) / (y1 * 4294967296 + y0) ≤ q) (ht : q * y0 ≤ 4294967296 * r + u) :
    q = (U * 4294967296 + u) / (y1 * 4294967296 + y0) := by
  have : q ≤ (U * 4294967296 + u) / (y1 * 4294967296 + y0) := by
    rw [le_quo hY, prod_split]
    omega
  omega
theorem step_ok (hY : 0 < y1 * 4294967296 + y0) (hu : 0 ≤ u ∧ u < 4294967296) (hU : U < y1 * 4294967296 + y0) (hs : q * y1 + r = U) (hq : (U * 4294967296 + u) / (y1 * 4294967296 + y0) ≤ q)
    (ht : 4294967296 ≤ q ∨ 4294967296 * r + u < q * y0) : (U * 4294967296 + u) / (y1 * 4294967296 + y0) ≤ q - 1 := by
  rcases ht with h | h
  · have : (U * 4294967296 + u) / (y1 * 4294967296 + y0) < 4294967296 := by
      rw [Int.ediv_lt_iff_lt_mul hY]
      omega
    omega
  · have : (U * 4294967296 + u) / (y1 * 4294967296 + y0) < q := by
      rw [Int.ediv_lt_iff_lt_mul hY, prod_split]
      omega
    omega
theorem break_ok (hY : 0 < y1 * 4294967296 + y0) (hy0 : 0 ≤ y0 ∧ y0 < 4294967296) (hu : 0 ≤ u) (hs : q * y1 + r = U) (hq : (U * 4294967296 + u) / (y1 * 4294967296 + y0) ≤ q) (hB : q ≤ 4294967296) (hr : 4294967296 ≤ r) :
    q = (U * 4294967296 + u) / (y1 * 4294967296 + y0) := by
  refine exit_ok hY hs hq ?_
  have : q * y0 ≤ 4294967296 * y0 := Int.mul_le_mul_of_nonneg_right hB hy0.1
  omega
theorem init_ok (hy1 : 2147483648 ≤ y1) (hy0 : 0 ≤ y0 ∧ y0 < 4294967296) (hu : 0 ≤ u ∧ u < 4294967296) (hU : 0 ≤ U ∧ U < y1 * 4294967296 + y0) :
    0 ≤ U / y1 ∧ U / y1 ≤ 4294967297 ∧ U / y1 * y1 + U % y1 = U ∧ (0 ≤ U % y1 ∧ U % y1 < y1) ∧ (U * 4294967296 + u) / (y1 * 4294967296 + y0) ≤ U / y1 := by
  have hp : 0 < y1 := by omega
  have hY : 0 < y1 * 4294967296 + y0 := by omega
  refine ⟨Int.ediv_nonneg hU.1 (by omega), ?_, by rw [Int.mul_comm]; exact Int.mul_ediv_add_emod U y1, ⟨Int.emod_nonneg _ (by omega), Int.emod_lt_of_pos _ hp⟩, ?_⟩
  · have : U / y1 < 4294967298 := by
      rw [Int.ediv_lt_iff_lt_mul hp]
      omega
    omega
  · rw [le_quo hp]
    have h0 : 0 ≤ (U * 4294967296 + u) / (y1 * 4294967296 + y0) := Int.ediv_nonneg (by omega) (by omega)
    have h1 := Int.ediv_mul_le (U * 4294967296 + u) (Int.ne_of_gt hY)
    generalize (U * 4294967296 + u) / (y1 * 4294967296 + y0) = Q at *
    rw [prod_split] at h1
    have h2 : 0 ≤ Q * y0 := Int.mul_nonneg h0 hy0.1
    omega
/-- bounds of the products -/
theorem prod_bd (hq : 0 ≤ q ∧ q ≤ 4294967297) (hy0 : 0 ≤ y0 ∧ y0 < 4294967296) : 0 ≤ q * y0 ∧ q * y0 ≤ 18446744073709551615 := by
  have h1 : q * y0 ≤ 4294967297 * y0 := Int.mul_le_mul_of_nonneg_right hq.2 hy0.1
  have h0 : 0 ≤ q * y0 := Int.mul_nonneg hq.1 hy0.1
  omega
end
/-- both halves -/
theorem quo_halves (U u1 u0 Y : Int) (hY : 0 < Y) : (U * 18446744073709551616 + (u1 * 4294967296 + u0)) / Y =
    (U * 4294967296 + u1) / Y * 4294967296 + ((U * 4294967296 + u1) % Y * 4294967296 + u0) / Y := by
  have h := Int.mul_ediv_add_emod (U * 4294967296 + u1) Y
  have e : U * 18446744073709551616 + (u1 * 4294967296 + u0) = ((U * 4294967296 + u1) % Y * 4294967296 + u0) + ((U * 4294967296 + u1) / Y * 4294967296) * Y := by
    generalize (U * 4294967296 + u1) % Y = R at *
    generalize (U * 4294967296 + u1) / Y = Q at *
    rw [Int.mul_assoc Q, Int.mul_comm 4294967296 Y, ← Int.mul_assoc Q, Int.mul_comm Q Y]
    omega
  rw [e, Int.add_mul_ediv_right _ _ (Int.ne_of_gt hY), Int.add_comm]
theorem p2 (k : Nat) : (0 : Int) < 2 ^ k := Int.pow_pos (by omega)
theorem p2_add (a b : Nat) : (2 : Int) ^ (a + b) = 2 ^ a * 2 ^ b := Int.pow_add ..
theorem p2_64 : (2 : Int) ^ 64 = 18446744073709551616 := by decide
/-- both shifted up alike -/
theorem shifted (hi lo y : Int) (s : Nat) (hs : s ≤ 63) (hlo : 0 ≤ lo ∧ lo ≤ 18446744073709551615) :
    (hi * 2 ^ s + lo / 2 ^ (64 - s)) * 18446744073709551616 + lo * 2 ^ s % 18446744073709551616 = (hi * 18446744073709551616 + lo) * 2 ^ s := by
  have e64 : (18446744073709551616 : Int) = 2 ^ (64 - s) * 2 ^ s := by rw [← p2_add, Nat.sub_add_cancel (by omega)]; decide
  have h1 : lo * 2 ^ s / 18446744073709551616 = lo / 2 ^ (64 - s) := by
    rw [e64, Int.mul_ediv_mul_of_pos_left _ _ (p2 s)]
  have h2 := Int.mul_ediv_add_emod (lo * 2 ^ s) 18446744073709551616
  rw [h1] at h2
  rw [Int.add_mul, Int.add_mul, Int.mul_assoc hi, Int.mul_comm (2 ^ s) 18446744073709551616, ← Int.mul_assoc hi]
  generalize lo * 2 ^ s = X at *
  generalize hi * 18446744073709551616 * 2 ^ s = Z at *
  omega
end Go.Proofs.DivMath
