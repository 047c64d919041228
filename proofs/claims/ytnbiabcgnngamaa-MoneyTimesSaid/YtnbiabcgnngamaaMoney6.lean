import Derived.Test.YtnbiabcgnngamaaMoney5
/- The document's answer for a share: by long division. -/
namespace Go.Proofs.Ytnbiabcgnngamaa.Money
open Go.ChangeShapes Go.WideShapes Go.ChangeAt Go.RowKit Go.IntWalk Go.Proofs.Mem Go.Proofs.DivMath
set_option linter.unusedVariables false

/-- the two rests together carry, or not -/
def carry (r s b : Int) : Int := if b ≤ r + s then 1 else 0
theorem carry_bd (r s b : Int) : 0 ≤ carry r s b ∧ carry r s b ≤ 1 := by unfold carry; split <;> omega
theorem ret3 {a b x y : Int} {c z : Bool} (h1 : a = x) (h2 : b = y) (h3 : c = z) : Ending.returned (.tuple #[.int .u64 a, .int .u64 b, .bool c]) = .returned (.tuple #[.int .u64 x, .int .u64 y, .bool z]) := by rw [h1, h2, h3]
set_option maxHeartbeats 2000000 in
theorem plus_any (q r p s b : Int) (hq : 0 ≤ q ∧ q ≤ 18446744073709551615) (hr : 0 ≤ r ∧ r < b) (hp : 0 ≤ p ∧ p ≤ 18446744073709551615) (hs : 0 ≤ s ∧ s < b) (hb : b ≤ 18446744073709551615) (w : World) :
    Calls Try.prog 24 #[.int .u64 q, .int .u64 r, .int .u64 p, .int .u64 s, .int .u64 b] w fun e w' =>
      e = .returned (.tuple #[.int .u64 ((q + p + carry r s b) % 18446744073709551616), .int .u64 (r + s - carry r s b * b), .bool (decide (18446744073709551616 ≤ q + p + carry r s b))]) ∧ w = w' := by
  obtain ⟨S, hS, hSe⟩ : ∃ S, IntKind.u64.wrap (q + p) = S ∧ ((q + p < 18446744073709551616 ∧ S = q + p) ∨ (18446744073709551616 ≤ q + p ∧ S = q + p - 18446744073709551616)) := ⟨_, rfl, by rw [IntKind.wrap_u64]; omega⟩
  obtain ⟨R, hR, hRe⟩ : ∃ R, IntKind.u64.wrap (r + s) = R ∧ ((r + s < 18446744073709551616 ∧ R = r + s) ∨ (18446744073709551616 ≤ r + s ∧ R = r + s - 18446744073709551616)) := ⟨_, rfl, by rw [IntKind.wrap_u64]; omega⟩
  have hSb : 0 ≤ S ∧ S ≤ 18446744073709551615 := by omega
  have hRb : 0 ≤ R ∧ R ≤ 18446744073709551615 := by omega
  by_cases hc : b ≤ r + s
  · have e : carry r s b = 1 := by unfold carry; rw [if_pos hc]
    rw [e, Int.one_mul]
    obtain ⟨R2, hR2, hR2e⟩ : ∃ R2, IntKind.u64.wrap (R - b) = R2 ∧ R2 = r + s - b := ⟨_, rfl, by rw [IntKind.wrap_u64]; omega⟩
    obtain ⟨S2, hS2, hS2e, hS2b⟩ : ∃ S2, IntKind.u64.wrap (S + 1) = S2 ∧ S2 = (q + p + 1) % 18446744073709551616 ∧ (0 ≤ S2 ∧ S2 ≤ 18446744073709551615) := ⟨_, rfl, by rw [IntKind.wrap_u64]; omega, by rw [IntKind.wrap_u64]; omega⟩
    have HR2 := Lib.hid hR2e
    have HS2 := Lib.hid hS2e
    clear hR2e hS2e e
    have HSE := Lib.hid hSe
    have hT : ¬ R < r → b ≤ R := by omega
    clear hRe hSe
    by_cases hA : R < r
    · by_cases hov : S < q
      · go_enter Try.func24, Try.ntmps24
        go_wp2
        go_ret3
        exact ⟨ret3 HS2.out HR2.out (by have := HSE.out; exact (decide_eq_true (by omega)).symm), rfl⟩
      · by_cases hz : S2 = 0
        · have hzf : (S2 == 0) = true := by simpa using hz
          have HZ := Lib.hid hz
          clear hz
          go_enter Try.func24, Try.ntmps24
          go_wp2
          go_ret3
          exact ⟨ret3 (by first | exact HS2.out | (rw [← HS2.out, HZ.out])) HR2.out (by have := HSE.out; have := HS2.out; have := HZ.out; exact (decide_eq_true (by omega)).symm), rfl⟩
        · have hzf : (S2 == 0) = false := by simpa using hz
          have HZ := Lib.hid hz
          clear hz
          go_enter Try.func24, Try.ntmps24
          go_wp2
          go_ret3
          exact ⟨ret3 HS2.out HR2.out (by have := HSE.out; have := HS2.out; have := HZ.out; exact (decide_eq_false (by omega)).symm), rfl⟩
    · have hB := hT hA
      by_cases hov : S < q
      · go_enter Try.func24, Try.ntmps24
        go_wp2
        go_ret3
        exact ⟨ret3 HS2.out HR2.out (by have := HSE.out; exact (decide_eq_true (by omega)).symm), rfl⟩
      · by_cases hz : S2 = 0
        · have hzf : (S2 == 0) = true := by simpa using hz
          have HZ := Lib.hid hz
          clear hz
          go_enter Try.func24, Try.ntmps24
          go_wp2
          go_ret3
          exact ⟨ret3 (by first | exact HS2.out | (rw [← HS2.out, HZ.out])) HR2.out (by have := HSE.out; have := HS2.out; have := HZ.out; exact (decide_eq_true (by omega)).symm), rfl⟩
        · have hzf : (S2 == 0) = false := by simpa using hz
          have HZ := Lib.hid hz
          clear hz
          go_enter Try.func24, Try.ntmps24
          go_wp2
          go_ret3
          exact ⟨ret3 HS2.out HR2.out (by have := HSE.out; have := HS2.out; have := HZ.out; exact (decide_eq_false (by omega)).symm), rfl⟩
  · have e : carry r s b = 0 := by unfold carry; rw [if_neg hc]
    rw [e, Int.zero_mul, Int.add_zero, Int.sub_zero]
    have hA : ¬ R < r := by omega
    have hB : ¬ b ≤ R := by omega
    have HSE := Lib.hid hSe
    have HRE := Lib.hid hRe
    clear hRe hSe e
    by_cases hov : S < q
    · go_enter Try.func24, Try.ntmps24
      go_wp2
      go_ret3
      exact ⟨ret3 (by have := HSE.out; show S = _; omega) (by have := HRE.out; show R = _; omega) (by have := HSE.out; exact (decide_eq_true (by omega)).symm), rfl⟩
    · go_enter Try.func24, Try.ntmps24
      go_wp2
      go_ret3
      exact ⟨ret3 (by have := HSE.out; show S = _; omega) (by have := HRE.out; show R = _; omega) (by have := HSE.out; exact (decide_eq_false (by omega)).symm), rfl⟩

/-- what the document's loop holds of a product X: its quotient, modulo what 64 bits hold; its rest; whether it was too great -/
theorem double (X b : Int) (hX : 0 ≤ X) (hb : 0 < b) : (2 * X) / b = 2 * (X / b) + carry (X % b) (X % b) b ∧ (2 * X) % b = X % b + X % b - carry (X % b) (X % b) b * b := by
  have h0 := Int.mul_ediv_add_emod X b
  have r0 := Int.emod_nonneg X (Int.ne_of_gt hb)
  have r1 := Int.emod_lt_of_pos X hb
  generalize X / b = Q at *
  generalize X % b = R at *
  have key : ∀ c : Int, 2 * X = (R + R - c * b) + (2 * Q + c) * b := by
    intro c
    rw [Int.add_mul, Int.mul_assoc, Int.mul_comm Q b]
    omega
  unfold carry
  split
  · have := key 1
    rw [this, Int.add_mul_ediv_right _ _ (Int.ne_of_gt hb), Int.add_mul_emod_self_right, Int.ediv_eq_zero_of_lt (by omega) (by omega), Int.emod_eq_of_lt (by omega) (by omega)]
    exact ⟨by omega, rfl⟩
  · have := key 0
    rw [this, Int.add_mul_ediv_right _ _ (Int.ne_of_gt hb), Int.add_mul_emod_self_right, Int.ediv_eq_zero_of_lt (by omega) (by omega), Int.emod_eq_of_lt (by omega) (by omega)]
    exact ⟨by omega, rfl⟩
theorem plus_a (X a b : Int) (hX : 0 ≤ X) (ha : 0 ≤ a) (hb : 0 < b) : (X + a) / b = X / b + a / b + carry (X % b) (a % b) b ∧ (X + a) % b = X % b + a % b - carry (X % b) (a % b) b * b := by
  have h0 := Int.mul_ediv_add_emod X b
  have h1 := Int.mul_ediv_add_emod a b
  have r0 := Int.emod_nonneg X (Int.ne_of_gt hb)
  have r1 := Int.emod_lt_of_pos X hb
  have s0 := Int.emod_nonneg a (Int.ne_of_gt hb)
  have s1 := Int.emod_lt_of_pos a hb
  generalize X / b = Q at *
  generalize X % b = R at *
  generalize a / b = P at *
  generalize a % b = S at *
  have key : ∀ c : Int, X + a = (R + S - c * b) + (Q + P + c) * b := by
    intro c
    rw [Int.add_mul, Int.add_mul, Int.mul_comm Q b, Int.mul_comm P b]
    omega
  unfold carry
  split
  · have := key 1
    rw [this, Int.add_mul_ediv_right _ _ (Int.ne_of_gt hb), Int.add_mul_emod_self_right, Int.ediv_eq_zero_of_lt (by omega) (by omega), Int.emod_eq_of_lt (by omega) (by omega)]
    exact ⟨by omega, rfl⟩
  · have := key 0
    rw [this, Int.add_mul_ediv_right _ _ (Int.ne_of_gt hb), Int.add_mul_emod_self_right, Int.ediv_eq_zero_of_lt (by omega) (by omega), Int.emod_eq_of_lt (by omega) (by omega)]
    exact ⟨by omega, rfl⟩
end Go.Proofs.Ytnbiabcgnngamaa.Money
