import Derived.WalkKit
import Derived.Laws.BitsAllLaws
namespace Go.Proofs.NumMath
set_option linter.unusedVariables false
open Go.RowKit Go.IntWalk

def pw (k : Nat) : Int := if k < 64 then ((2 ^ k : Nat) : Int) else 0
theorem pw_lt (k : Nat) : 0 ≤ pw k ∧ pw k ≤ 9223372036854775808 := by
  unfold pw
  split
  · rename_i h
    have h2 : 2 ^ k ≤ 2 ^ 63 := Nat.pow_le_pow_right (by omega) (by omega)
    generalize 2 ^ k = x at *
    omega
  · omega
theorem pw_pos (k : Nat) (h : k < 64) : 0 < pw k := by
  unfold pw
  have h2 : 0 < 2 ^ k := Nat.pow_pos (by omega)
  rw [if_pos h]
  generalize 2 ^ k = x at *
  omega
theorem pw_zero (k : Nat) (h : 64 ≤ k) : pw k = 0 := by
  unfold pw; rw [if_neg (by omega)]
theorem pw_of (k : Nat) (h : k < 64) : pw k = 2 ^ k := by
  unfold pw; rw [if_pos h]; simp
theorem pw_succ (k : Nat) : (pw k + pw k) % 18446744073709551616 = pw (k + 1) := by
  unfold pw
  by_cases h : k + 1 < 64
  · rw [if_pos h, if_pos (by omega), Nat.pow_succ]
    have h2 : 2 ^ k ≤ 2 ^ 62 := Nat.pow_le_pow_right (by omega) (by omega)
    generalize 2 ^ k = x at *
    omega
  · rw [if_neg h]
    by_cases h2 : k < 64
    · have : k = 63 := by omega
      subst this; decide
    · rw [if_neg h2]; rfl
theorem wrap_u64 (x : Int) : IntKind.u64.wrap x = x % 18446744073709551616 := by
  simp [IntKind.wrap, IntKind.signed, IntKind.bits]
theorem p2 (k : Nat) : (0 : Int) < 2 ^ k := Int.pow_pos (by omega)
theorem p2_le {a b : Nat} (h : a ≤ b) : (2 : Int) ^ a ≤ 2 ^ b := by
  have := Nat.pow_le_pow_right (n := 2) (by omega) h
  have e : ∀ k : Nat, (2 : Int) ^ k = ((2 ^ k : Nat) : Int) := fun k => by simp
  rw [e, e]; omega
theorem p2_add (a b : Nat) : (2 : Int) ^ (a + b) = 2 ^ a * 2 ^ b := Int.pow_add ..

/-- the shift to the left, as the machine does it -/
theorem left_eq (n : Int) (b : Nat) : n * 2 ^ min b 64 % 18446744073709551616 = n * pw b % 18446744073709551616 := by
  by_cases h : b < 64
  · rw [pw_of b h, Nat.min_eq_left (by omega)]
  · rw [pw_zero b (by omega), Nat.min_eq_right (by omega), show (2 : Int) ^ 64 = 18446744073709551616 from by decide, Int.mul_zero, Int.mul_emod_left]; rfl

def rightS (n : Int) (b : Int) : Int := n / 2 ^ min b.toNat 64
theorem div_step (n : Int) (k : Nat) : n / 2 ^ k / 2 = n / 2 ^ (k + 1) := by
  rw [Int.ediv_ediv_of_nonneg (Int.le_of_lt (p2 k)), ← Int.pow_succ]
theorem div_zero (n : Int) (k : Nat) (h0 : 0 ≤ n) (h : n / 2 ^ k = 0) (j : Nat) (hj : k ≤ j) : n / 2 ^ j = 0 := by
  have h1 : n < 2 ^ k := by
    have := p2 k
    have h3 := Int.lt_mul_ediv_self_add (x := n) this
    rw [h] at h3; omega
  have h2 := p2_le hj
  exact Int.ediv_eq_zero_of_lt h0 (by omega)
theorem u64_div (n : Int) (h0 : 0 ≤ n) (h1 : n ≤ 18446744073709551615) : n / 2 ^ 64 = 0 :=
  Int.ediv_eq_zero_of_lt h0 (by have : (2 : Int) ^ 64 = 18446744073709551616 := by decide
                                omega)
theorem right_end (n b : Int) (k : Nat) (h0 : 0 ≤ n) (h1 : n ≤ 18446744073709551615) (hk : (k : Int) ≤ b) (hb : b ≤ k ∨ n / 2 ^ k = 0) : n / 2 ^ k = rightS n b := by
  unfold rightS
  by_cases h64 : k ≤ 64
  · rcases hb with h | h
    · have : b.toNat = k := by omega
      rw [this, Nat.min_eq_left h64]
    · rw [h, div_zero n k h0 h (min b.toNat 64) (by omega)]
  · have z := u64_div n h0 h1
    rw [div_zero n 64 h0 z k (by omega), Nat.min_eq_right (by omega), z]

theorem half_neg (v : Int) (h : v < 0) : -((-(v + 1)) / 2 + 1) = v / 2 := by omega
theorem div_one (n : Int) (k : Nat) (h : n / 2 ^ k = -1) (j : Nat) (hj : k ≤ j) : n / 2 ^ j = -1 := by
  obtain ⟨d, rfl⟩ : ∃ d, j = k + d := ⟨j - k, by omega⟩
  induction d with
  | zero => exact h
  | succ d ih => rw [← Nat.add_assoc, ← div_step, ih (by omega)]; decide
theorem div_nil (n : Int) (k : Nat) (h : n / 2 ^ k = 0) (j : Nat) (hj : k ≤ j) : n / 2 ^ j = 0 := by
  obtain ⟨d, rfl⟩ : ∃ d, j = k + d := ⟨j - k, by omega⟩
  induction d with
  | zero => exact h
  | succ d ih => rw [← Nat.add_assoc, ← div_step, ih (by omega)]; decide
theorem i64_div (n : Int) (h0 : -9223372036854775808 ≤ n) (h1 : n ≤ 9223372036854775807) : n / 2 ^ 64 = 0 ∨ n / 2 ^ 64 = -1 := by
  have : (2 : Int) ^ 64 = 18446744073709551616 := by decide
  rw [this]; omega
theorem arith_end (n b : Int) (k : Nat) (h0 : -9223372036854775808 ≤ n) (h1 : n ≤ 9223372036854775807) (hk : (k : Int) ≤ b) (hb : b ≤ k ∨ n / 2 ^ k = 0 ∨ n / 2 ^ k = -1) : n / 2 ^ k = rightS n b := by
  unfold rightS
  by_cases h64 : k ≤ 64
  · rcases hb with h | h | h
    · have : b.toNat = k := by omega
      rw [this, Nat.min_eq_left h64]
    · rw [h, div_nil n k h (min b.toNat 64) (by omega)]
    · rw [h, div_one n k h (min b.toNat 64) (by omega)]
  · rw [Nat.min_eq_right (by omega)]
    rcases i64_div n h0 h1 with z | z
    · rw [z, div_nil n 64 z k (by omega)]
    · rw [z, div_one n 64 z k (by omega)]

/-- so many low bits with a sign -/
def signedS (n bits : Int) : Int :=
  if bits ≤ 0 then 0 else if 64 ≤ bits then wrap64 n else if n % 2 ^ bits.toNat < 2 ^ (bits.toNat - 1) then n % 2 ^ bits.toNat else n % 2 ^ bits.toNat - 2 ^ bits.toNat

theorem wrap64_def (n : Int) : wrap64 n = (n + 9223372036854775808) % 18446744073709551616 - 9223372036854775808 := by unfold wrap64; exact Eq.refl _

theorem signed_shift (n : Int) (b : Nat) (h0 : 0 ≤ n) (h1 : n ≤ 18446744073709551615) (hb : 0 < b) (hb2 : b < 64) :
    wrap64 (n * 2 ^ (64 - b) % 18446744073709551616) / 2 ^ (64 - b) = if n % 2 ^ b < 2 ^ (b - 1) then n % 2 ^ b else n % 2 ^ b - 2 ^ b := by
  have e64 : (18446744073709551616 : Int) = 2 ^ b * 2 ^ (64 - b) := by
    rw [← p2_add, Nat.add_sub_cancel' (by omega)]; decide
  have e63 : (9223372036854775808 : Int) = 2 ^ (b - 1) * 2 ^ (64 - b) := by
    rw [← p2_add, show b - 1 + (64 - b) = 63 by omega]; decide
  have eb : (2 : Int) ^ b = 2 * 2 ^ (b - 1) := by
    conv => lhs; rw [show b = (b - 1) + 1 by omega, Int.pow_succ]
    omega
  have hm : n * 2 ^ (64 - b) % 18446744073709551616 = (n % 2 ^ b) * 2 ^ (64 - b) := by
    rw [e64, Int.mul_comm n, Int.mul_comm (2 ^ b), Int.mul_emod_mul_of_pos _ _ (p2 _), Int.mul_comm]
  rw [hm]
  have q := p2 (64 - b)
  have q1 := p2 (b - 1)
  have r0 : 0 ≤ n % 2 ^ b := Int.emod_nonneg _ (by have := p2 b; omega)
  have r1 : n % 2 ^ b < 2 ^ b := Int.emod_lt_of_pos _ (p2 b)
  generalize n % 2 ^ b = m at *
  generalize hT : (2 : Int) ^ (64 - b) = T at *
  generalize hB : (2 : Int) ^ b = B at *
  generalize hC : (2 : Int) ^ (b - 1) = C at *
  subst eb
  have mT : m * T < 18446744073709551616 := by rw [e64]; exact Int.mul_lt_mul_of_pos_right r1 q
  have mT0 : 0 ≤ m * T := Int.mul_nonneg r0 (by omega)
  split
  · rename_i hlt
    have : m * T < 9223372036854775808 := by rw [e63]; exact Int.mul_lt_mul_of_pos_right hlt q
    rw [wrap64_in _ (by omega), Int.mul_ediv_cancel _ (by omega)]
  · rename_i hge
    have : 9223372036854775808 ≤ m * T := by rw [e63]; exact Int.mul_le_mul_of_nonneg_right (by omega) (by omega)
    have : wrap64 (m * T) = (m - 2 * C) * T := by
      rw [wrap64_def, Int.sub_mul, ← e64]; omega
    rw [this, Int.mul_ediv_cancel _ (by omega)]


def foldS (v : Int) : Int := if 0 ≤ v then 2 * v else -2 * v - 1
def unfoldS (n : Int) : Int := if n % 2 = 0 then n / 2 else -(n / 2) - 1

theorem xor_ones_u64 (a : Int) (h0 : 0 ≤ a) (h1 : a ≤ 18446744073709551615) : bits .xor .u64 a 18446744073709551615 = 18446744073709551615 - a := by
  obtain ⟨k, rfl⟩ := Int.eq_ofNat_of_zero_le h0
  rw [show (18446744073709551615 : Int) = ((18446744073709551615 : Nat) : Int) from by simp]
  have e := u64_xor_nat k 18446744073709551615 (by omega) (by omega)
  rw [e]
  have hx : k ^^^ 18446744073709551615 = 18446744073709551615 - k := by
    have := congrArg BitVec.toNat (BitVec.xor_allOnes (x := BitVec.ofNat 64 k))
    rw [BitVec.toNat_xor, BitVec.toNat_not, BitVec.toNat_allOnes, BitVec.toNat_ofNat, Nat.mod_eq_of_lt (by omega)] at this
    simpa using this
  rw [hx]; omega
theorem xor_zero_u64 (a : Int) (h0 : 0 ≤ a) (h1 : a ≤ 18446744073709551615) : bits .xor .u64 a 0 = a := by
  obtain ⟨k, rfl⟩ := Int.eq_ofNat_of_zero_le h0
  have e := u64_xor_nat k 0 (by omega) (by omega)
  rw [show ((0 : Nat) : Int) = 0 from rfl] at e
  rw [e, Nat.xor_zero]
theorem fold_bits (v : Int) (h0 : -9223372036854775808 ≤ v) (h1 : v ≤ 9223372036854775807) :
    bits .xor .u64 (IntKind.u64.wrap (IntKind.u64.wrap v * 2)) (IntKind.u64.wrap (v / 9223372036854775808)) = foldS v := by
  unfold foldS
  simp only [wrap_u64]
  by_cases h : 0 ≤ v
  · rw [if_pos h, show v / 9223372036854775808 % 18446744073709551616 = 0 by omega, xor_zero_u64 _ (by omega) (by omega)]
    omega
  · rw [if_neg h, show v / 9223372036854775808 % 18446744073709551616 = 18446744073709551615 by omega, xor_ones_u64 _ (by omega) (by omega)]
    omega
theorem and_one_u64 (n : Int) (h0 : 0 ≤ n) (h1 : n ≤ 18446744073709551615) : bits .and .u64 n 1 = n % 2 := by
  obtain ⟨k, rfl⟩ := Int.eq_ofNat_of_zero_le h0
  have e := u64_and_nat k 1 (by omega) (by omega)
  rw [show ((1 : Nat) : Int) = 1 from rfl] at e
  rw [e, nat_mask1]; simp
theorem xor_i64 (a : Int) (h0 : -9223372036854775808 ≤ a) (h1 : a ≤ 9223372036854775807) : bits .xor .i64 a (-1) = -a - 1 := by
  show IntKind.i64.wrap ((BitVec.ofInt 64 a ^^^ BitVec.ofInt 64 (-1)).toNat : Int) = _
  rw [show BitVec.ofInt 64 (-1) = BitVec.allOnes 64 from by decide, BitVec.xor_allOnes, BitVec.toNat_not, BitVec.toNat_ofInt, IntKind.wrap_i64]
  omega
theorem xor_i64_zero (a : Int) (h0 : -9223372036854775808 ≤ a) (h1 : a ≤ 9223372036854775807) : bits .xor .i64 a 0 = a := by
  show IntKind.i64.wrap ((BitVec.ofInt 64 a ^^^ BitVec.ofInt 64 0).toNat : Int) = _
  rw [show BitVec.ofInt 64 0 = 0#64 from by decide, BitVec.xor_zero, BitVec.toNat_ofInt, IntKind.wrap_i64]
  omega
theorem unfold_bits (n : Int) (h0 : 0 ≤ n) (h1 : n ≤ 18446744073709551615) :
    bits .xor .i64 (n / 2) (wrap64 (-wrap64 (bits .and .u64 n 1))) = unfoldS n := by
  rw [and_one_u64 n h0 h1, wrap64_in (n % 2) (by omega), wrap64_in (-(n % 2)) (by omega)]
  unfold unfoldS
  by_cases h : n % 2 = 0
  · rw [if_pos h, h, show -(0 : Int) = 0 from rfl, xor_i64_zero _ (by omega) (by omega)]
  · rw [if_neg h, show -(n % 2) = -1 by omega, xor_i64 _ (by omega) (by omega)]

/-- each bit so many places higher, round the end -/
def turnS (n : Int) (K : Nat) : Int := (n % 2 ^ (64 - K)) * 2 ^ K + n / 2 ^ (64 - K)
theorem mask63 (x : Int) (h0 : 0 ≤ x) (h1 : x ≤ 18446744073709551615) : bits .and .u64 x 63 = x % 64 := by
  obtain ⟨k, rfl⟩ := Int.eq_ofNat_of_zero_le h0
  have e := u64_and_nat k 63 (by omega) (by omega)
  rw [show ((63 : Nat) : Int) = 63 from rfl] at e
  rw [e, nat_mask6]; simp
theorem or_join_u64 (x y : Int) (i : Nat) (hx0 : 0 ≤ x) (hx1 : x ≤ 18446744073709551615) (hy0 : 0 ≤ y) (hy : y < 2 ^ i) (hy1 : y ≤ 18446744073709551615) (hx : x % 2 ^ i = 0) : bits .or .u64 x y = x + y := by
  obtain ⟨a, rfl⟩ := Int.eq_ofNat_of_zero_le hx0
  obtain ⟨b, rfl⟩ := Int.eq_ofNat_of_zero_le hy0
  rw [u64_or_nat a b (by omega) (by omega), nat_join i a b]
  · omega
  · have e : ((2 : Int) ^ i) = ((2 ^ i : Nat) : Int) := by simp
    rw [e] at hx; omega
  · have e : ((2 : Int) ^ i) = ((2 ^ i : Nat) : Int) := by simp
    rw [e] at hy; omega
theorem or_self_u64 (x : Int) (hx0 : 0 ≤ x) (hx1 : x ≤ 18446744073709551615) : bits .or .u64 x x = x := by
  obtain ⟨a, rfl⟩ := Int.eq_ofNat_of_zero_le hx0
  rw [u64_or_nat a a (by omega) (by omega), Nat.or_self]
theorem turn_bits (n : Int) (K : Nat) (hK : K < 64) (h0 : 0 ≤ n) (h1 : n ≤ 18446744073709551615) :
    bits .or .u64 (IntKind.u64.wrap (n * 2 ^ K)) (n / 2 ^ ((64 - K) % 64)) = turnS n K := by
  rw [wrap_u64]
  unfold turnS
  by_cases hz : K = 0
  · subst hz
    have e : (2 : Int) ^ 64 = 18446744073709551616 := by decide
    simp only [Nat.sub_zero, Nat.mod_self, Int.pow_zero, Int.mul_one, Int.ediv_one, e]
    rw [Int.emod_eq_of_lt h0 (by omega), or_self_u64 n h0 h1]; omega
  · have e64 : (18446744073709551616 : Int) = 2 ^ K * 2 ^ (64 - K) := by
      rw [← p2_add, Nat.add_sub_cancel' (by omega)]; decide
    have hm : n * 2 ^ K % 18446744073709551616 = (n % 2 ^ (64 - K)) * 2 ^ K := by
      rw [e64, Int.mul_comm n, Int.mul_emod_mul_of_pos _ _ (p2 _), Int.mul_comm]
    rw [Nat.mod_eq_of_lt (by omega : 64 - K < 64)]
    have hd : n / 2 ^ (64 - K) < 2 ^ K := Int.ediv_lt_of_lt_mul (p2 _) (by rw [← e64]; omega)
    have hd0 : 0 ≤ n / 2 ^ (64 - K) := Int.ediv_nonneg h0 (Int.le_of_lt (p2 _))
    have hK2 : (2 : Int) ^ K ≤ 2 ^ 63 := p2_le (by omega)
    have e63 : (2 : Int) ^ 63 = 9223372036854775808 := by decide
    rw [or_join_u64 _ _ K (by omega) (by omega) hd0 hd (by omega) (by rw [hm, Int.mul_emod_left]), hm]

/-- what so many steps, bit by bit, come to -/
def turnTo (n : Int) (K j : Nat) : Int := if j ≤ 64 - K then (n % 2 ^ j) * 2 ^ K else (n % 2 ^ (64 - K)) * 2 ^ K + (n % 2 ^ j) / 2 ^ (64 - K)
theorem mod_succ (n : Int) (j : Nat) : n % 2 ^ (j + 1) = n % 2 ^ j + (n / 2 ^ j % 2) * 2 ^ j := by
  have h1 := Int.emod_add_mul_ediv n (2 ^ j)
  have hq := Int.emod_add_mul_ediv (n / 2 ^ j) 2
  have hp := p2 j
  have r0 : 0 ≤ n % 2 ^ j := Int.emod_nonneg _ (by omega)
  have r1 : n % 2 ^ j < 2 ^ j := Int.emod_lt_of_pos _ hp
  have b0 := Int.emod_two_eq (n / 2 ^ j)
  have e : n = (n % 2 ^ j + (n / 2 ^ j % 2) * 2 ^ j) + 2 ^ (j + 1) * (n / 2 ^ j / 2) := by
    rw [Int.pow_succ]
    generalize n / 2 ^ j / 2 = q2 at *
    generalize n / 2 ^ j % 2 = q1 at *
    generalize n / 2 ^ j = q at *
    generalize n % 2 ^ j = r at *
    generalize (2 : Int) ^ j = P at *
    subst hq
    rw [← h1, Int.mul_add, Int.mul_assoc P 2 q2, Int.mul_comm q1 P]
    omega
  have e2 : (2 : Int) ^ (j + 1) = 2 ^ j * 2 := Int.pow_succ ..
  conv => lhs; rw [e, Int.add_mul_emod_self_left]
  apply Int.emod_eq_of_lt
  · rcases b0 with b | b <;> rw [b] <;> omega
  · rcases b0 with b | b <;> rw [b] <;> omega
theorem turnTo_zero (n : Int) (K : Nat) : turnTo n K 0 = 0 := by
  unfold turnTo; rw [if_pos (by omega)]; simp [Int.emod_one]
theorem turnTo_end (n : Int) (K : Nat) (h0 : 0 ≤ n) (h1 : n ≤ 18446744073709551615) : turnTo n K 64 = turnS n K := by
  unfold turnTo turnS
  have e : (2 : Int) ^ 64 = 18446744073709551616 := by decide
  have hm : n % 2 ^ 64 = n := by rw [e]; exact Int.emod_eq_of_lt h0 (by omega)
  by_cases hK : K = 0
  · subst hK; simp only [Nat.sub_zero, Nat.le_refl, if_pos, hm]; rw [Int.ediv_eq_zero_of_lt h0 (by omega)]; omega
  · rw [if_neg (by omega), hm]
theorem turnTo_succ (n : Int) (K j : Nat) (hj : j < 64) (hK : K < 64) : turnTo n K (j + 1) = turnTo n K j + (n / 2 ^ j % 2) * 2 ^ ((j + K) % 64) := by
  unfold turnTo
  by_cases h : j + 1 ≤ 64 - K
  · rw [if_pos h, if_pos (by omega), mod_succ, Nat.mod_eq_of_lt (by omega), p2_add, Int.add_mul, Int.mul_assoc]
  · rw [if_neg h]
    by_cases h2 : j ≤ 64 - K
    · have hj2 : j = 64 - K := by omega
      subst hj2
      rw [if_pos (Nat.le_refl _), show (64 - K + K) % 64 = 0 by omega, mod_succ, Int.pow_zero, Int.mul_one]
      rw [Int.add_mul_ediv_right _ _ (Int.ne_of_gt (p2 _)), Int.ediv_eq_zero_of_lt (Int.emod_nonneg _ (Int.ne_of_gt (p2 _))) (Int.emod_lt_of_pos _ (p2 _))]
      omega
    · rw [if_neg h2, mod_succ, show (j + K) % 64 = j - (64 - K) by omega]
      have e : (2 : Int) ^ j = 2 ^ (j - (64 - K)) * 2 ^ (64 - K) := by rw [← p2_add]; congr 1; omega
      conv => lhs; rw [show n / 2 ^ j % 2 * 2 ^ j = n / 2 ^ j % 2 * 2 ^ (j - (64 - K)) * 2 ^ (64 - K) from by rw [Int.mul_assoc, ← e]]
      rw [Int.add_mul_ediv_right _ _ (Int.ne_of_gt (p2 _))]
      omega
theorem turnTo_lt (n : Int) (K j : Nat) (hj : j ≤ 64) (hK : K < 64) : 0 ≤ turnTo n K j ∧ turnTo n K j ≤ 18446744073709551615 := by
  have e64 : (18446744073709551616 : Int) = 2 ^ K * 2 ^ (64 - K) := by
    rw [← p2_add, Nat.add_sub_cancel' (by omega)]; decide
  have pK := p2 K
  have pJ := p2 j
  have pC := p2 (64 - K)
  have r0 : 0 ≤ n % 2 ^ j := Int.emod_nonneg _ (by omega)
  have r1 : n % 2 ^ j < 2 ^ j := Int.emod_lt_of_pos _ pJ
  have s0 : 0 ≤ n % 2 ^ (64 - K) := Int.emod_nonneg _ (by omega)
  have s1 : n % 2 ^ (64 - K) < 2 ^ (64 - K) := Int.emod_lt_of_pos _ pC
  unfold turnTo
  split
  · rename_i h
    have : (2 : Int) ^ j ≤ 2 ^ (64 - K) := p2_le h
    have a1 : 0 ≤ n % 2 ^ j * 2 ^ K := Int.mul_nonneg r0 (by omega)
    have a2 : n % 2 ^ j * 2 ^ K < 2 ^ (64 - K) * 2 ^ K := Int.mul_lt_mul_of_pos_right (by omega) pK
    rw [Int.mul_comm (2 ^ (64 - K))] at a2
    omega
  · have a1 : 0 ≤ n % 2 ^ (64 - K) * 2 ^ K := Int.mul_nonneg s0 (by omega)
    have a3 : n % 2 ^ (64 - K) * 2 ^ K ≤ (2 ^ (64 - K) - 1) * 2 ^ K := Int.mul_le_mul_of_nonneg_right (by omega) (by omega)
    rw [Int.sub_mul, Int.mul_comm (2 ^ (64 - K))] at a3
    have b1 : 0 ≤ n % 2 ^ j / 2 ^ (64 - K) := Int.ediv_nonneg r0 (by omega)
    have b2 : n % 2 ^ j / 2 ^ (64 - K) < 2 ^ K := Int.ediv_lt_of_lt_mul pC (by
      rw [← e64]
      have : (2 : Int) ^ j ≤ 2 ^ 64 := p2_le hj
      have e : (2 : Int) ^ 64 = 18446744073709551616 := by decide
      omega)
    omega
end Go.Proofs.NumMath
