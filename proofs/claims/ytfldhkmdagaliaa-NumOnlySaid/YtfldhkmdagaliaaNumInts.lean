import Derived.Test.YtfldhkmdagaliaaRows
import Derived.Test.YtfldhkmdagaliaaNumMath
import Derived.WalkKit
import Derived.ProofKit
import Derived.OpenShut
import Derived.Lib.Hide
/- Contracts of the functions of package num, and of the document's answer, that compute with numbers alone. -/
namespace Go.Proofs.Ytfldhkmdagaliaa.NumInts
open Go.ChangeShapes Go.WideShapes Go.ChangeAt Go.RowKit Go.IntWalk Go.Proofs.NumMath
set_option linter.unusedVariables false

theorem ret_int {k : IntKind} {a b : Int} (h : a = b) : Ending.returned (.int k a) = .returned (.int k b) := by rw [h]

set_option maxHeartbeats 400000 in
theorem power_any (n : Int) (h0 : 0 ≤ n) (h1 : n ≤ 18446744073709551615) (w : World) :
    Calls Try.prog 38 #[.int .u64 n] w fun e w' => e = .returned (.int .u64 (pw n.toNat)) ∧ w = w' := by
  go_enter Try.func38, Try.ntmps38
  go_wp2
  go_loop [3, 4] (fun p i => ∃ k : Nat, k ≤ 64 ∧ (k : Int) ≤ n ∧ i = .int .u64 k ∧ p = .int .u64 (pw k)) (fun _ i => 64 - (intOf i).toNat)
  case atStart => exact ⟨0, by omega, by omega, rfl, rfl⟩
  case round =>
    obtain ⟨k, hk, hkn, rfl, rfl⟩ := hrel
    go_wp2
    · have hp : 0 < pw k := by assumption
      have hlt : (k : Int) < n := by assumption
      have hk2 : k < 64 := by
        by_cases h : k < 64
        · exact h
        · have := pw_zero k (by omega); omega
      go_round
      case rel => exact ⟨k + 1, by omega, by omega, by go_num, by rw [wrap_u64, pw_succ]⟩
      case measure => simp [intOf]; omega
    · have hp : pw k ≤ 0 := by assumption
      have hlt : (k : Int) < n := by assumption
      have : 64 ≤ k := by
        by_cases h : k < 64
        · have := pw_pos k h; omega
        · omega
      go_ret
      exact ⟨ret_int (by rw [pw_zero k this, pw_zero n.toNat (by omega)]), rfl⟩
    · have hlt : n ≤ (k : Int) := by assumption
      go_ret
      exact ⟨ret_int (by rw [show n.toNat = k by omega]), rfl⟩

def leftS (n b : Int) : Int := n * pw b.toNat % 18446744073709551616

theorem left_any (n b : Int) (h0 : 0 ≤ n) (h1 : n ≤ 18446744073709551615) (h2 : 0 ≤ b) (h3 : b ≤ 18446744073709551615) (w : World) :
    Calls Try.prog 26 #[.int .u64 n, .int .u64 b] w fun e w' => e = .returned (.int .u64 (leftS n b)) ∧ w = w' := by
  go_enter Try.func26, Try.ntmps26
  go_wp2
  go_ret
  exact ⟨ret_int (by rw [wrap_u64, left_eq]; rfl), rfl⟩

theorem left_ref (n b : Int) (h0 : 0 ≤ n) (h1 : n ≤ 18446744073709551615) (h2 : 0 ≤ b) (h3 : b ≤ 18446744073709551615) (w : World) :
    Calls Try.prog 27 #[.int .u64 n, .int .u64 b] w fun e w' => e = .returned (.int .u64 (leftS n b)) ∧ w = w' := by
  go_enter Try.func27, Try.ntmps27
  have hp := pw_lt b.toNat
  go_wp2_with (go_at_call 38; refine (power_any _ h2 h3 _).mono ?_; rintro e w' ⟨rfl, rfl⟩)
  go_ret
  exact ⟨ret_int (by rw [wrap_u64]; rfl), rfl⟩

theorem right_any (n b : Int) (h0 : 0 ≤ n) (h1 : n ≤ 18446744073709551615) (h2 : 0 ≤ b) (h3 : b ≤ 18446744073709551615) (w : World) :
    Calls Try.prog 28 #[.int .u64 n, .int .u64 b] w fun e w' => e = .returned (.int .u64 (rightS n b)) ∧ w = w' := by
  go_enter Try.func28, Try.ntmps28
  go_wp2
  go_ret
  exact ⟨rfl, rfl⟩

theorem right_zero (n : Int) : n / 2 ^ 0 = n := by simp
set_option maxHeartbeats 400000 in
theorem right_ref (n b : Int) (h0 : 0 ≤ n) (h1 : n ≤ 18446744073709551615) (h2 : 0 ≤ b) (h3 : b ≤ 18446744073709551615) (w : World) :
    Calls Try.prog 29 #[.int .u64 n, .int .u64 b] w fun e w' => e = .returned (.int .u64 (rightS n b)) ∧ w = w' := by
  go_enter Try.func29, Try.ntmps29
  go_wp2
  go_loop [0, 5] (fun p i => ∃ (k : Nat) (m : Int), (k : Int) ≤ b ∧ i = .int .u64 k ∧ p = .int .u64 m ∧ 0 ≤ m ∧ m ≤ 18446744073709551615 ∧ m = n / 2 ^ k) (fun p _ => (intOf p).toNat)
  case atStart => exact ⟨0, n, by omega, rfl, rfl, h0, h1, (right_zero n).symm⟩
  case round =>
    obtain ⟨k, m, hkn, rfl, rfl, hm0, hm1, hm⟩ := hrel
    have HM := Lib.hid hm
    clear hm
    go_wp2
    · have hp : 0 < m := by assumption
      have hlt : (k : Int) < b := by assumption
      go_round
      case rel => exact ⟨k + 1, m / 2, by omega, by go_num, rfl, by omega, by omega, by rw [HM.out, div_step]⟩
      case measure => simp [intOf]; omega
    · have hp : m ≤ 0 := by assumption
      have hlt : (k : Int) < b := by assumption
      go_ret
      exact ⟨ret_int (by rw [HM.out]; exact right_end n b k h0 h1 (by omega) (.inr (by rw [← HM.out]; omega))), rfl⟩
    · have hlt : b ≤ (k : Int) := by assumption
      go_ret
      exact ⟨ret_int (by rw [HM.out]; exact right_end n b k h0 h1 (by omega) (.inl hlt)), rfl⟩

theorem arith_any (n b : Int) (h0 : -9223372036854775808 ≤ n) (h1 : n ≤ 9223372036854775807) (h2 : 0 ≤ b) (h3 : b ≤ 18446744073709551615) (w : World) :
    Calls Try.prog 30 #[.int .i64 n, .int .u64 b] w fun e w' => e = .returned (.int .i64 (rightS n b)) ∧ w = w' := by
  go_enter Try.func30, Try.ntmps30
  go_wp2
  go_ret
  exact ⟨rfl, rfl⟩

theorem tdiv_neg2 (m : Int) (h : m < 0) : (m + 1).tdiv 2 = -((-(m + 1)) / 2) := by
  obtain ⟨a, ha⟩ : ∃ a, a = -(m + 1) := ⟨_, rfl⟩
  rw [← ha, show m + 1 = -a by omega, Int.neg_tdiv, Int.tdiv_eq_ediv_of_nonneg (by omega)]
theorem tmod64 (b : Int) : (b.tmod 64 + 64) % 64 = b % 64 ∧ -63 ≤ b.tmod 64 ∧ b.tmod 64 ≤ 63 := by
  by_cases h : 0 ≤ b
  · rw [Int.tmod_eq_emod_of_nonneg h]; omega
  · obtain ⟨a, ha⟩ : ∃ a, a = -b := ⟨_, rfl⟩
    rw [show b = -a by omega, Int.neg_tmod, Int.tmod_eq_emod_of_nonneg (by omega)]; omega
theorem neg_half (m : Int) (h : m < 0) (h0 : -9223372036854775808 ≤ m) : wrap64 (-wrap64 (wrap64 (-(m + 1).tdiv 2) + 1)) = m / 2 := by
  have e := tdiv_neg2 m h
  have : wrap64 (-(m + 1).tdiv 2) = (-(m + 1)) / 2 := by rw [e]; rw [wrap64_in _ (by omega)]; omega
  rw [this, wrap64_in (-(m + 1) / 2 + 1) (by omega), wrap64_in _ (by omega)]; omega
theorem ne_of (m c : Int) (h : (m != c) = true) : m ≠ c := by simpa using h
theorem eq_of (m c : Int) (h : (m != c) = false) : m = c := by simpa using h
set_option maxHeartbeats 400000 in
theorem arith_ref (n b : Int) (h0 : -9223372036854775808 ≤ n) (h1 : n ≤ 9223372036854775807) (h2 : 0 ≤ b) (h3 : b ≤ 18446744073709551615) (w : World) :
    Calls Try.prog 31 #[.int .i64 n, .int .u64 b] w fun e w' => e = .returned (.int .i64 (rightS n b)) ∧ w = w' := by
  go_enter Try.func31, Try.ntmps31
  go_wp2
  go_loop [0, 5] (fun p i => ∃ (k : Nat) (m : Int), (k : Int) ≤ b ∧ i = .int .u64 k ∧ p = .int .i64 m ∧ -9223372036854775808 ≤ m ∧ m ≤ 9223372036854775807 ∧ m = n / 2 ^ k) (fun p _ => (intOf p).toNat + (- (intOf p)).toNat)
  case atStart => exact ⟨0, n, by omega, rfl, rfl, h0, h1, (right_zero n).symm⟩
  case round =>
    obtain ⟨k, m, hkn, rfl, rfl, hm0, hm1, hm⟩ := hrel
    have HM := Lib.hid hm
    clear hm
    go_wp2
    · have hm : m = 0 := by assumption
      subst hm
      go_ret
      exact ⟨ret_int (by rw [HM.out]; exact arith_end n b k h0 h1 (by omega) (.inr (.inl HM.out.symm))), rfl⟩
    · have hp : (m != 0) = true ∧ (m != -1) = true := by assumption
      have h3 := ne_of _ _ hp.1
      have h4 := ne_of _ _ hp.2
      have hlt : (k : Int) < b := by assumption
      have hn : m < 0 := by assumption
      go_round
      case rel => exact ⟨k + 1, m / 2, by omega, by go_num, by rw [neg_half m hn hm0], by omega, by omega, by rw [HM.out, div_step]⟩
      case measure => rw [neg_half m hn hm0]; simp [intOf]; omega
    · have hp : (m != 0) = true ∧ (m != -1) = true := by assumption
      have h3 := ne_of _ _ hp.1
      have hlt : (k : Int) < b := by assumption
      have hn : 0 ≤ m := by assumption
      go_round
      case rel => exact ⟨k + 1, m / 2, by omega, by go_num, rfl, by omega, by omega, by rw [HM.out, div_step]⟩
      case measure => simp [intOf]; omega
    · have hp : (m != 0) = false ∨ (m != -1) = false := by assumption
      have hq : m = 0 ∨ m = -1 := hp.imp (eq_of _ _) (eq_of _ _)
      have hlt : (k : Int) < b := by assumption
      go_ret
      exact ⟨ret_int (by rw [HM.out]; exact arith_end n b k h0 h1 (by omega) (.inr (by rw [← HM.out]; exact hq))), rfl⟩
    · have hlt : b ≤ (k : Int) := by assumption
      go_ret
      exact ⟨ret_int (by rw [HM.out]; exact arith_end n b k h0 h1 (by omega) (.inl hlt)), rfl⟩

set_option maxHeartbeats 400000 in
theorem signed_any (n b : Int) (h0 : 0 ≤ n) (h1 : n ≤ 18446744073709551615) (h2 : -9223372036854775808 ≤ b) (h3 : b ≤ 9223372036854775807) (w : World) :
    Calls Try.prog 18 #[.int .u64 n, .int .i64 b] w fun e w' => e = .returned (.int .i64 (signedS n b)) ∧ w = w' := by
  go_enter Try.func18, Try.ntmps18
  go_wp2
  · have h : b ≤ 0 := by assumption
    go_ret
    exact ⟨ret_int (by unfold signedS; rw [if_pos h]), rfl⟩
  · have h : 0 < b := by assumption
    have h' : 64 ≤ b := by assumption
    go_ret
    exact ⟨ret_int (by unfold signedS; rw [if_neg (by omega), if_pos h']), rfl⟩
  · have h : 0 < b := by assumption
    have h' : b < 64 := by assumption
    go_ret
    exact ⟨ret_int (by
      unfold signedS; rw [if_neg (by omega), if_neg (by omega), wrap_u64, show (64 - b).toNat = 64 - b.toNat by omega]
      exact signed_shift n b.toNat h0 h1 (by omega) (by omega)), rfl⟩

theorem fold_any (n : Int) (h0 : -9223372036854775808 ≤ n) (h1 : n ≤ 9223372036854775807) (w : World) :
    Calls Try.prog 20 #[.int .i64 n] w fun e w' => e = .returned (.int .u64 (foldS n)) ∧ w = w' := by
  go_enter Try.func20, Try.ntmps20
  go_wp2
  go_ret
  exact ⟨ret_int (fold_bits n h0 h1), rfl⟩
theorem unfold_any (n : Int) (h0 : 0 ≤ n) (h1 : n ≤ 18446744073709551615) (w : World) :
    Calls Try.prog 22 #[.int .u64 n] w fun e w' => e = .returned (.int .i64 (unfoldS n)) ∧ w = w' := by
  go_enter Try.func22, Try.ntmps22
  go_wp2
  go_ret
  exact ⟨ret_int (unfold_bits n h0 h1), rfl⟩
theorem fold_ref (n : Int) (h0 : -9223372036854775808 ≤ n) (h1 : n ≤ 9223372036854775807) (w : World) :
    Calls Try.prog 21 #[.int .i64 n] w fun e w' => e = .returned (.int .u64 (foldS n)) ∧ w = w' := by
  go_enter Try.func21, Try.ntmps21
  go_wp2
  all_goals go_ret
  · have h : 0 ≤ n := by assumption
    exact ⟨ret_int (by unfold foldS; rw [if_pos h]), rfl⟩
  · have h : n < 0 := by assumption
    exact ⟨ret_int (by unfold foldS; rw [if_neg (by omega)]; omega), rfl⟩
theorem unfold_ref (n : Int) (h0 : 0 ≤ n) (h1 : n ≤ 18446744073709551615) (w : World) :
    Calls Try.prog 23 #[.int .u64 n] w fun e w' => e = .returned (.int .i64 (unfoldS n)) ∧ w = w' := by
  go_enter Try.func23, Try.ntmps23
  go_wp2
  all_goals go_ret
  · have h : (n % 2 == 0) = true := by assumption
    exact ⟨ret_int (by unfold unfoldS; rw [if_pos (by simpa using h)]), rfl⟩
  · have h : (n % 2 == 0) = false := by assumption
    exact ⟨ret_int (by unfold unfoldS; rw [if_neg (by simpa using h)]), rfl⟩
theorem signed_low (n b : Int) (hb0 : 0 < b) (hb1 : b < 64) (h : n % pw b.toNat < pw b.toNat / 2) : wrap64 (n % pw b.toNat) = signedS n b := by
  have e2 : (2 : Int) ^ b.toNat = 2 * 2 ^ (b.toNat - 1) := by
    conv => lhs; rw [show b.toNat = (b.toNat - 1) + 1 by omega, Int.pow_succ]
    omega
  have hp := pw_lt b.toNat
  have hq := pw_pos b.toNat (by omega)
  have r0 : 0 ≤ n % pw b.toNat := Int.emod_nonneg _ (by omega)
  rw [wrap64_in _ (by omega)]
  have hpe := pw_of b.toNat (by omega)
  unfold signedS
  rw [hpe] at h hp hq r0 ⊢
  rw [if_neg (by omega), if_neg (by omega), if_pos (by rw [e2] at h ⊢; omega)]
theorem signed_high (n b : Int) (hb0 : 0 < b) (hb1 : b < 64) (h : pw b.toNat / 2 ≤ n % pw b.toNat) : wrap64 (-wrap64 (IntKind.u64.wrap (pw b.toNat - n % pw b.toNat))) = signedS n b := by
  have e2 : (2 : Int) ^ b.toNat = 2 * 2 ^ (b.toNat - 1) := by
    conv => lhs; rw [show b.toNat = (b.toNat - 1) + 1 by omega, Int.pow_succ]
    omega
  have hp := pw_lt b.toNat
  have hq := pw_pos b.toNat (by omega)
  have r0 : 0 ≤ n % pw b.toNat := Int.emod_nonneg _ (by omega)
  have r1 : n % pw b.toNat < pw b.toNat := Int.emod_lt_of_pos _ hq
  have hpe := pw_of b.toNat (by omega)
  rw [wrap_u64, Int.emod_eq_of_lt (by omega) (by omega)]
  have hev : pw b.toNat % 2 = 0 := by rw [hpe, e2]; omega
  rw [wrap64_in (pw b.toNat - n % pw b.toNat) (by omega), wrap64_in _ (by omega)]
  unfold signedS
  rw [hpe] at h hp hq r0 ⊢
  rw [if_neg (by omega), if_neg (by omega), if_neg (by rw [e2] at h ⊢; omega)]
  omega
set_option maxHeartbeats 400000 in
theorem signed_ref (n b : Int) (h0 : 0 ≤ n) (h1 : n ≤ 18446744073709551615) (h2 : -9223372036854775808 ≤ b) (h3 : b ≤ 9223372036854775807) (w : World) :
    Calls Try.prog 19 #[.int .u64 n, .int .i64 b] w fun e w' => e = .returned (.int .i64 (signedS n b)) ∧ w = w' := by
  by_cases hb : 0 < b ∧ b < 64
  · obtain ⟨hb0, hb1⟩ := hb
    have hp := pw_pos b.toNat (by omega)
    have hp' := pw_lt b.toNat
    have hpe := pw_of b.toNat (by omega)
    have HPE := Lib.hid hpe
    clear hpe
    go_enter Try.func19, Try.ntmps19
    go_wp2_with (go_at_call 38; refine (power_any _ (by omega) (by omega) _).mono ?_; rintro e w' ⟨rfl, rfl⟩)
    all_goals go_ret
    · have h : n % pw b.toNat < pw b.toNat / 2 := by assumption
      exact ⟨ret_int (signed_low n b hb0 hb1 h), rfl⟩
    · have h : pw b.toNat / 2 ≤ n % pw b.toNat := by assumption
      exact ⟨ret_int (signed_high n b hb0 hb1 h), rfl⟩
  · by_cases hb0 : b ≤ 0
    · go_enter Try.func19, Try.ntmps19
      go_wp2
      go_ret
      exact ⟨ret_int (by unfold signedS; rw [if_pos hb0]), rfl⟩
    · have hb1 : 64 ≤ b := by omega
      go_enter Try.func19, Try.ntmps19
      go_wp2
      go_ret
      exact ⟨ret_int (by unfold signedS; rw [if_neg (by omega), if_pos hb1]), rfl⟩

def turnK (b : Int) : Nat := (b % 64).toNat
set_option maxHeartbeats 400000 in
theorem turn_any (n b : Int) (h0 : 0 ≤ n) (h1 : n ≤ 18446744073709551615) (h2 : -9223372036854775808 ≤ b) (h3 : b ≤ 9223372036854775807) (w : World) :
    Calls Try.prog 32 #[.int .u64 n, .int .i64 b] w fun e w' => e = .returned (.int .u64 (turnS n (turnK b))) ∧ w = w' := by
  obtain ⟨K, hK0, hK, hKe⟩ : ∃ K : Int, 0 ≤ K ∧ K < 64 ∧ bits .and .u64 (IntKind.u64.wrap b) 63 = K :=
    ⟨b % 64, by omega, by omega, by rw [mask63 _ (by rw [wrap_u64]; omega) (by rw [wrap_u64]; omega), wrap_u64]; omega⟩
  have hb : K = b % 64 := by rw [← hKe, mask63 _ (by rw [wrap_u64]; omega) (by rw [wrap_u64]; omega), wrap_u64]; omega
  obtain ⟨D, hD0, hD, hDe, hDv⟩ : ∃ D : Int, 0 ≤ D ∧ D < 64 ∧ bits .and .u64 (IntKind.u64.wrap (-K)) 63 = D ∧ D = (64 - K) % 64 :=
    ⟨(64 - K) % 64, by omega, by omega, by rw [mask63 _ (by rw [wrap_u64]; omega) (by rw [wrap_u64]; omega), wrap_u64]; omega, rfl⟩
  have HB := Lib.hid hb
  have HD := Lib.hid hDv
  clear hb hDv
  go_enter Try.func32, Try.ntmps32
  go_wp2
  go_ret
  refine ⟨ret_int ?_, rfl⟩
  have e := turn_bits n K.toNat (by omega) h0 h1
  rw [show (64 - K.toNat) % 64 = D.toNat by have := HD.out; omega] at e
  rw [e, show turnK b = K.toNat by have := HB.out; unfold turnK; omega]
theorem right_bd (n : Int) (j : Int) (h0 : 0 ≤ n) (h1 : n ≤ 18446744073709551615) : 0 ≤ rightS n j ∧ rightS n j ≤ 18446744073709551615 := by
  unfold rightS
  have := Int.ediv_le_self (a := n) (2 ^ min j.toNat 64) h0
  have h3 := Int.ediv_nonneg h0 (Int.le_of_lt (p2 (min j.toNat 64)))
  omega
theorem turn_one (n : Int) (K j : Nat) (hj : j < 64) (hK : K < 64) (h0 : 0 ≤ n) (h1 : n ≤ 18446744073709551615) (h : (rightS n j % 2 == 1) = true) :
    turnTo n K j + pw ((j + K) % 64) = turnTo n K (j + 1) ∧ 0 ≤ turnTo n K (j + 1) ∧ turnTo n K (j + 1) < 18446744073709551616 := by
  have h' : n / 2 ^ j % 2 = 1 := by
    have := WalkArith.int_eq h
    unfold rightS at this
    rwa [Int.toNat_natCast, Nat.min_eq_left (by omega)] at this
  have hr := turnTo_lt n K (j + 1) (by omega) hK
  refine ⟨?_, hr.1, by omega⟩
  rw [turnTo_succ n K j hj hK, h', Int.one_mul, pw_of _ (Nat.mod_lt _ (by omega))]
theorem turn_nil (n : Int) (K j : Nat) (hj : j < 64) (hK : K < 64) (h0 : 0 ≤ n) (h1 : n ≤ 18446744073709551615) (h : (rightS n j % 2 == 1) = false) :
    turnTo n K j = turnTo n K (j + 1) := by
  have h' : n / 2 ^ j % 2 = 0 := by
    have := WalkArith.int_ne h
    unfold rightS at this
    rw [Int.toNat_natCast, Nat.min_eq_left (by omega)] at this
    omega
  rw [turnTo_succ n K j hj hK, h', Int.zero_mul, Int.add_zero]
set_option maxHeartbeats 400000 in
theorem turn_ref (n b : Int) (h0 : 0 ≤ n) (h1 : n ≤ 18446744073709551615) (h2 : -9223372036854775808 ≤ b) (h3 : b ≤ 9223372036854775807) (w : World) :
    Calls Try.prog 33 #[.int .u64 n, .int .i64 b] w fun e w' => e = .returned (.int .u64 (turnS n (turnK b))) ∧ w = w' := by
  obtain ⟨hq, hq0, hq1⟩ := tmod64 b
  have HQ := Lib.hid hq
  clear hq
  go_enter Try.func33, Try.ntmps33
  go_wp2
  generalize hK : (b.tmod 64 + 64) % 64 = K at *
  have hK0 : 0 ≤ K := by omega
  have hK1 : K < 64 := by omega
  have HK := Lib.hid hK
  clear hK
  go_loop [5, 7] (fun o i => ∃ (j : Nat) (m : Int), j ≤ 64 ∧ i = .int .i64 j ∧ o = .int .u64 m ∧ 0 ≤ m ∧ m ≤ 18446744073709551615 ∧ m = turnTo n K.toNat j) (fun _ i => 64 - (intOf i).toNat)
  case atStart => exact ⟨0, 0, by omega, rfl, rfl, by omega, by omega, (turnTo_zero _ _).symm⟩
  case round =>
    obtain ⟨j, m, hj, rfl, rfl, hm0, hm1, hm⟩ := hrel
    have HM := Lib.hid hm
    clear hm
    obtain ⟨hr0, hr1⟩ := right_bd n j h0 h1
    go_wp2_with (first
      | (go_at_call 29; refine (right_ref n _ h0 h1 (by omega) (by omega) _).mono ?_; rintro e w' ⟨rfl, rfl⟩)
      | (go_at_call 38; refine (power_any _ (by omega) (by omega) _).mono ?_; rintro e w' ⟨rfl, rfl⟩))
    · have hb : (rightS n j % 2 == 1) = true := by assumption
      have hlt : (j : Int) < 64 := by assumption
      have hs := turn_one n K.toNat j (by omega) (by omega) h0 h1 hb
      have e : ((j : Int) + K) % 64 = (((j + K.toNat) % 64 : Nat) : Int) := by omega
      have hr := turnTo_lt n K.toNat (j + 1) (by omega) (by omega)
      have hw : IntKind.u64.wrap (m + pw (((j : Int) + K) % 64).toNat) = turnTo n K.toNat (j + 1) := by
        rw [e, Int.toNat_natCast, HM.out, hs.1, wrap_u64, Int.emod_eq_of_lt hs.2.1 hs.2.2]
      go_round
      case rel => exact ⟨j + 1, _, by omega, by go_num, rfl, by rw [hw]; exact hr.1, by rw [hw]; exact hr.2, hw⟩
      case measure => simp [intOf]; omega
    · have hb : (rightS n j % 2 == 1) = false := by assumption
      have hlt : (j : Int) < 64 := by assumption
      have hs := turn_nil n K.toNat j (by omega) (by omega) h0 h1 hb
      go_round
      case rel => exact ⟨j + 1, _, by omega, by go_num, rfl, hm0, hm1, by rw [HM.out, hs]⟩
      case measure => simp [intOf]; omega
    · have hge : 64 ≤ (j : Int) := by assumption
      have : j = 64 := by omega
      subst this
      go_ret
      refine ⟨ret_int ?_, rfl⟩
      rw [HM.out, turnTo_end n _ h0 h1]
      congr 1
      have := HK.out; have := HQ.out
      unfold turnK; omega
end Go.Proofs.Ytfldhkmdagaliaa.NumInts
