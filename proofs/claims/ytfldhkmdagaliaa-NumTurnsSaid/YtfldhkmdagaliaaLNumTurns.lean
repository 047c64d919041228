/- The law manciplelaw01.NumTurns returns true whatever it is called with, and what it was called with reads as it did. No condition. -/
import Derived.Test.YtfldhkmdagaliaaLaw
import Derived.Test.YtfldhkmdagaliaaNumKnown
namespace Go.Proofs.Ytfldhkmdagaliaa.LNumTurns
open Go.ChangeShapes Go.WideShapes Go.ChangeAt Go.RowKit Go.IntWalk Go.Proofs.Mem Law
set_option linter.unusedVariables false
open NumBytes NumInts Go.Proofs.NumMath
theorem leftS_bd (n b : Int) : 0 ≤ leftS n b ∧ leftS n b ≤ 18446744073709551615 := by unfold leftS; omega
theorem back_zero (n : Int) (h0 : 0 ≤ n) (h1 : n ≤ 18446744073709551615) : rightS (leftS n 0) 0 = n := by
  unfold rightS leftS
  rw [show (0 : Int).toNat = 0 from rfl, show pw 0 = 1 from by decide, Int.mul_one, Int.emod_eq_of_lt h0 (by omega)]
  simp
theorem back_mid (n : Int) (s : Nat) (h : 0 < s) (h' : s < 64) : rightS (leftS n s) s = n % 2 ^ (64 - s) := by
  unfold rightS leftS
  rw [Int.toNat_natCast, pw_of s h', Nat.min_eq_left (by omega)]
  have e64 : (18446744073709551616 : Int) = 2 ^ s * 2 ^ (64 - s) := by
    rw [← p2_add, Nat.add_sub_cancel' (by omega)]; decide
  rw [e64, Int.mul_comm n, Int.mul_emod_mul_of_pos _ _ (p2 _), Int.mul_ediv_cancel_left _ (Int.ne_of_gt (p2 s))]
theorem back_high (n : Int) (s : Nat) (h : 64 ≤ s) : rightS (leftS n s) s = 0 := by
  unfold rightS leftS
  rw [Int.toNat_natCast, pw_zero s h, Int.mul_zero]
  simp
theorem turn_back (n : Int) (K : Nat) (hK : K < 64) (h0 : 0 ≤ n) (h1 : n ≤ 18446744073709551615) : turnS (turnS n K) ((64 - K) % 64) = n := by
  by_cases hz : K = 0
  · subst hz
    have e64 : (2 : Int) ^ 64 = 18446744073709551616 := by decide
    have e : turnS n 0 = n := by
      unfold turnS
      rw [Nat.sub_zero, e64, Int.emod_eq_of_lt h0 (by omega), Int.ediv_eq_zero_of_lt h0 (by omega)]; simp
    rw [show (64 - 0) % 64 = 0 from rfl, e, e]
  · rw [Nat.mod_eq_of_lt (by omega)]
    unfold turnS
    rw [show 64 - (64 - K) = K by omega]
    have e64 : (18446744073709551616 : Int) = 2 ^ (64 - K) * 2 ^ K := by rw [← p2_add, Nat.sub_add_cancel (by omega)]; decide
    have hd := Int.emod_add_mul_ediv n (2 ^ (64 - K))
    have q0 : 0 ≤ n / 2 ^ (64 - K) := Int.ediv_nonneg h0 (Int.le_of_lt (p2 _))
    have q1 : n / 2 ^ (64 - K) < 2 ^ K := Int.ediv_lt_of_lt_mul (p2 _) (by rw [Int.mul_comm, ← e64]; omega)
    have e1 : (n % 2 ^ (64 - K) * 2 ^ K + n / 2 ^ (64 - K)) % 2 ^ K = n / 2 ^ (64 - K) := by
      rw [Int.add_comm, Int.add_mul_emod_self_right, Int.emod_eq_of_lt q0 q1]
    have e2 : (n % 2 ^ (64 - K) * 2 ^ K + n / 2 ^ (64 - K)) / 2 ^ K = n % 2 ^ (64 - K) := by
      rw [Int.add_comm, Int.add_mul_ediv_right _ _ (Int.ne_of_gt (p2 K)), Int.ediv_eq_zero_of_lt q0 q1, Int.zero_add]
    rw [e1, e2, Int.mul_comm (n / _)]
    omega
theorem turnK_neg (k : Int) : turnK (-k) = (64 - turnK k) % 64 := by unfold turnK; omega
theorem turnK_lt (k : Int) : turnK k < 64 := by unfold turnK; omega
theorem signed_64 (x : Int) (h0 : -9223372036854775808 ≤ x) (h1 : x ≤ 9223372036854775807) : signedS (IntKind.u64.wrap x) 64 = x := by
  unfold signedS
  rw [if_neg (by omega), if_pos (by omega), wrap_u64, wrap64_def]; omega
theorem signed_mid (n b : Int) (hb : 0 < b) (hb' : b < 64) : signedS n b = if n % 2 ^ b.toNat < 2 ^ (b.toNat - 1) then n % 2 ^ b.toNat else n % 2 ^ b.toNat - 2 ^ b.toNat := by
  unfold signedS
  rw [if_neg (by omega), if_neg (by omega)]
theorem signed_again (n b : Int) (hb : 0 < b) (hb' : b < 63) : signedS (IntKind.u64.wrap (signedS n b)) b = signedS n b := by
  have hp := p2 b.toNat
  have e64 : (18446744073709551616 : Int) = 2 ^ b.toNat * 2 ^ (64 - b.toNat) := by
    rw [← p2_add, Nat.add_sub_cancel' (by omega)]; decide
  have r0 : 0 ≤ n % 2 ^ b.toNat := Int.emod_nonneg _ (by omega)
  have r1 : n % 2 ^ b.toNat < 2 ^ b.toNat := Int.emod_lt_of_pos _ hp
  have key : IntKind.u64.wrap (signedS n b) % 2 ^ b.toNat = n % 2 ^ b.toNat := by
    rw [wrap_u64, e64, Int.emod_emod_of_dvd _ (Int.dvd_mul_right _ _)]
    unfold signedS
    rw [if_neg (by omega), if_neg (by omega)]
    split
    · exact Int.emod_eq_of_lt r0 r1
    · rw [Int.sub_emod_right, Int.emod_eq_of_lt r0 r1]
  rw [signed_mid _ b hb (by omega), key, ← signed_mid n b hb (by omega)]
theorem turnS_bd (n : Int) (K : Nat) (hK : K < 64) (h0 : 0 ≤ n) (h1 : n ≤ 18446744073709551615) : 0 ≤ turnS n K ∧ turnS n K ≤ 18446744073709551615 := by
  rw [← turnTo_end n K h0 h1]; exact turnTo_lt n K 64 (by omega) hK
set_option maxHeartbeats 4000000 in
theorem walk (w : World) (n : Int) (hn : 0 ≤ n ∧ n ≤ 18446744073709551615) (k : Int) (hk : -9223372036854775808 ≤ k ∧ k ≤ 9223372036854775807) (s : Int) (hs : 0 ≤ s ∧ s ≤ 255) :
    Calls Try.prog 8 #[.int .u64 n, .int .i64 k, .int .u8 s] w fun e w' => e = .returned (.bool true) ∧ Below w.heap.size w w' := by
  obtain ⟨S, hSe, hS0, hS1⟩ : ∃ S : Nat, s % 70 = (S : Int) ∧ 0 ≤ S ∧ S < 70 := ⟨(s % 70).toNat, by omega, by omega, by omega⟩
  obtain ⟨b, hbe, hb0, hb1⟩ : ∃ b : Int, s % 63 = b ∧ 0 ≤ b ∧ b < 63 := ⟨s % 63, rfl, by omega, by omega⟩
  obtain ⟨o, ho0, ho1, hoe, hod⟩ : ∃ o : Int, -9223372036854775808 ≤ o ∧ o ≤ 9223372036854775807 ∧ turnK o = (64 - turnK k) % 64 ∧ ((wrap64 (-k) = k ∧ o = 0) ∨ (wrap64 (-k) = o ∧ (k == o) = false)) := by
    by_cases h : wrap64 (-k) = k
    · refine ⟨0, by omega, by omega, ?_, .inl ⟨h, rfl⟩⟩
      rw [wrap64_def] at h
      unfold turnK; omega
    · refine ⟨wrap64 (-k), by rw [wrap64_def]; omega, by rw [wrap64_def]; omega, ?_, .inr ⟨rfl, by simpa using fun e => h e.symm⟩⟩
      rw [wrap64_def]
      unfold turnK; omega
  have hts := turnS_bd n (turnK k) (turnK_lt k) hn.1 hn.2
  have hls := leftS_bd n S
  have hsb := signedS_bd n b
  have hx : signedS (IntKind.u64.wrap (signedS n b)) 64 = signedS n b := signed_64 _ hsb.1 hsb.2
  have hxb : 0 < b → signedS (IntKind.u64.wrap (signedS n b)) b = signedS n b := fun h => signed_again n b h hb1
  have hwb : 0 ≤ IntKind.u64.wrap (signedS n b) ∧ IntKind.u64.wrap (signedS n b) ≤ 18446744073709551615 := by rw [wrap_u64]; omega
  have hback : (S = 0 ∧ rightS (leftS n S) S = n) ∨ ((0 < S ∧ S < 64) ∧ ∃ M : Int, IntKind.u64.wrap (2 ^ (64 - S)) = M ∧ 0 < M ∧ M ≤ 9223372036854775808 ∧ rightS (leftS n S) S = n % M) ∨ (64 ≤ S ∧ rightS (leftS n S) S = 0) := by
    by_cases h0 : S = 0
    · subst h0; exact .inl ⟨rfl, back_zero n hn.1 hn.2⟩
    · by_cases h1 : S < 64
      · have hp := p2_le (show 64 - S ≤ 63 by omega)
        rw [show (2 : Int) ^ 63 = 9223372036854775808 from by decide] at hp
        exact .inr (.inl ⟨⟨by omega, h1⟩, 2 ^ (64 - S), by rw [wrap_u64, Int.emod_eq_of_lt (Int.le_of_lt (p2 _)) (by omega)], p2 _, hp, back_mid n S (by omega) h1⟩)
      · exact .inr (.inr ⟨by omega, back_high n S (by omega)⟩)
  have HX := Lib.hid hx
  have HXB := Lib.hid hxb
  have HOE := Lib.hid hoe
  clear hx hxb hoe
  by_cases hbz : b = 0
  · subst hbz
    rcases hback with ⟨hS, hW⟩ | ⟨⟨hSa, hSb⟩, M, hM, hM0, hM1, hW⟩ | ⟨hS, hW⟩
    · subst hS
      have HW := Lib.hid (back_zero n hn.1 hn.2)
      clear hW
      rcases hod with ⟨hk1, rfl⟩ | ⟨hk1, hk2⟩
      · go_enter Try.func8, Try.ntmps8
        go_wp2_with fail
        (with_reducible refine (left_any n 0 hn.1 hn.2 (by omega) (by omega) _).mono ?_)
        rintro e w' ⟨rfl, rfl⟩
        go_wp2_with fail
        (with_reducible refine (right_any _ 0 (leftS_bd n 0).1 (leftS_bd n 0).2 (by omega) (by omega) _).mono ?_)
        rintro e w' ⟨rfl, rfl⟩
        rw [HW.out]
        go_wp2_with fail
        (with_reducible refine (signed_any n 0 hn.1 hn.2 (by omega) (by omega) _).mono ?_)
        rintro e w' ⟨rfl, rfl⟩
        go_wp2_with fail
        (with_reducible refine (known_any _).mono ?_)
        rintro e w1 ⟨rfl, hb1⟩
        go_wp2_with fail
        (with_reducible refine (turn_any n k hn.1 hn.2 hk.1 hk.2 _).mono ?_)
        rintro e w' ⟨rfl, rfl⟩
        go_wp2_with fail
        (with_reducible refine (turn_any _ 0 hts.1 hts.2 ho0 ho1 _).mono ?_)
        rintro e w' ⟨rfl, rfl⟩
        rw [HOE.out, turn_back n (turnK k) (turnK_lt k) hn.1 hn.2]
        go_wp2_with fail
        (with_reducible refine (signed_any _ 64 hwb.1 hwb.2 (by omega) (by omega) _).mono ?_)
        rintro e w' ⟨rfl, rfl⟩
        rw [HX.out]
        go_wp2
        go_ret
        exact ⟨rfl, hb1⟩
      · go_enter Try.func8, Try.ntmps8
        go_wp2_with fail
        (with_reducible refine (left_any n 0 hn.1 hn.2 (by omega) (by omega) _).mono ?_)
        rintro e w' ⟨rfl, rfl⟩
        go_wp2_with fail
        (with_reducible refine (right_any _ 0 (leftS_bd n 0).1 (leftS_bd n 0).2 (by omega) (by omega) _).mono ?_)
        rintro e w' ⟨rfl, rfl⟩
        rw [HW.out]
        go_wp2_with fail
        (with_reducible refine (signed_any n 0 hn.1 hn.2 (by omega) (by omega) _).mono ?_)
        rintro e w' ⟨rfl, rfl⟩
        go_wp2_with fail
        (with_reducible refine (known_any _).mono ?_)
        rintro e w1 ⟨rfl, hb1⟩
        go_wp2_with fail
        (with_reducible refine (turn_any n k hn.1 hn.2 hk.1 hk.2 _).mono ?_)
        rintro e w' ⟨rfl, rfl⟩
        go_wp2_with fail
        (with_reducible refine (turn_any _ o hts.1 hts.2 ho0 ho1 _).mono ?_)
        rintro e w' ⟨rfl, rfl⟩
        rw [HOE.out, turn_back n (turnK k) (turnK_lt k) hn.1 hn.2]
        go_wp2_with fail
        (with_reducible refine (signed_any _ 64 hwb.1 hwb.2 (by omega) (by omega) _).mono ?_)
        rintro e w' ⟨rfl, rfl⟩
        rw [HX.out]
        go_wp2
        go_ret
        exact ⟨rfl, hb1⟩
    · have HW := Lib.hid hW
      clear hW
      rcases hod with ⟨hk1, rfl⟩ | ⟨hk1, hk2⟩
      · go_enter Try.func8, Try.ntmps8
        go_wp2_with fail
        (with_reducible refine (left_any n S hn.1 hn.2 (by omega) (by omega) _).mono ?_)
        rintro e w' ⟨rfl, rfl⟩
        go_wp2_with fail
        (with_reducible refine (right_any _ S hls.1 hls.2 (by omega) (by omega) _).mono ?_)
        rintro e w' ⟨rfl, rfl⟩
        rw [HW.out]
        go_wp2_with fail
        (with_reducible refine (signed_any n 0 hn.1 hn.2 (by omega) (by omega) _).mono ?_)
        rintro e w' ⟨rfl, rfl⟩
        go_wp2_with fail
        (with_reducible refine (known_any _).mono ?_)
        rintro e w1 ⟨rfl, hb1⟩
        go_wp2_with fail
        (with_reducible refine (turn_any n k hn.1 hn.2 hk.1 hk.2 _).mono ?_)
        rintro e w' ⟨rfl, rfl⟩
        go_wp2_with fail
        (with_reducible refine (turn_any _ 0 hts.1 hts.2 ho0 ho1 _).mono ?_)
        rintro e w' ⟨rfl, rfl⟩
        rw [HOE.out, turn_back n (turnK k) (turnK_lt k) hn.1 hn.2]
        go_wp2_with fail
        (with_reducible refine (signed_any _ 64 hwb.1 hwb.2 (by omega) (by omega) _).mono ?_)
        rintro e w' ⟨rfl, rfl⟩
        rw [HX.out]
        go_wp2
        go_ret
        exact ⟨rfl, hb1⟩
      · go_enter Try.func8, Try.ntmps8
        go_wp2_with fail
        (with_reducible refine (left_any n S hn.1 hn.2 (by omega) (by omega) _).mono ?_)
        rintro e w' ⟨rfl, rfl⟩
        go_wp2_with fail
        (with_reducible refine (right_any _ S hls.1 hls.2 (by omega) (by omega) _).mono ?_)
        rintro e w' ⟨rfl, rfl⟩
        rw [HW.out]
        go_wp2_with fail
        (with_reducible refine (signed_any n 0 hn.1 hn.2 (by omega) (by omega) _).mono ?_)
        rintro e w' ⟨rfl, rfl⟩
        go_wp2_with fail
        (with_reducible refine (known_any _).mono ?_)
        rintro e w1 ⟨rfl, hb1⟩
        go_wp2_with fail
        (with_reducible refine (turn_any n k hn.1 hn.2 hk.1 hk.2 _).mono ?_)
        rintro e w' ⟨rfl, rfl⟩
        go_wp2_with fail
        (with_reducible refine (turn_any _ o hts.1 hts.2 ho0 ho1 _).mono ?_)
        rintro e w' ⟨rfl, rfl⟩
        rw [HOE.out, turn_back n (turnK k) (turnK_lt k) hn.1 hn.2]
        go_wp2_with fail
        (with_reducible refine (signed_any _ 64 hwb.1 hwb.2 (by omega) (by omega) _).mono ?_)
        rintro e w' ⟨rfl, rfl⟩
        rw [HX.out]
        go_wp2
        go_ret
        exact ⟨rfl, hb1⟩
    · exfalso; omega
  · have hb2 : 0 < b := by omega
    have hbf : (b == 0) = false := by simp; omega
    rcases hback with ⟨hS, hW⟩ | ⟨⟨hSa, hSb⟩, M, hM, hM0, hM1, hW⟩ | ⟨hS, hW⟩
    · subst hS
      have HW := Lib.hid (back_zero n hn.1 hn.2)
      clear hW
      rcases hod with ⟨hk1, rfl⟩ | ⟨hk1, hk2⟩
      · go_enter Try.func8, Try.ntmps8
        go_wp2_with fail
        (with_reducible refine (left_any n 0 hn.1 hn.2 (by omega) (by omega) _).mono ?_)
        rintro e w' ⟨rfl, rfl⟩
        go_wp2_with fail
        (with_reducible refine (right_any _ 0 (leftS_bd n 0).1 (leftS_bd n 0).2 (by omega) (by omega) _).mono ?_)
        rintro e w' ⟨rfl, rfl⟩
        rw [HW.out]
        go_wp2_with fail
        (with_reducible refine (signed_any n b hn.1 hn.2 (by omega) (by omega) _).mono ?_)
        rintro e w' ⟨rfl, rfl⟩
        go_wp2_with fail
        (with_reducible refine (known_any _).mono ?_)
        rintro e w1 ⟨rfl, hb1⟩
        go_wp2_with fail
        (with_reducible refine (turn_any n k hn.1 hn.2 hk.1 hk.2 _).mono ?_)
        rintro e w' ⟨rfl, rfl⟩
        go_wp2_with fail
        (with_reducible refine (turn_any _ 0 hts.1 hts.2 ho0 ho1 _).mono ?_)
        rintro e w' ⟨rfl, rfl⟩
        rw [HOE.out, turn_back n (turnK k) (turnK_lt k) hn.1 hn.2]
        go_wp2_with fail
        (with_reducible refine (signed_any _ 64 hwb.1 hwb.2 (by omega) (by omega) _).mono ?_)
        rintro e w' ⟨rfl, rfl⟩
        rw [HX.out]
        go_wp2_with fail
        (with_reducible refine (signed_any _ b hwb.1 hwb.2 (by omega) (by omega) _).mono ?_)
        rintro e w' ⟨rfl, rfl⟩
        rw [HXB.out hb2]
        go_wp2
        go_ret
        exact ⟨rfl, hb1⟩
      · go_enter Try.func8, Try.ntmps8
        go_wp2_with fail
        (with_reducible refine (left_any n 0 hn.1 hn.2 (by omega) (by omega) _).mono ?_)
        rintro e w' ⟨rfl, rfl⟩
        go_wp2_with fail
        (with_reducible refine (right_any _ 0 (leftS_bd n 0).1 (leftS_bd n 0).2 (by omega) (by omega) _).mono ?_)
        rintro e w' ⟨rfl, rfl⟩
        rw [HW.out]
        go_wp2_with fail
        (with_reducible refine (signed_any n b hn.1 hn.2 (by omega) (by omega) _).mono ?_)
        rintro e w' ⟨rfl, rfl⟩
        go_wp2_with fail
        (with_reducible refine (known_any _).mono ?_)
        rintro e w1 ⟨rfl, hb1⟩
        go_wp2_with fail
        (with_reducible refine (turn_any n k hn.1 hn.2 hk.1 hk.2 _).mono ?_)
        rintro e w' ⟨rfl, rfl⟩
        go_wp2_with fail
        (with_reducible refine (turn_any _ o hts.1 hts.2 ho0 ho1 _).mono ?_)
        rintro e w' ⟨rfl, rfl⟩
        rw [HOE.out, turn_back n (turnK k) (turnK_lt k) hn.1 hn.2]
        go_wp2_with fail
        (with_reducible refine (signed_any _ 64 hwb.1 hwb.2 (by omega) (by omega) _).mono ?_)
        rintro e w' ⟨rfl, rfl⟩
        rw [HX.out]
        go_wp2_with fail
        (with_reducible refine (signed_any _ b hwb.1 hwb.2 (by omega) (by omega) _).mono ?_)
        rintro e w' ⟨rfl, rfl⟩
        rw [HXB.out hb2]
        go_wp2
        go_ret
        exact ⟨rfl, hb1⟩
    · have HW := Lib.hid hW
      clear hW
      rcases hod with ⟨hk1, rfl⟩ | ⟨hk1, hk2⟩
      · go_enter Try.func8, Try.ntmps8
        go_wp2_with fail
        (with_reducible refine (left_any n S hn.1 hn.2 (by omega) (by omega) _).mono ?_)
        rintro e w' ⟨rfl, rfl⟩
        go_wp2_with fail
        (with_reducible refine (right_any _ S hls.1 hls.2 (by omega) (by omega) _).mono ?_)
        rintro e w' ⟨rfl, rfl⟩
        rw [HW.out]
        go_wp2_with fail
        (with_reducible refine (signed_any n b hn.1 hn.2 (by omega) (by omega) _).mono ?_)
        rintro e w' ⟨rfl, rfl⟩
        go_wp2_with fail
        (with_reducible refine (known_any _).mono ?_)
        rintro e w1 ⟨rfl, hb1⟩
        go_wp2_with fail
        (with_reducible refine (turn_any n k hn.1 hn.2 hk.1 hk.2 _).mono ?_)
        rintro e w' ⟨rfl, rfl⟩
        go_wp2_with fail
        (with_reducible refine (turn_any _ 0 hts.1 hts.2 ho0 ho1 _).mono ?_)
        rintro e w' ⟨rfl, rfl⟩
        rw [HOE.out, turn_back n (turnK k) (turnK_lt k) hn.1 hn.2]
        go_wp2_with fail
        (with_reducible refine (signed_any _ 64 hwb.1 hwb.2 (by omega) (by omega) _).mono ?_)
        rintro e w' ⟨rfl, rfl⟩
        rw [HX.out]
        go_wp2_with fail
        (with_reducible refine (signed_any _ b hwb.1 hwb.2 (by omega) (by omega) _).mono ?_)
        rintro e w' ⟨rfl, rfl⟩
        rw [HXB.out hb2]
        go_wp2
        go_ret
        exact ⟨rfl, hb1⟩
      · go_enter Try.func8, Try.ntmps8
        go_wp2_with fail
        (with_reducible refine (left_any n S hn.1 hn.2 (by omega) (by omega) _).mono ?_)
        rintro e w' ⟨rfl, rfl⟩
        go_wp2_with fail
        (with_reducible refine (right_any _ S hls.1 hls.2 (by omega) (by omega) _).mono ?_)
        rintro e w' ⟨rfl, rfl⟩
        rw [HW.out]
        go_wp2_with fail
        (with_reducible refine (signed_any n b hn.1 hn.2 (by omega) (by omega) _).mono ?_)
        rintro e w' ⟨rfl, rfl⟩
        go_wp2_with fail
        (with_reducible refine (known_any _).mono ?_)
        rintro e w1 ⟨rfl, hb1⟩
        go_wp2_with fail
        (with_reducible refine (turn_any n k hn.1 hn.2 hk.1 hk.2 _).mono ?_)
        rintro e w' ⟨rfl, rfl⟩
        go_wp2_with fail
        (with_reducible refine (turn_any _ o hts.1 hts.2 ho0 ho1 _).mono ?_)
        rintro e w' ⟨rfl, rfl⟩
        rw [HOE.out, turn_back n (turnK k) (turnK_lt k) hn.1 hn.2]
        go_wp2_with fail
        (with_reducible refine (signed_any _ 64 hwb.1 hwb.2 (by omega) (by omega) _).mono ?_)
        rintro e w' ⟨rfl, rfl⟩
        rw [HX.out]
        go_wp2_with fail
        (with_reducible refine (signed_any _ b hwb.1 hwb.2 (by omega) (by omega) _).mono ?_)
        rintro e w' ⟨rfl, rfl⟩
        rw [HXB.out hb2]
        go_wp2
        go_ret
        exact ⟨rfl, hb1⟩
    · have HW := Lib.hid hW
      clear hW
      rcases hod with ⟨hk1, rfl⟩ | ⟨hk1, hk2⟩
      · go_enter Try.func8, Try.ntmps8
        go_wp2_with fail
        (with_reducible refine (left_any n S hn.1 hn.2 (by omega) (by omega) _).mono ?_)
        rintro e w' ⟨rfl, rfl⟩
        go_wp2_with fail
        (with_reducible refine (right_any _ S hls.1 hls.2 (by omega) (by omega) _).mono ?_)
        rintro e w' ⟨rfl, rfl⟩
        rw [HW.out]
        go_wp2_with fail
        (with_reducible refine (signed_any n b hn.1 hn.2 (by omega) (by omega) _).mono ?_)
        rintro e w' ⟨rfl, rfl⟩
        go_wp2_with fail
        (with_reducible refine (known_any _).mono ?_)
        rintro e w1 ⟨rfl, hb1⟩
        go_wp2_with fail
        (with_reducible refine (turn_any n k hn.1 hn.2 hk.1 hk.2 _).mono ?_)
        rintro e w' ⟨rfl, rfl⟩
        go_wp2_with fail
        (with_reducible refine (turn_any _ 0 hts.1 hts.2 ho0 ho1 _).mono ?_)
        rintro e w' ⟨rfl, rfl⟩
        rw [HOE.out, turn_back n (turnK k) (turnK_lt k) hn.1 hn.2]
        go_wp2_with fail
        (with_reducible refine (signed_any _ 64 hwb.1 hwb.2 (by omega) (by omega) _).mono ?_)
        rintro e w' ⟨rfl, rfl⟩
        rw [HX.out]
        go_wp2_with fail
        (with_reducible refine (signed_any _ b hwb.1 hwb.2 (by omega) (by omega) _).mono ?_)
        rintro e w' ⟨rfl, rfl⟩
        rw [HXB.out hb2]
        go_wp2
        go_ret
        exact ⟨rfl, hb1⟩
      · go_enter Try.func8, Try.ntmps8
        go_wp2_with fail
        (with_reducible refine (left_any n S hn.1 hn.2 (by omega) (by omega) _).mono ?_)
        rintro e w' ⟨rfl, rfl⟩
        go_wp2_with fail
        (with_reducible refine (right_any _ S hls.1 hls.2 (by omega) (by omega) _).mono ?_)
        rintro e w' ⟨rfl, rfl⟩
        rw [HW.out]
        go_wp2_with fail
        (with_reducible refine (signed_any n b hn.1 hn.2 (by omega) (by omega) _).mono ?_)
        rintro e w' ⟨rfl, rfl⟩
        go_wp2_with fail
        (with_reducible refine (known_any _).mono ?_)
        rintro e w1 ⟨rfl, hb1⟩
        go_wp2_with fail
        (with_reducible refine (turn_any n k hn.1 hn.2 hk.1 hk.2 _).mono ?_)
        rintro e w' ⟨rfl, rfl⟩
        go_wp2_with fail
        (with_reducible refine (turn_any _ o hts.1 hts.2 ho0 ho1 _).mono ?_)
        rintro e w' ⟨rfl, rfl⟩
        rw [HOE.out, turn_back n (turnK k) (turnK_lt k) hn.1 hn.2]
        go_wp2_with fail
        (with_reducible refine (signed_any _ 64 hwb.1 hwb.2 (by omega) (by omega) _).mono ?_)
        rintro e w' ⟨rfl, rfl⟩
        rw [HX.out]
        go_wp2_with fail
        (with_reducible refine (signed_any _ b hwb.1 hwb.2 (by omega) (by omega) _).mono ?_)
        rintro e w' ⟨rfl, rfl⟩
        rw [HXB.out hb2]
        go_wp2
        go_ret
        exact ⟨rfl, hb1⟩


set_option maxRecDepth 100000 in
theorem lifted (os : Os) (started : os.Started) (H : Type) (enc : TypeId × Value → H) :
    ReturnsInHanded {} Try.checked os 8 .any (Rows.numTurnsSpec.pre6 enc Try.prog Try.f8 Rows.numTurnsRow.domain false) (Rows.numTurnsSpec.post enc Try.prog Try.f8 false true false false) := by
  refine returnsInHanded_of_change (C := Try.checked) own started (by kernel_rfl) Try.func8
    (ChangeSpec.witness6 (enc := enc) (C := Try.checked) false ⟨#[], #[.int .u64 0, .int .i64 0, .int .u8 0], []⟩ 8 (by kernel_rfl) (by kernel_rfl) (by kernel_rfl) (by kernel_rfl)) ?_
  intro W base args ds gs before hval0 hW hcnd _
  have hval : ∀ (j : Nat) t v, Try.f8.params[j]? = some t → args[j]? = some v → Value.okWide Try.prog W .any base t v := hval0
  have hW' := hW
  obtain ⟨p, q, hA0, hV, rfl, hfz, hnd⟩ := hW
  have hA1 : DataW.TrodAll enc Try.prog W 0 (fun _ => true) true Try.f8.params.toList args.toList ds p := hA0
  have hA := hA1
  rw [Try.params8] at hA hval
  obtain ⟨v0, vs0, d0, ds0, p0, q0, hargs, rfl, rfl, h0, r0⟩ := trodAll_cons hA
  obtain ⟨v1, vs1, d1, ds1, p1, q1, rfl, rfl, rfl, h1, r1⟩ := trodAll_cons r0
  obtain ⟨v2, vs2, d2, ds2, p2, q2, rfl, rfl, rfl, h2, r2⟩ := trodAll_cons r1
  obtain ⟨rfl, rfl, rfl⟩ := trodAll_nil r2
  obtain rfl : args = #[v0, v1, v2] := by cases args; simp_all
  obtain ⟨rfl, rfl⟩ := trodVars_none hV
  obtain ⟨n, rfl, rfl, rfl, wf0⟩ := open_int Try.underlying22 (hval 0 22 v0 rfl rfl) h0
  obtain ⟨k, rfl, rfl, rfl, wf1⟩ := open_int Try.underlying3 (hval 1 3 v1 rfl rfl) h1
  obtain ⟨s, rfl, rfl, rfl, wf2⟩ := open_int Try.underlying5 (hval 2 5 v2 rfl rfl) h2
  clear hA0 hval0
  refine (walk W n (bounds_u64 wf0) k (bounds_i64 wf1) s (bounds_u8 wf2)).mono fun e W' ⟨he, bel⟩ => ?_
  subst he
  exact ⟨_, rfl, _, _, _, [], _, [], hW', trodAll_mk1 (shut_bool Try.underlying4 _), args_again laidOut bel (by kernel_rfl) hA1, rfl, bel.frame _, fun h => by cases h⟩

theorem over : Rows.numTurnsRow.holds Try.pinned (OpenSpec.ofChange Rows.numTurnsSpec) :=
  OpenClaim.holds_of_wide 8 Try.f8 rfl rfl rfl rfl rfl rfl rfl ⟨rfl, rfl, rfl, rfl, rfl⟩ rfl rfl rfl rfl rfl (by kernel_rfl) Try.func8 (by kernel_rfl)
    (of_decide_eq_true (by kernel_rfl)) (by unfold Func.isWrapper; first | (rw [if_pos (by decide +kernel)]; kernel_rfl) | (rw [if_neg (by decide +kernel)]; exact ⟨rfl, rfl⟩))
    (fun os started H enc _ => lifted os started H enc)

theorem proved : Rows.NumTurnsSaid := over
end Go.Proofs.Ytfldhkmdagaliaa.LNumTurns
