import Derived.Test.YtnbiabcgnngamaaMoney4
/- A share, whatever the numbers. -/
namespace Go.Proofs.Ytnbiabcgnngamaa.Money
open Go.ChangeShapes Go.WideShapes Go.ChangeAt Go.RowKit Go.IntWalk Go.Proofs.Mem Go.Proofs.DivMath
set_option linter.unusedVariables false

theorem part_of (n a b q : Int) (hb : 0 < b) (h : n * a / b = q) : partS n a b = if 4611686018427387904 < q then (0, 30) else (q, 0) := by
  unfold partS; rw [if_neg (by omega), h]
set_option maxHeartbeats 4000000 in
/-- what is left once the quotient is known -/
theorem part_any (n a b : Int) (hn : 0 ≤ n ∧ n ≤ 18446744073709551615) (ha : 0 ≤ a ∧ a ≤ 18446744073709551615) (hb : 0 < b ∧ b ≤ 18446744073709551615) (w : World) :
    Calls Try.prog 17 #[.int .u64 n, .int .u64 a, .int .u64 b] w fun e w' => e = .returned (.tuple #[.int .u64 (partS n a b).1, .int .u16 (partS n a b).2]) ∧ Below w.heap.size w w' := by
  obtain ⟨⟨hh0, hh1⟩, hl0, hl1⟩ := mul_bd n a hn ha
  have hp0 : 0 ≤ n * a := Int.mul_nonneg hn.1 ha.1
  obtain ⟨H, hH⟩ : ∃ H, n * a / 18446744073709551616 = H := ⟨_, rfl⟩
  obtain ⟨L, hL⟩ : ∃ L, n * a % 18446744073709551616 = L := ⟨_, rfl⟩
  have hm := fun W => mul64_any n a hn ha W
  rw [hH] at hm hh0 hh1
  rw [hL] at hm hl0 hl1
  have HM := Lib.hid hm
  have hsum : n * a = H * 18446744073709551616 + L := by omega
  have hb0 : (b == 0) = false := by simp; omega
  obtain ⟨Q, hQ⟩ : ∃ Q, n * a / b = Q := ⟨_, rfl⟩
  have hS := part_of n a b Q hb.1 hQ
  have HS := Lib.hid hS
  rw [hsum] at hQ
  have HQ := Lib.hid hQ
  clear hm hH hL hS hQ
  by_cases hge : b ≤ H
  · have hbig : 4611686018427387904 < Q := by
      have : 18446744073709551616 ≤ Q := by
        rw [← HQ.out, le_quo hb.1]
        have := Int.mul_le_mul_of_nonneg_left hge (show (0 : Int) ≤ 18446744073709551616 by omega)
        omega
      omega
    have hs := HS.out
    rw [if_pos hbig] at hs
    have HT := Lib.hid hs
    clear hs hsum hp0
    go_enter Try.func17, Try.ntmps17
    go_wp2_with fail
    (with_reducible refine (HM.out _).mono ?_)
    rintro e w' ⟨rfl, rfl⟩
    go_wp2
    go_ret2
    exact ⟨ret_pair (by rw [HT.out]) (by rw [HT.out]), Below.refl _ _⟩
  · -- the quotient, by whichever way
    have hQb : 0 ≤ Q ∧ Q ≤ 18446744073709551615 := by
      rw [← HQ.out]
      refine ⟨Int.ediv_nonneg (by omega) (by omega), ?_⟩
      have : (H * 18446744073709551616 + L) / b < 18446744073709551616 := by
        rw [Int.ediv_lt_iff_lt_mul hb.1]
        have := Int.mul_le_mul_of_nonneg_left (show H ≤ b - 1 by omega) (show (0 : Int) ≤ 18446744073709551616 by omega)
        omega
      omega
    have hdv : ∀ W : World, Calls Try.prog 23 #[.int .u64 H, .int .u64 L, .int .u64 b] W fun e w' => (∃ r : Int, e = .returned (.tuple #[.int .u64 Q, .int .u64 r])) ∧ ∃ d, w' = W.drewN d := by
      intro W
      by_cases hz : H = 0
      · have h1 := HQ.out
        rw [hz, Int.zero_mul, Int.zero_add] at h1
        rw [hz]
        refine (div64_low L b ⟨hl0, hl1⟩ hb W).mono ?_
        rintro e w' ⟨rfl, d, rfl⟩
        exact ⟨⟨_, by rw [h1]⟩, d, rfl⟩
      · have := div64_any H L b (by omega) (by omega) ⟨hl0, hl1⟩ hb.2 W
        rw [HQ.out] at this
        exact this
    have HD := Lib.hid hdv
    clear hdv hsum hp0
    by_cases hg : 4611686018427387904 < Q
    · have hs := HS.out
      rw [if_pos hg] at hs
      have HT := Lib.hid hs
      have hgr : great [Q] = true := by rw [great_one]; simpa using hg
      clear hs
      go_enter Try.func17, Try.ntmps17
      go_wp2_with fail
      (with_reducible refine (HM.out _).mono ?_)
      rintro e w' ⟨rfl, rfl⟩
      go_wp2_with fail
      (with_reducible refine (HD.out _).mono ?_)
      rintro e w' ⟨⟨r, rfl⟩, d, rfl⟩
      have hv : IR ((w.drewN d).alloc (.cells #[.int .u64 Q] 22)) (w.heap.size + 1) .u64 (.slice (some ⟨w.heap.size, 0, none⟩) 1 1) [Q] := IR.lit (w.drewN d) .u64 [Q] 22 (by simp)
      go_wp2_with fail
      (with_reducible refine (tooGreat_any _ [Q] _ _ hv (range_one hQb)).mono ?_)
      rintro e w' ⟨rfl, rfl⟩
      rw [hgr]
      clear hgr hv
      go_wp2
      go_ret2
      exact ⟨ret_pair (by rw [HT.out]) (by rw [HT.out]), (below_drewN (Below.refl _ _) d).alloc (Nat.le_refl _) _⟩
    · have hs := HS.out
      rw [if_neg hg] at hs
      have HT := Lib.hid hs
      have hgr : great [Q] = false := by rw [great_one]; simpa using hg
      clear hs
      go_enter Try.func17, Try.ntmps17
      go_wp2_with fail
      (with_reducible refine (HM.out _).mono ?_)
      rintro e w' ⟨rfl, rfl⟩
      go_wp2_with fail
      (with_reducible refine (HD.out _).mono ?_)
      rintro e w' ⟨⟨r, rfl⟩, d, rfl⟩
      have hv : IR ((w.drewN d).alloc (.cells #[.int .u64 Q] 22)) (w.heap.size + 1) .u64 (.slice (some ⟨w.heap.size, 0, none⟩) 1 1) [Q] := IR.lit (w.drewN d) .u64 [Q] 22 (by simp)
      go_wp2_with fail
      (with_reducible refine (tooGreat_any _ [Q] _ _ hv (range_one hQb)).mono ?_)
      rintro e w' ⟨rfl, rfl⟩
      rw [hgr]
      clear hgr hv
      go_wp2
      go_ret2
      exact ⟨ret_pair (by rw [HT.out]) (by rw [HT.out]), (below_drewN (Below.refl _ _) d).alloc (Nat.le_refl _) _⟩
end Go.Proofs.Ytnbiabcgnngamaa.Money
