import Derived.Test.YtnbiabcgnngamaaMoney3
import Derived.Test.YtnbiabcgnngamaaDivMath
/- Dividing 128 bits by 64: the walk. -/
namespace Go.Proofs.Ytnbiabcgnngamaa.Money
open Go.ChangeShapes Go.WideShapes Go.ChangeAt Go.RowKit Go.IntWalk Go.Proofs.Mem Go.Proofs.DivMath
set_option linter.unusedVariables false
theorem or_join_u64 (x y : Int) (i : Nat) (hx0 : 0 ≤ x) (hx1 : x ≤ 18446744073709551615) (hy0 : 0 ≤ y) (hy : y < 2 ^ i) (hy1 : y ≤ 18446744073709551615) (hx : x % 2 ^ i = 0) : bits .or .u64 x y = x + y := by
  obtain ⟨a, rfl⟩ := Int.eq_ofNat_of_zero_le hx0
  obtain ⟨b, rfl⟩ := Int.eq_ofNat_of_zero_le hy0
  have e : ((2 : Int) ^ i) = ((2 ^ i : Nat) : Int) := by simp
  rw [e] at hx hy
  rw [u64_or_nat a b (by omega) (by omega), nat_join i a b (by omega) (by omega)]
  omega

set_option maxRecDepth 100000 in
set_option maxHeartbeats 4000000 in
theorem div64_any (hi lo y : Int) (hh : 0 < hi) (hhy : hi < y) (hlo : 0 ≤ lo ∧ lo ≤ 18446744073709551615) (hy : y ≤ 18446744073709551615) (w : World) :
    Calls Try.prog 23 #[.int .u64 hi, .int .u64 lo, .int .u64 y] w fun e w' => (∃ r : Int, e = .returned (.tuple #[.int .u64 ((hi * 18446744073709551616 + lo) / y), .int .u64 r])) ∧ ∃ d, w' = w.drewN d := by
  obtain ⟨l1, l2, l3, l4⟩ := bitLen_64 y (by omega) hy
  obtain ⟨s, hs, hse⟩ : ∃ s : Nat, s ≤ 63 ∧ bitLen y.toNat = 64 - s := ⟨64 - bitLen y.toNat, by omega, by omega⟩
  have hlead := lead64_any y (by omega) hy l2
  rw [show (64 - (bitLen y.toNat : Int)) = (s : Int) by omega] at hlead
  have HLEAD := Lib.hid hlead
  rw [hse] at l3 l4
  -- the divisor, shifted up
  obtain ⟨Y, hYe, hY⟩ : ∃ Y, y * 2 ^ s = Y ∧ (9223372036854775808 ≤ Y ∧ Y ≤ 18446744073709551615) := by
    refine ⟨_, rfl, ?_, ?_⟩
    · have h := Int.mul_le_mul_of_nonneg_right l3 (Int.le_of_lt (p2 s))
      rw [← p2_add, show 64 - s - 1 + s = 63 by omega] at h
      have e : (2 : Int) ^ 63 = 9223372036854775808 := by decide
      omega
    · have h := Int.mul_lt_mul_of_pos_right l4 (p2 s)
      rw [← p2_add, show 64 - s + s = 64 by omega, p2_64] at h
      omega
  have hYw : IntKind.u64.wrap (y * 2 ^ s) = Y := by rw [hYe]; exact u64_in _ (by omega)
  -- the number, shifted up
  obtain ⟨U, hUe, hU0, hUY⟩ : ∃ U, hi * 2 ^ s + lo / 2 ^ (64 - s) = U ∧ 0 ≤ U ∧ U < Y := by
    have a0 : 0 ≤ hi * 2 ^ s := Int.mul_nonneg (by omega) (Int.le_of_lt (p2 s))
    have b0 : 0 ≤ lo / 2 ^ (64 - s) := Int.ediv_nonneg hlo.1 (Int.le_of_lt (p2 _))
    have b1 : lo / 2 ^ (64 - s) < 2 ^ s := by
      apply Int.ediv_lt_of_lt_mul (p2 _)
      rw [← p2_add, show s + (64 - s) = 64 by omega, p2_64]; omega
    have c1 : (hi + 1) * 2 ^ s ≤ y * 2 ^ s := Int.mul_le_mul_of_nonneg_right (by omega) (Int.le_of_lt (p2 s))
    rw [Int.add_mul, Int.one_mul, hYe] at c1
    exact ⟨_, rfl, by omega, by omega⟩
  have hUw : bits .or .u64 (IntKind.u64.wrap (hi * 2 ^ s)) (lo / 2 ^ (64 - s)) = U := by
    have a0 : 0 ≤ hi * 2 ^ s := Int.mul_nonneg (by omega) (Int.le_of_lt (p2 s))
    have b0 : 0 ≤ lo / 2 ^ (64 - s) := Int.ediv_nonneg hlo.1 (Int.le_of_lt (p2 _))
    have b1 : lo / 2 ^ (64 - s) < 2 ^ s := by
      apply Int.ediv_lt_of_lt_mul (p2 _)
      rw [← p2_add, show s + (64 - s) = 64 by omega, p2_64]; omega
    rw [IntKind.wrap_u64, Int.emod_eq_of_lt a0 (by omega), or_join_u64 _ _ s a0 (by omega) b0 b1 (by omega) (Int.mul_emod_left _ _), hUe]
  obtain ⟨L, hLw, hL⟩ : ∃ L, IntKind.u64.wrap (lo * 2 ^ s) = L ∧ (0 ≤ L ∧ L ≤ 18446744073709551615) := ⟨_, rfl, by rw [IntKind.wrap_u64]; omega⟩
  have hN : U * 18446744073709551616 + L = (hi * 18446744073709551616 + lo) * 2 ^ s := by
    rw [← hLw, ← hUe, IntKind.wrap_u64, shifted hi lo y s hs hlo]
  have ha := and_low32 Y (by omega) (by omega)
  have hb := and_low32 L (by omega) (by omega)
  obtain ⟨Y1, e1, y1b⟩ : ∃ Y1, Y / 4294967296 = Y1 ∧ (2147483648 ≤ Y1 ∧ Y1 ≤ 4294967295) := ⟨_, rfl, by omega⟩
  obtain ⟨Y0, e2, y0b⟩ : ∃ Y0, Y % 4294967296 = Y0 ∧ (0 ≤ Y0 ∧ Y0 < 4294967296) := ⟨_, rfl, by omega⟩
  obtain ⟨L1, e6, l1b⟩ : ∃ L1, L / 4294967296 = L1 ∧ (0 ≤ L1 ∧ L1 < 4294967296) := ⟨_, rfl, by omega⟩
  obtain ⟨L0, e7, l0b⟩ : ∃ L0, L % 4294967296 = L0 ∧ (0 ≤ L0 ∧ L0 < 4294967296) := ⟨_, rfl, by omega⟩
  have hYs : Y = Y1 * 4294967296 + Y0 := by omega
  have hLs : L = L1 * 4294967296 + L0 := by omega
  have hYp : 0 < Y1 * 4294967296 + Y0 := by omega
  have hUY' : U < Y1 * 4294967296 + Y0 := by omega
  -- the first half of the quotient, and what it leaves
  obtain ⟨Q1, hQ1⟩ : ∃ Q1, Q1 = (U * 4294967296 + L1) / (Y1 * 4294967296 + Y0) := ⟨_, rfl⟩
  obtain ⟨R1, hR1⟩ : ∃ R1, R1 = (U * 4294967296 + L1) % (Y1 * 4294967296 + Y0) := ⟨_, rfl⟩
  have hR1b : 0 ≤ R1 ∧ R1 < Y1 * 4294967296 + Y0 := by rw [hR1]; exact ⟨Int.emod_nonneg _ (by omega), Int.emod_lt_of_pos _ hYp⟩
  have hQ1b : 0 ≤ Q1 ∧ Q1 ≤ 4294967295 := by
    rw [hQ1]
    refine ⟨Int.ediv_nonneg (by omega) (by omega), ?_⟩
    have : (U * 4294967296 + L1) / (Y1 * 4294967296 + Y0) < 4294967296 := by
      rw [Int.ediv_lt_iff_lt_mul hYp]; omega
    omega
  have hR1s : IntKind.u64.wrap (IntKind.u64.wrap (IntKind.u64.wrap (U * 4294967296) + L1) - IntKind.u64.wrap (Q1 * Y)) = R1 := by
    have h := Int.mul_ediv_add_emod (U * 4294967296 + L1) (Y1 * 4294967296 + Y0)
    rw [← hQ1, ← hR1, ← hYs, Int.mul_comm] at h
    simp only [IntKind.wrap_u64]
    generalize Q1 * Y = X at *
    omega
  obtain ⟨Q0, hQ0⟩ : ∃ Q0, Q0 = (R1 * 4294967296 + L0) / (Y1 * 4294967296 + Y0) := ⟨_, rfl⟩
  have hQ0b : 0 ≤ Q0 ∧ Q0 ≤ 4294967295 := by
    rw [hQ0]
    refine ⟨Int.ediv_nonneg (by omega) (by omega), ?_⟩
    have : (R1 * 4294967296 + L0) / (Y1 * 4294967296 + Y0) < 4294967296 := by
      rw [Int.ediv_lt_iff_lt_mul hYp]; omega
    omega
  have hfin : Q1 * 4294967296 + Q0 = (hi * 18446744073709551616 + lo) / y := by
    have h := quo_halves U L1 L0 (Y1 * 4294967296 + Y0) hYp
    rw [← hQ1, ← hR1, ← hQ0, ← hLs, hN, ← hYs, ← hYe, Int.mul_ediv_mul_of_pos_left _ _ (p2 s)] at h
    exact h.symm
  have i1 := init_ok (u := L1) y1b.1 y0b l1b ⟨hU0, hUY'⟩
  have i0 := init_ok (u := L0) y1b.1 y0b l0b hR1b
  rw [← hQ1] at i1
  rw [← hQ0] at i0
  obtain ⟨a1, a2, a3, a4, a5⟩ := i1
  obtain ⟨b1, b2, b3, b4, b5⟩ := i0
  have hPA : IntKind.u64.wrap (U - IntKind.u64.wrap (U / Y1 * Y1)) = U % Y1 := by
    simp only [IntKind.wrap_u64]
    generalize U / Y1 * Y1 = X at *
    omega
  have hPB : IntKind.u64.wrap (R1 - IntKind.u64.wrap (R1 / Y1 * Y1)) = R1 % Y1 := by
    simp only [IntKind.wrap_u64]
    generalize R1 / Y1 * Y1 = X at *
    omega
  have HQ1 := Lib.hid hQ1
  have HQ0 := Lib.hid hQ0
  have HFIN := Lib.hid hfin
  have HA3 := Lib.hid a3
  have HB3 := Lib.hid b3
  have hYd : decide (y ≤ hi) = false := by simp; omega
  clear hQ1 hQ0 hfin hYs hLs hN hUe hYe hR1 a3 b3 l3 l4 hse l1 l2 hlead hUY
  go_enter Try.func23, Try.ntmps23
  go_wp2_with fail
  (with_reducible refine (HLEAD.out _).mono ?_)
  rintro e w' ⟨rfl, rfl⟩
  go_wp2_with fail
  clear hYw hUw hLw
  go_loop [15, 16] (fun q r => ∃ a b : Int, q = .int .u64 a ∧ r = .int .u64 b ∧ (0 ≤ a ∧ a ≤ 4294967297) ∧ (0 ≤ b ∧ b < 4294967296) ∧ a * Y1 + b = U ∧ Q1 ≤ a) (fun q _ => (intOf q).toNat)
  case atStart => exact ⟨U / Y1, U % Y1, rfl, by first | rfl | rw [hPA], ⟨a1, a2⟩, by omega, HA3.out, a5⟩
  case round =>
    obtain ⟨q, r, rfl, rfl, hq, hr, hs1, hqQ⟩ := hrel
    have HS1 := Lib.hid hs1
    have pb := prod_bd hq y0b
    have hst := fun h => step_ok hYp l1b hUY' hs1 (by rw [← HQ1.out]; exact hqQ) h
    have hex := fun h => exit_ok hYp hs1 (by rw [← HQ1.out]; exact hqQ) h
    rw [← HQ1.out] at hst hex
    have HST := Lib.hid hst
    have HEX := Lib.hid hex
    clear hst hex hs1
    by_cases hA : 4294967296 ≤ q
    · have hQ' := HST.out (.inl hA)
      have hs2 : (q - 1) * Y1 + (r + Y1) = U := by have := HS1.out; rw [Int.sub_mul, Int.one_mul]; omega
      have HS2 := Lib.hid hs2
      clear hs2
      by_cases hb2 : 4294967296 ≤ r + Y1
      · have hbr := break_ok hYp y0b l1b.1 HS2.out (by rw [← HQ1.out]; exact hQ') (by omega) hb2
        rw [← HQ1.out] at hbr
        go_wp2_with fail
        go_loop [18, 16] (fun q r => ∃ a b : Int, q = .int .u64 a ∧ r = .int .u64 b ∧ (0 ≤ a ∧ a ≤ 4294967297) ∧ (0 ≤ b ∧ b < 4294967296) ∧ a * Y1 + b = R1 ∧ Q0 ≤ a) (fun q _ => (intOf q).toNat)
        case atStart => exact ⟨R1 / Y1, R1 % Y1, rfl, by first | rfl | rw [hPB], ⟨b1, b2⟩, by omega, HB3.out, b5⟩
        case round =>
          obtain ⟨x, z, rfl, rfl, hx, hz, hs3, hxQ⟩ := hrel
          have HSB := Lib.hid hs3
          have pbB := prod_bd hx y0b
          have hstB := fun h => step_ok hYp l0b hR1b.2 hs3 (by rw [← HQ0.out]; exact hxQ) h
          have hexB := fun h => exit_ok hYp hs3 (by rw [← HQ0.out]; exact hxQ) h
          rw [← HQ0.out] at hstB hexB
          have HSTB := Lib.hid hstB
          have HEXB := Lib.hid hexB
          clear hstB hexB hs3
          by_cases hA : 4294967296 ≤ x
          · have hQ' := HSTB.out (.inl hA)
            have hs2 : (x - 1) * Y1 + (z + Y1) = R1 := by have := HSB.out; rw [Int.sub_mul, Int.one_mul]; omega
            have HS2 := Lib.hid hs2
            clear hs2
            by_cases hb2 : 4294967296 ≤ z + Y1
            · have hbr := break_ok hYp y0b l0b.1 HS2.out (by rw [← HQ0.out]; exact hQ') (by omega) hb2
              rw [← HQ0.out] at hbr
              go_wp2
              go_ret2
              exact ⟨⟨_, ret_pair (by exact HFIN.out) rfl⟩, 0, rfl⟩
            · go_wp2_with fail
              go_round
              case rel => exact ⟨x - 1, z + Y1, rfl, rfl, by omega, by omega, HS2.out, hQ'⟩
              case measure => simp [intOf]; omega
          · by_cases hB : 4294967296 * z + L0 < x * Y0
            · have hQ' := HSTB.out (.inr hB)
              have hs2 : (x - 1) * Y1 + (z + Y1) = R1 := by have := HSB.out; rw [Int.sub_mul, Int.one_mul]; omega
              have HS2 := Lib.hid hs2
              clear hs2
              by_cases hb2 : 4294967296 ≤ z + Y1
              · have hbr := break_ok hYp y0b l0b.1 HS2.out (by rw [← HQ0.out]; exact hQ') (by omega) hb2
                rw [← HQ0.out] at hbr
                go_wp2
                go_ret2
                exact ⟨⟨_, ret_pair (by exact HFIN.out) rfl⟩, 0, rfl⟩
              · go_wp2_with fail
                go_round
                case rel => exact ⟨x - 1, z + Y1, rfl, rfl, by omega, by omega, HS2.out, hQ'⟩
                case measure => simp [intOf]; omega
            · have hbr := HEXB.out (by omega)
              subst hbr
              go_wp2
              go_ret2
              exact ⟨⟨_, ret_pair (by exact HFIN.out) rfl⟩, 0, rfl⟩
      · go_wp2_with fail
        go_round
        case rel => exact ⟨q - 1, r + Y1, rfl, rfl, by omega, by omega, HS2.out, hQ'⟩
        case measure => simp [intOf]; omega
    · by_cases hB : 4294967296 * r + L1 < q * Y0
      · have hQ' := HST.out (.inr hB)
        have hs2 : (q - 1) * Y1 + (r + Y1) = U := by have := HS1.out; rw [Int.sub_mul, Int.one_mul]; omega
        have HS2 := Lib.hid hs2
        clear hs2
        by_cases hb2 : 4294967296 ≤ r + Y1
        · have hbr := break_ok hYp y0b l1b.1 HS2.out (by rw [← HQ1.out]; exact hQ') (by omega) hb2
          rw [← HQ1.out] at hbr
          go_wp2_with fail
          go_loop [18, 16] (fun q r => ∃ a b : Int, q = .int .u64 a ∧ r = .int .u64 b ∧ (0 ≤ a ∧ a ≤ 4294967297) ∧ (0 ≤ b ∧ b < 4294967296) ∧ a * Y1 + b = R1 ∧ Q0 ≤ a) (fun q _ => (intOf q).toNat)
          case atStart => exact ⟨R1 / Y1, R1 % Y1, rfl, by first | rfl | rw [hPB], ⟨b1, b2⟩, by omega, HB3.out, b5⟩
          case round =>
            obtain ⟨x, z, rfl, rfl, hx, hz, hs3, hxQ⟩ := hrel
            have HSB := Lib.hid hs3
            have pbB := prod_bd hx y0b
            have hstB := fun h => step_ok hYp l0b hR1b.2 hs3 (by rw [← HQ0.out]; exact hxQ) h
            have hexB := fun h => exit_ok hYp hs3 (by rw [← HQ0.out]; exact hxQ) h
            rw [← HQ0.out] at hstB hexB
            have HSTB := Lib.hid hstB
            have HEXB := Lib.hid hexB
            clear hstB hexB hs3
            by_cases hA : 4294967296 ≤ x
            · have hQ' := HSTB.out (.inl hA)
              have hs2 : (x - 1) * Y1 + (z + Y1) = R1 := by have := HSB.out; rw [Int.sub_mul, Int.one_mul]; omega
              have HS2 := Lib.hid hs2
              clear hs2
              by_cases hb2 : 4294967296 ≤ z + Y1
              · have hbr := break_ok hYp y0b l0b.1 HS2.out (by rw [← HQ0.out]; exact hQ') (by omega) hb2
                rw [← HQ0.out] at hbr
                go_wp2
                go_ret2
                exact ⟨⟨_, ret_pair (by exact HFIN.out) rfl⟩, 0, rfl⟩
              · go_wp2_with fail
                go_round
                case rel => exact ⟨x - 1, z + Y1, rfl, rfl, by omega, by omega, HS2.out, hQ'⟩
                case measure => simp [intOf]; omega
            · by_cases hB : 4294967296 * z + L0 < x * Y0
              · have hQ' := HSTB.out (.inr hB)
                have hs2 : (x - 1) * Y1 + (z + Y1) = R1 := by have := HSB.out; rw [Int.sub_mul, Int.one_mul]; omega
                have HS2 := Lib.hid hs2
                clear hs2
                by_cases hb2 : 4294967296 ≤ z + Y1
                · have hbr := break_ok hYp y0b l0b.1 HS2.out (by rw [← HQ0.out]; exact hQ') (by omega) hb2
                  rw [← HQ0.out] at hbr
                  go_wp2
                  go_ret2
                  exact ⟨⟨_, ret_pair (by exact HFIN.out) rfl⟩, 0, rfl⟩
                · go_wp2_with fail
                  go_round
                  case rel => exact ⟨x - 1, z + Y1, rfl, rfl, by omega, by omega, HS2.out, hQ'⟩
                  case measure => simp [intOf]; omega
              · have hbr := HEXB.out (by omega)
                subst hbr
                go_wp2
                go_ret2
                exact ⟨⟨_, ret_pair (by exact HFIN.out) rfl⟩, 0, rfl⟩
        · go_wp2_with fail
          go_round
          case rel => exact ⟨q - 1, r + Y1, rfl, rfl, by omega, by omega, HS2.out, hQ'⟩
          case measure => simp [intOf]; omega
      · have hbr := HEX.out (by omega)
        subst hbr
        go_wp2_with fail
        go_loop [18, 16] (fun q r => ∃ a b : Int, q = .int .u64 a ∧ r = .int .u64 b ∧ (0 ≤ a ∧ a ≤ 4294967297) ∧ (0 ≤ b ∧ b < 4294967296) ∧ a * Y1 + b = R1 ∧ Q0 ≤ a) (fun q _ => (intOf q).toNat)
        case atStart => exact ⟨R1 / Y1, R1 % Y1, rfl, by first | rfl | rw [hPB], ⟨b1, b2⟩, by omega, HB3.out, b5⟩
        case round =>
          obtain ⟨x, z, rfl, rfl, hx, hz, hs3, hxQ⟩ := hrel
          have HSB := Lib.hid hs3
          have pbB := prod_bd hx y0b
          have hstB := fun h => step_ok hYp l0b hR1b.2 hs3 (by rw [← HQ0.out]; exact hxQ) h
          have hexB := fun h => exit_ok hYp hs3 (by rw [← HQ0.out]; exact hxQ) h
          rw [← HQ0.out] at hstB hexB
          have HSTB := Lib.hid hstB
          have HEXB := Lib.hid hexB
          clear hstB hexB hs3
          by_cases hA : 4294967296 ≤ x
          · have hQ' := HSTB.out (.inl hA)
            have hs2 : (x - 1) * Y1 + (z + Y1) = R1 := by have := HSB.out; rw [Int.sub_mul, Int.one_mul]; omega
            have HS2 := Lib.hid hs2
            clear hs2
            by_cases hb2 : 4294967296 ≤ z + Y1
            · have hbr := break_ok hYp y0b l0b.1 HS2.out (by rw [← HQ0.out]; exact hQ') (by omega) hb2
              rw [← HQ0.out] at hbr
              go_wp2
              go_ret2
              exact ⟨⟨_, ret_pair (by exact HFIN.out) rfl⟩, 0, rfl⟩
            · go_wp2_with fail
              go_round
              case rel => exact ⟨x - 1, z + Y1, rfl, rfl, by omega, by omega, HS2.out, hQ'⟩
              case measure => simp [intOf]; omega
          · by_cases hB : 4294967296 * z + L0 < x * Y0
            · have hQ' := HSTB.out (.inr hB)
              have hs2 : (x - 1) * Y1 + (z + Y1) = R1 := by have := HSB.out; rw [Int.sub_mul, Int.one_mul]; omega
              have HS2 := Lib.hid hs2
              clear hs2
              by_cases hb2 : 4294967296 ≤ z + Y1
              · have hbr := break_ok hYp y0b l0b.1 HS2.out (by rw [← HQ0.out]; exact hQ') (by omega) hb2
                rw [← HQ0.out] at hbr
                go_wp2
                go_ret2
                exact ⟨⟨_, ret_pair (by exact HFIN.out) rfl⟩, 0, rfl⟩
              · go_wp2_with fail
                go_round
                case rel => exact ⟨x - 1, z + Y1, rfl, rfl, by omega, by omega, HS2.out, hQ'⟩
                case measure => simp [intOf]; omega
            · have hbr := HEXB.out (by omega)
              subst hbr
              go_wp2
              go_ret2
              exact ⟨⟨_, ret_pair (by exact HFIN.out) rfl⟩, 0, rfl⟩
end Go.Proofs.Ytnbiabcgnngamaa.Money
