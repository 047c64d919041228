import Derived.Test.YtnbiabcgnngamaaMoney6
/- The document's answer for a share: the walk. -/
namespace Go.Proofs.Ytnbiabcgnngamaa.Money
open Go.ChangeShapes Go.WideShapes Go.ChangeAt Go.RowKit Go.IntWalk Go.Proofs.Mem Go.Proofs.DivMath
set_option linter.unusedVariables false

theorem halve (n : Int) (j : Nat) : n / 2 ^ j = 2 * (n / 2 ^ (j + 1)) + n / 2 ^ j % 2 := by
  have h : n / 2 ^ j / 2 = n / 2 ^ (j + 1) := by
    rw [Int.ediv_ediv_of_nonneg (Int.le_of_lt (p2 j)), ← Int.pow_succ]
  omega
/-- quotient, rest and mark of a product -/
def St (X b q r : Int) (g : Bool) : Prop := q = X / b % 18446744073709551616 ∧ r = X % b ∧ g = decide (18446744073709551616 ≤ X / b)
theorem St.zero (b : Int) : St 0 b 0 0 false := by
  unfold St; rw [Int.zero_ediv, Int.zero_emod]; exact ⟨rfl, rfl, rfl⟩
theorem St.bd {X b q r : Int} {g : Bool} (h : St X b q r g) (hb : 0 < b) : (0 ≤ q ∧ q ≤ 18446744073709551615) ∧ (0 ≤ r ∧ r < b) := by
  obtain ⟨h1, h2, _⟩ := h
  exact ⟨by omega, by rw [h2]; exact ⟨Int.emod_nonneg _ (by omega), Int.emod_lt_of_pos _ hb⟩⟩
theorem St.twice {X b q r : Int} {g : Bool} (h : St X b q r g) (hX : 0 ≤ X) (hb : 0 < b) :
    St (2 * X) b ((q + q + carry r r b) % 18446744073709551616) (r + r - carry r r b * b) (g || decide (18446744073709551616 ≤ q + q + carry r r b)) := by
  obtain ⟨h1, h2, h3⟩ := h
  obtain ⟨d1, d2⟩ := double X b hX hb
  rw [← h2] at d1 d2
  have hc := carry_bd r r b
  have hQ : 0 ≤ X / b := Int.ediv_nonneg hX (by omega)
  refine ⟨by rw [d1, h1]; omega, d2.symm, ?_⟩
  rw [d1, h3]
  by_cases hg : 18446744073709551616 ≤ X / b
  · rw [decide_eq_true hg, Bool.true_or, decide_eq_true (by omega)]
  · rw [decide_eq_false hg, Bool.false_or, decide_eq_decide]; omega
theorem St.more {X a b q r : Int} {g : Bool} (h : St X b q r g) (hX : 0 ≤ X) (ha : 0 ≤ a ∧ a ≤ 18446744073709551615) (hb : 0 < b) :
    St (X + a) b ((q + a / b + carry r (a % b) b) % 18446744073709551616) (r + a % b - carry r (a % b) b * b) (g || decide (18446744073709551616 ≤ q + a / b + carry r (a % b) b)) := by
  obtain ⟨h1, h2, h3⟩ := h
  obtain ⟨d1, d2⟩ := plus_a X a b hX ha.1 hb
  rw [← h2] at d1 d2
  have hc := carry_bd r (a % b) b
  have hQ : 0 ≤ X / b := Int.ediv_nonneg hX (by omega)
  have hP : 0 ≤ a / b := Int.ediv_nonneg ha.1 (by omega)
  refine ⟨by rw [d1, h1]; omega, d2.symm, ?_⟩
  rw [d1, h3]
  by_cases hg : 18446744073709551616 ≤ X / b
  · rw [decide_eq_true hg, Bool.true_or, decide_eq_true (by omega)]
  · rw [decide_eq_false hg, Bool.false_or, decide_eq_decide]; omega
set_option maxHeartbeats 8000000 in
theorem part_ref (n a b : Int) (hn : 0 ≤ n ∧ n ≤ 18446744073709551615) (ha : 0 ≤ a ∧ a ≤ 18446744073709551615) (hb : 0 < b ∧ b ≤ 18446744073709551615) (w : World) :
    Calls Try.prog 18 #[.int .u64 n, .int .u64 a, .int .u64 b] w fun e w' => e = .returned (.tuple #[.int .u64 (partS n a b).1, .int .i64 (partS n a b).2]) ∧ ∃ d, w' = w.drewN d := by
  have hb0 : (b == 0) = false := by simp; omega
  have hP0 : 0 ≤ a / b := Int.ediv_nonneg ha.1 (by omega)
  have hP1 : a / b ≤ a := Int.ediv_le_self b ha.1
  have hS0 : 0 ≤ a % b := Int.emod_nonneg _ (by omega)
  have hS1 : a % b < b := Int.emod_lt_of_pos _ hb.1
  go_enter Try.func18, Try.ntmps18
  go_wp2
  go_loopw [8, 9, 10, 11] (fun q r g i wr => ∃ (m d : Nat) (x y : Int) (z : Bool), m ≤ 64 ∧ i = .int .i64 ((m : Int) - 1) ∧ q = .int .u64 x ∧ r = .int .u64 y ∧ g = .bool z ∧ (0 ≤ x ∧ x ≤ 18446744073709551615) ∧ (0 ≤ y ∧ y < b) ∧ St (n / 2 ^ m * a) b x y z ∧ wr = w.drewN d)
    (fun _ _ _ i _ => (intOf i + 1).toNat)
  case atStart =>
    refine ⟨64, 0, 0, 0, false, by omega, rfl, rfl, rfl, rfl, by omega, by omega, ?_, rfl⟩
    rw [show (2 : Int) ^ 64 = 18446744073709551616 from by decide, Int.ediv_eq_zero_of_lt hn.1 (by omega), Int.zero_mul]
    exact St.zero b
  case round =>
    obtain ⟨m, d, q, r, g, hm, rfl, rfl, rfl, rfl, hq, hr, hst, rfl⟩ := hrel
    have HST := Lib.hid hst
    clear hst
    by_cases hm0 : m = 0
    · subst hm0
      have h := HST.out
      rw [show (2 : Int) ^ 0 = 1 from rfl, Int.ediv_one] at h
      obtain ⟨e1, e2, e3⟩ := h
      have hV : 0 ≤ n * a / b := Int.ediv_nonneg (Int.mul_nonneg hn.1 ha.1) (by omega)
      have hps : partS n a b = if 4611686018427387904 < n * a / b then (0, 30) else (n * a / b, 0) := by unfold partS; rw [if_neg (by omega)]
      by_cases hg : 18446744073709551616 ≤ n * a / b
      · rw [decide_eq_true hg] at e3
        subst e3
        rw [if_pos (by omega)] at hps
        have HPS := Lib.hid hps
        clear hps e1 e2
        go_wp2
        go_ret2
        exact ⟨ret_pair (by rw [HPS.out]) (by rw [HPS.out]), d, rfl⟩
      · rw [decide_eq_false hg] at e3
        subst e3
        have e4 : q = n * a / b := by omega
        rw [← e4] at hps
        have HPS := Lib.hid hps
        clear hps e1 e2 e4 hg hV
        by_cases hgr : 4611686018427387904 < q
        · go_wp2
          go_ret2
          exact ⟨ret_pair (by rw [HPS.out, if_pos hgr]) (by rw [HPS.out, if_pos hgr]), d, rfl⟩
        · go_wp2
          go_ret2
          exact ⟨ret_pair (by rw [HPS.out, if_neg (by omega)]) (by rw [HPS.out, if_neg (by omega)]), d, rfl⟩
    · obtain ⟨j, rfl⟩ : ∃ j, m = j + 1 := ⟨m - 1, by omega⟩
      have hpre : 0 ≤ n / 2 ^ (j + 1) * a := Int.mul_nonneg (Int.ediv_nonneg hn.1 (Int.le_of_lt (p2 _))) ha.1
      have hst2 := HST.out.twice hpre hb.1
      have hbd2 := hst2.bd hb.1
      have hpl := fun W => plus_any q r q r b hq hr hq hr hb.2 W
      generalize (q + q + carry r r b) % 18446744073709551616 = q2 at *
      generalize r + r - carry r r b * b = r2 at *
      generalize decide (18446744073709551616 ≤ q + q + carry r r b) = o2 at *
      have HPL := Lib.hid hpl
      have HST2 := Lib.hid hst2
      clear hpl hst2
      obtain ⟨hq2, hr2⟩ := hbd2
      have hij : ((j + 1 : Nat) : Int) - 1 = (j : Int) := by omega
      rw [hij]
      have hhalf := halve n j
      have hpl2 := fun W => plus_any q2 r2 (a / b) (a % b) b hq2 hr2 ⟨hP0, by omega⟩ ⟨hS0, hS1⟩ hb.2 W
      have hst3 := HST2.out.more (by omega) ha hb.1
      have hbd3 := hst3.bd hb.1
      generalize (q2 + a / b + carry r2 (a % b) b) % 18446744073709551616 = q3 at *
      generalize r2 + a % b - carry r2 (a % b) b * b = r3 at *
      generalize decide (18446744073709551616 ≤ q2 + a / b + carry r2 (a % b) b) = o3 at *
      have HPL2 := Lib.hid hpl2
      have HST3 := Lib.hid hst3
      have HH := Lib.hid hhalf
      clear hpl2 hst3 hhalf
      have hbq : (b == 0) = false := hb0
      have t1 : IntKind.u64.wrap (a.tdiv b) = a / b := u64_quo a b ⟨ha.1, ha.2, by omega⟩
      have t3 : a.tmod b = a % b := Int.tmod_eq_emod_of_nonneg ha.1
      have t2 : IntKind.u64.wrap (a % b) = a % b := u64_in _ (by omega)
      have hbit0 : 0 ≤ n / 2 ^ j := Int.ediv_nonneg hn.1 (Int.le_of_lt (p2 j))
      have hbit1 : n / 2 ^ j ≤ n := Int.ediv_le_self _ hn.1
      have hst4 : n / 2 ^ j % 2 = 1 → St (n / 2 ^ j * a) b q3 r3 (g || o2 || o3) := fun h => by
        have e := HH.out
        rw [h] at e
        rw [e, Int.add_mul, Int.one_mul, Int.mul_assoc]; exact HST3.out
      have hst5 : n / 2 ^ j % 2 = 0 → St (n / 2 ^ j * a) b q2 r2 (g || o2) := fun h => by
        have e := HH.out
        rw [h, Int.add_zero] at e
        rw [e, Int.mul_assoc]; exact HST2.out
      have H4 := Lib.hid hst4
      have H5 := Lib.hid hst5
      clear hst4 hst5 hij
      by_cases hbit : n / 2 ^ j % 2 = 1
      · have hbt : (n / 2 ^ j % 2 == 1) = true := by simpa using hbit
        have H6 := Lib.hid (H4.out hbit)
        clear hbit
        cases g with
        | true =>
          go_wp2_with fail
          (with_reducible refine (HPL.out _).mono ?_)
          rintro e w' ⟨rfl, rfl⟩
          go_wp2_with fail
          go_quiet ((go_at_call 24; exact quiet_add (HPL2.out _)))
          go_wp2
          go_roundw
          case rel => exact ⟨j, _, q3, r3, _, by omega, by first | rfl | go_num, rfl, rfl, rfl, hbd3.1, hbd3.2, by simpa using H6.out, rfl⟩
          case measure => simp [intOf]
        | false =>
          cases o2 with
          | true =>
            go_wp2_with fail
            (with_reducible refine (HPL.out _).mono ?_)
            rintro e w' ⟨rfl, rfl⟩
            go_wp2_with fail
            go_quiet ((go_at_call 24; exact quiet_add (HPL2.out _)))
            go_wp2
            go_roundw
            case rel => exact ⟨j, _, q3, r3, _, by omega, by first | rfl | go_num, rfl, rfl, rfl, hbd3.1, hbd3.2, by simpa using H6.out, rfl⟩
            case measure => simp [intOf]
          | false =>
            go_wp2_with fail
            (with_reducible refine (HPL.out _).mono ?_)
            rintro e w' ⟨rfl, rfl⟩
            go_wp2_with fail
            go_quiet ((go_at_call 24; exact quiet_add (HPL2.out _)))
            go_wp2
            go_roundw
            case rel => exact ⟨j, _, q3, r3, _, by omega, by first | rfl | go_num, rfl, rfl, rfl, hbd3.1, hbd3.2, by simpa using H6.out, rfl⟩
            case measure => simp [intOf]
      · have hbt : (n / 2 ^ j % 2 == 1) = false := by simpa using hbit
        have H6 := Lib.hid (H5.out (by omega))
        clear hbit
        cases g with
        | true =>
          go_wp2_with fail
          (with_reducible refine (HPL.out _).mono ?_)
          rintro e w' ⟨rfl, rfl⟩
          go_wp2
          go_roundw
          case rel => exact ⟨j, _, q2, r2, _, by omega, by first | rfl | go_num, rfl, rfl, rfl, hq2, hr2, by simpa using H6.out, rfl⟩
          case measure => simp [intOf]
        | false =>
          go_wp2_with fail
          (with_reducible refine (HPL.out _).mono ?_)
          rintro e w' ⟨rfl, rfl⟩
          go_wp2
          go_roundw
          case rel => exact ⟨j, _, q2, r2, _, by omega, by first | rfl | go_num, rfl, rfl, rfl, hq2, hr2, by simpa using H6.out, rfl⟩
          case measure => simp [intOf]
end Go.Proofs.Ytnbiabcgnngamaa.Money
