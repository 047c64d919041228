/- The law manciplelaw03.MoneyErrs returns true whatever it is called with, and what it was called with reads as it did. No condition. -/
import Derived.Test.YtnbiabcgnngamaaLaw
import Derived.Test.YtnbiabcgnngamaaMoney2
namespace Go.Proofs.Ytnbiabcgnngamaa.LMoneyErrs
open Go.ChangeShapes Go.WideShapes Go.ChangeAt Go.RowKit Go.IntWalk Go.Proofs.Mem Law
set_option linter.unusedVariables false
open Money
theorem below4 {w w1 w2 w3 w4 : World} (h1 : Below w.heap.size w w1) (h2 : Below w1.heap.size w1 w2) (h3 : Below w2.heap.size w2 w3) (h4 : Below w3.heap.size w3 w4) : Below w.heap.size w w4 :=
  ((h1.trans (h2.mono h1.size)).trans (h3.mono (Nat.le_trans h1.size h2.size))).trans (h4.mono (Nat.le_trans (Nat.le_trans h1.size h2.size) h3.size))
set_option maxHeartbeats 8000000 in
theorem walk (w : World) (a : Int) (ha : 0 ≤ a ∧ a ≤ 18446744073709551615) (b : Int) (hb : 0 ≤ b ∧ b ≤ 18446744073709551615) (n : Int) (hn : 0 ≤ n ∧ n ≤ 18446744073709551615) :
    Calls Try.prog 9 #[.int .u64 a, .int .u64 b, .int .u64 n] w fun e w' => e = .returned (.bool true) ∧ Below w.heap.size w w' := by
  have hm0 : 0 ≤ a * n := Int.mul_nonneg ha.1 hn.1
  have ht : (4611686018427387904 < a ∧ timesS a n = (0, 30)) ∨ (a = 0 ∧ timesS a n = (0, 0)) ∨ ((0 < a ∧ a ≤ 4611686018427387904 ∧ n ≤ 4611686018427387904 / a) ∧ timesS a n = (a * n, 0)) ∨ ((0 < a ∧ a ≤ 4611686018427387904 ∧ 4611686018427387904 / a < n) ∧ timesS a n = (0, 30)) := by
    unfold timesS
    by_cases h1 : 4611686018427387904 < a
    · exact .inl ⟨h1, by rw [if_pos (.inl h1)]⟩
    · by_cases h2 : a = 0
      · subst h2; exact .inr (.inl ⟨rfl, by rw [Int.zero_mul, if_neg (by omega)]⟩)
      · have hd := lt_div a n 4611686018427387904 (by omega)
        by_cases h3 : 4611686018427387904 / a < n
        · exact .inr (.inr (.inr ⟨⟨by omega, by omega, h3⟩, by rw [if_pos (.inr (hd.1 h3))]⟩))
        · have : ¬ 4611686018427387904 < a * n := fun h => h3 (hd.2 h)
          exact .inr (.inr (.inl ⟨⟨by omega, by omega, by omega⟩, by rw [if_neg (by omega)]⟩))
  have hab : (4611686018427387904 < a ∧ addS a b = (0, 30) ∧ subS a b = (0, 30)) ∨ ((a ≤ 4611686018427387904 ∧ 4611686018427387904 < b) ∧ addS a b = (0, 30) ∧ subS a b = (0, 30)) ∨
      ((a ≤ 4611686018427387904 ∧ b ≤ 4611686018427387904 ∧ a ≤ 4611686018427387904 - b ∧ b ≤ a) ∧ addS a b = (a + b, 0) ∧ subS a b = (a - b, 0)) ∨
      ((a ≤ 4611686018427387904 ∧ b ≤ 4611686018427387904 ∧ a ≤ 4611686018427387904 - b ∧ a < b) ∧ addS a b = (a + b, 0) ∧ subS a b = (0, 31)) ∨
      ((a ≤ 4611686018427387904 ∧ b ≤ 4611686018427387904 ∧ 4611686018427387904 - b < a ∧ b ≤ a) ∧ addS a b = (0, 30) ∧ subS a b = (a - b, 0)) ∨
      ((a ≤ 4611686018427387904 ∧ b ≤ 4611686018427387904 ∧ 4611686018427387904 - b < a ∧ a < b) ∧ addS a b = (0, 30) ∧ subS a b = (0, 31)) := by
    unfold addS subS
    by_cases h1 : 4611686018427387904 < a
    · exact .inl ⟨h1, by rw [if_pos (by omega)], by rw [if_pos (by omega)]⟩
    · by_cases h2 : 4611686018427387904 < b
      · exact .inr (.inl ⟨⟨by omega, h2⟩, by rw [if_pos (by omega)], by rw [if_pos (by omega)]⟩)
      · by_cases h3 : 4611686018427387904 < a + b <;> by_cases h4 : a < b
        · exact .inr (.inr (.inr (.inr (.inr ⟨by omega, by rw [if_pos (by omega)], by rw [if_neg (by omega), if_pos h4]⟩))))
        · exact .inr (.inr (.inr (.inr (.inl ⟨by omega, by rw [if_pos (by omega)], by rw [if_neg (by omega), if_neg h4]⟩))))
        · exact .inr (.inr (.inr (.inl ⟨by omega, by rw [if_neg (by omega)], by rw [if_neg (by omega), if_pos h4]⟩)))
        · exact .inr (.inr (.inl ⟨by omega, by rw [if_neg (by omega)], by rw [if_neg (by omega), if_neg h4]⟩))
  rcases ht with ⟨t1, hT⟩ | ⟨t1, hT⟩ | ⟨⟨t1, t2, t3⟩, hT⟩ | ⟨⟨t1, t2, t3⟩, hT⟩
  · have HT := Lib.hid hT
    clear hT hm0
    rcases hab with ⟨g1, hA, hB⟩ | ⟨⟨g1, g2⟩, hA, hB⟩ | ⟨⟨g1, g2, g3, g4⟩, hA, hB⟩ | ⟨⟨g1, g2, g3, g4⟩, hA, hB⟩ | ⟨⟨g1, g2, g3, g4⟩, hA, hB⟩ | ⟨⟨g1, g2, g3, g4⟩, hA, hB⟩
    · have HA := Lib.hid hA
      have HB := Lib.hid hB
      clear hA hB
      have d0 : decide (4611686018427387904 < a) = true := by simp; try omega
      have d1 : decide (a ≤ 4611686018427387904) = false := by simp; try omega
      go_enter Try.func9, Try.ntmps9
      go_wp2_with fail
      (with_reducible refine (add_any a b ha hb _).mono ?_)
      rintro e w1 ⟨rfl, hb1⟩
      rw [HA.out]
      go_wp2_with fail
      (with_reducible refine (sub_any a b ha hb _).mono ?_)
      rintro e w2 ⟨rfl, hb2⟩
      rw [HB.out]
      go_wp2_with fail
      (with_reducible refine (times_any a n ha hn _).mono ?_)
      rintro e w3 ⟨rfl, hb3⟩
      rw [HT.out]
      go_wp2_with fail
      (with_reducible refine (known_any _).mono ?_)
      rintro e w4 ⟨rfl, hb4⟩
      go_wp2
      go_ret
      exact ⟨rfl, below4 hb1 hb2 hb3 hb4⟩
    · exfalso; omega
    · exfalso; omega
    · exfalso; omega
    · exfalso; omega
    · exfalso; omega
  · have HT := Lib.hid hT
    clear hT hm0
    subst t1
    rcases hab with ⟨g1, hA, hB⟩ | ⟨⟨g1, g2⟩, hA, hB⟩ | ⟨⟨g1, g2, g3, g4⟩, hA, hB⟩ | ⟨⟨g1, g2, g3, g4⟩, hA, hB⟩ | ⟨⟨g1, g2, g3, g4⟩, hA, hB⟩ | ⟨⟨g1, g2, g3, g4⟩, hA, hB⟩
    · exfalso; omega
    · have HA := Lib.hid hA
      have HB := Lib.hid hB
      clear hA hB
      have d1 : decide (4611686018427387904 < b) = true := by simp; try omega
      go_enter Try.func9, Try.ntmps9
      go_wp2_with fail
      (with_reducible refine (add_any 0 b ha hb _).mono ?_)
      rintro e w1 ⟨rfl, hb1⟩
      rw [HA.out]
      go_wp2_with fail
      (with_reducible refine (sub_any 0 b ha hb _).mono ?_)
      rintro e w2 ⟨rfl, hb2⟩
      rw [HB.out]
      go_wp2_with fail
      (with_reducible refine (times_any 0 n ha hn _).mono ?_)
      rintro e w3 ⟨rfl, hb3⟩
      rw [HT.out]
      go_wp2_with fail
      (with_reducible refine (known_any _).mono ?_)
      rintro e w4 ⟨rfl, hb4⟩
      go_wp2
      go_ret
      exact ⟨rfl, below4 hb1 hb2 hb3 hb4⟩
    · have HA := Lib.hid hA
      have HB := Lib.hid hB
      clear hA hB
      have d1 : decide (4611686018427387904 < b) = false := by simp; try omega
      have d2 : decide ((0 : Int) ≤ 4611686018427387904 - b) = true := by simp; try omega
      have d3 : decide (b ≤ 0) = true := by simp; try omega
      go_enter Try.func9, Try.ntmps9
      go_wp2_with fail
      (with_reducible refine (add_any 0 b ha hb _).mono ?_)
      rintro e w1 ⟨rfl, hb1⟩
      rw [HA.out]
      go_wp2_with fail
      (with_reducible refine (sub_any 0 b ha hb _).mono ?_)
      rintro e w2 ⟨rfl, hb2⟩
      rw [HB.out]
      go_wp2_with fail
      (with_reducible refine (times_any 0 n ha hn _).mono ?_)
      rintro e w3 ⟨rfl, hb3⟩
      rw [HT.out]
      go_wp2_with fail
      (with_reducible refine (known_any _).mono ?_)
      rintro e w4 ⟨rfl, hb4⟩
      go_wp2
      go_ret
      exact ⟨rfl, below4 hb1 hb2 hb3 hb4⟩
    · have HA := Lib.hid hA
      have HB := Lib.hid hB
      clear hA hB
      have d1 : decide (4611686018427387904 < b) = false := by simp; try omega
      have d2 : decide ((0 : Int) ≤ 4611686018427387904 - b) = true := by simp; try omega
      have d3 : decide (b ≤ 0) = false := by simp; try omega
      go_enter Try.func9, Try.ntmps9
      go_wp2_with fail
      (with_reducible refine (add_any 0 b ha hb _).mono ?_)
      rintro e w1 ⟨rfl, hb1⟩
      rw [HA.out]
      go_wp2_with fail
      (with_reducible refine (sub_any 0 b ha hb _).mono ?_)
      rintro e w2 ⟨rfl, hb2⟩
      rw [HB.out]
      go_wp2_with fail
      (with_reducible refine (times_any 0 n ha hn _).mono ?_)
      rintro e w3 ⟨rfl, hb3⟩
      rw [HT.out]
      go_wp2_with fail
      (with_reducible refine (known_any _).mono ?_)
      rintro e w4 ⟨rfl, hb4⟩
      go_wp2
      go_ret
      exact ⟨rfl, below4 hb1 hb2 hb3 hb4⟩
    · exfalso; omega
    · exfalso; omega
  · have HT := Lib.hid hT
    clear hT hm0
    have dz : (a == 0) = false := by simp; omega
    have dz2 : decide (n ≤ 4611686018427387904 / a) = true := by simp; omega
    rcases hab with ⟨g1, hA, hB⟩ | ⟨⟨g1, g2⟩, hA, hB⟩ | ⟨⟨g1, g2, g3, g4⟩, hA, hB⟩ | ⟨⟨g1, g2, g3, g4⟩, hA, hB⟩ | ⟨⟨g1, g2, g3, g4⟩, hA, hB⟩ | ⟨⟨g1, g2, g3, g4⟩, hA, hB⟩
    · exfalso; omega
    · have HA := Lib.hid hA
      have HB := Lib.hid hB
      clear hA hB
      have d0 : decide (4611686018427387904 < a) = false := by simp; try omega
      have d1 : decide (4611686018427387904 < b) = true := by simp; try omega
      have d2 : decide (a ≤ 4611686018427387904) = true := by simp; try omega
      go_enter Try.func9, Try.ntmps9
      go_wp2_with fail
      (with_reducible refine (add_any a b ha hb _).mono ?_)
      rintro e w1 ⟨rfl, hb1⟩
      rw [HA.out]
      go_wp2_with fail
      (with_reducible refine (sub_any a b ha hb _).mono ?_)
      rintro e w2 ⟨rfl, hb2⟩
      rw [HB.out]
      go_wp2_with fail
      (with_reducible refine (times_any a n ha hn _).mono ?_)
      rintro e w3 ⟨rfl, hb3⟩
      rw [HT.out]
      go_wp2_with fail
      (with_reducible refine (known_any _).mono ?_)
      rintro e w4 ⟨rfl, hb4⟩
      go_wp2
      go_ret
      exact ⟨rfl, below4 hb1 hb2 hb3 hb4⟩
    · have HA := Lib.hid hA
      have HB := Lib.hid hB
      clear hA hB
      have d0 : decide (4611686018427387904 < a) = false := by simp; try omega
      have d1 : decide (4611686018427387904 < b) = false := by simp; try omega
      have d2 : decide (a ≤ 4611686018427387904 - b) = true := by simp; try omega
      have d3 : decide (b ≤ a) = true := by simp; try omega
      have d4 : decide (a ≤ 4611686018427387904) = true := by simp; try omega
      go_enter Try.func9, Try.ntmps9
      go_wp2_with fail
      (with_reducible refine (add_any a b ha hb _).mono ?_)
      rintro e w1 ⟨rfl, hb1⟩
      rw [HA.out]
      go_wp2_with fail
      (with_reducible refine (sub_any a b ha hb _).mono ?_)
      rintro e w2 ⟨rfl, hb2⟩
      rw [HB.out]
      go_wp2_with fail
      (with_reducible refine (times_any a n ha hn _).mono ?_)
      rintro e w3 ⟨rfl, hb3⟩
      rw [HT.out]
      go_wp2_with fail
      (with_reducible refine (known_any _).mono ?_)
      rintro e w4 ⟨rfl, hb4⟩
      go_wp2
      go_ret
      exact ⟨rfl, below4 hb1 hb2 hb3 hb4⟩
    · have HA := Lib.hid hA
      have HB := Lib.hid hB
      clear hA hB
      have d0 : decide (4611686018427387904 < a) = false := by simp; try omega
      have d1 : decide (4611686018427387904 < b) = false := by simp; try omega
      have d2 : decide (a ≤ 4611686018427387904 - b) = true := by simp; try omega
      have d3 : decide (b ≤ a) = false := by simp; try omega
      have d4 : decide (a ≤ 4611686018427387904) = true := by simp; try omega
      go_enter Try.func9, Try.ntmps9
      go_wp2_with fail
      (with_reducible refine (add_any a b ha hb _).mono ?_)
      rintro e w1 ⟨rfl, hb1⟩
      rw [HA.out]
      go_wp2_with fail
      (with_reducible refine (sub_any a b ha hb _).mono ?_)
      rintro e w2 ⟨rfl, hb2⟩
      rw [HB.out]
      go_wp2_with fail
      (with_reducible refine (times_any a n ha hn _).mono ?_)
      rintro e w3 ⟨rfl, hb3⟩
      rw [HT.out]
      go_wp2_with fail
      (with_reducible refine (known_any _).mono ?_)
      rintro e w4 ⟨rfl, hb4⟩
      go_wp2
      go_ret
      exact ⟨rfl, below4 hb1 hb2 hb3 hb4⟩
    · have HA := Lib.hid hA
      have HB := Lib.hid hB
      clear hA hB
      have d0 : decide (4611686018427387904 < a) = false := by simp; try omega
      have d1 : decide (4611686018427387904 < b) = false := by simp; try omega
      have d2 : decide (a ≤ 4611686018427387904 - b) = false := by simp; try omega
      have d3 : decide (b ≤ a) = true := by simp; try omega
      have d4 : decide (a ≤ 4611686018427387904) = true := by simp; try omega
      go_enter Try.func9, Try.ntmps9
      go_wp2_with fail
      (with_reducible refine (add_any a b ha hb _).mono ?_)
      rintro e w1 ⟨rfl, hb1⟩
      rw [HA.out]
      go_wp2_with fail
      (with_reducible refine (sub_any a b ha hb _).mono ?_)
      rintro e w2 ⟨rfl, hb2⟩
      rw [HB.out]
      go_wp2_with fail
      (with_reducible refine (times_any a n ha hn _).mono ?_)
      rintro e w3 ⟨rfl, hb3⟩
      rw [HT.out]
      go_wp2_with fail
      (with_reducible refine (known_any _).mono ?_)
      rintro e w4 ⟨rfl, hb4⟩
      go_wp2
      go_ret
      exact ⟨rfl, below4 hb1 hb2 hb3 hb4⟩
    · have HA := Lib.hid hA
      have HB := Lib.hid hB
      clear hA hB
      have d0 : decide (4611686018427387904 < a) = false := by simp; try omega
      have d1 : decide (4611686018427387904 < b) = false := by simp; try omega
      have d2 : decide (a ≤ 4611686018427387904 - b) = false := by simp; try omega
      have d3 : decide (b ≤ a) = false := by simp; try omega
      have d4 : decide (a ≤ 4611686018427387904) = true := by simp; try omega
      go_enter Try.func9, Try.ntmps9
      go_wp2_with fail
      (with_reducible refine (add_any a b ha hb _).mono ?_)
      rintro e w1 ⟨rfl, hb1⟩
      rw [HA.out]
      go_wp2_with fail
      (with_reducible refine (sub_any a b ha hb _).mono ?_)
      rintro e w2 ⟨rfl, hb2⟩
      rw [HB.out]
      go_wp2_with fail
      (with_reducible refine (times_any a n ha hn _).mono ?_)
      rintro e w3 ⟨rfl, hb3⟩
      rw [HT.out]
      go_wp2_with fail
      (with_reducible refine (known_any _).mono ?_)
      rintro e w4 ⟨rfl, hb4⟩
      go_wp2
      go_ret
      exact ⟨rfl, below4 hb1 hb2 hb3 hb4⟩
  · have HT := Lib.hid hT
    clear hT hm0
    have dz : (a == 0) = false := by simp; omega
    have dz2 : decide (n ≤ 4611686018427387904 / a) = false := by simp; omega
    rcases hab with ⟨g1, hA, hB⟩ | ⟨⟨g1, g2⟩, hA, hB⟩ | ⟨⟨g1, g2, g3, g4⟩, hA, hB⟩ | ⟨⟨g1, g2, g3, g4⟩, hA, hB⟩ | ⟨⟨g1, g2, g3, g4⟩, hA, hB⟩ | ⟨⟨g1, g2, g3, g4⟩, hA, hB⟩
    · exfalso; omega
    · have HA := Lib.hid hA
      have HB := Lib.hid hB
      clear hA hB
      have d0 : decide (4611686018427387904 < a) = false := by simp; try omega
      have d1 : decide (4611686018427387904 < b) = true := by simp; try omega
      have d2 : decide (a ≤ 4611686018427387904) = true := by simp; try omega
      go_enter Try.func9, Try.ntmps9
      go_wp2_with fail
      (with_reducible refine (add_any a b ha hb _).mono ?_)
      rintro e w1 ⟨rfl, hb1⟩
      rw [HA.out]
      go_wp2_with fail
      (with_reducible refine (sub_any a b ha hb _).mono ?_)
      rintro e w2 ⟨rfl, hb2⟩
      rw [HB.out]
      go_wp2_with fail
      (with_reducible refine (times_any a n ha hn _).mono ?_)
      rintro e w3 ⟨rfl, hb3⟩
      rw [HT.out]
      go_wp2_with fail
      (with_reducible refine (known_any _).mono ?_)
      rintro e w4 ⟨rfl, hb4⟩
      go_wp2
      go_ret
      exact ⟨rfl, below4 hb1 hb2 hb3 hb4⟩
    · have HA := Lib.hid hA
      have HB := Lib.hid hB
      clear hA hB
      have d0 : decide (4611686018427387904 < a) = false := by simp; try omega
      have d1 : decide (4611686018427387904 < b) = false := by simp; try omega
      have d2 : decide (a ≤ 4611686018427387904 - b) = true := by simp; try omega
      have d3 : decide (b ≤ a) = true := by simp; try omega
      have d4 : decide (a ≤ 4611686018427387904) = true := by simp; try omega
      go_enter Try.func9, Try.ntmps9
      go_wp2_with fail
      (with_reducible refine (add_any a b ha hb _).mono ?_)
      rintro e w1 ⟨rfl, hb1⟩
      rw [HA.out]
      go_wp2_with fail
      (with_reducible refine (sub_any a b ha hb _).mono ?_)
      rintro e w2 ⟨rfl, hb2⟩
      rw [HB.out]
      go_wp2_with fail
      (with_reducible refine (times_any a n ha hn _).mono ?_)
      rintro e w3 ⟨rfl, hb3⟩
      rw [HT.out]
      go_wp2_with fail
      (with_reducible refine (known_any _).mono ?_)
      rintro e w4 ⟨rfl, hb4⟩
      go_wp2
      go_ret
      exact ⟨rfl, below4 hb1 hb2 hb3 hb4⟩
    · have HA := Lib.hid hA
      have HB := Lib.hid hB
      clear hA hB
      have d0 : decide (4611686018427387904 < a) = false := by simp; try omega
      have d1 : decide (4611686018427387904 < b) = false := by simp; try omega
      have d2 : decide (a ≤ 4611686018427387904 - b) = true := by simp; try omega
      have d3 : decide (b ≤ a) = false := by simp; try omega
      have d4 : decide (a ≤ 4611686018427387904) = true := by simp; try omega
      go_enter Try.func9, Try.ntmps9
      go_wp2_with fail
      (with_reducible refine (add_any a b ha hb _).mono ?_)
      rintro e w1 ⟨rfl, hb1⟩
      rw [HA.out]
      go_wp2_with fail
      (with_reducible refine (sub_any a b ha hb _).mono ?_)
      rintro e w2 ⟨rfl, hb2⟩
      rw [HB.out]
      go_wp2_with fail
      (with_reducible refine (times_any a n ha hn _).mono ?_)
      rintro e w3 ⟨rfl, hb3⟩
      rw [HT.out]
      go_wp2_with fail
      (with_reducible refine (known_any _).mono ?_)
      rintro e w4 ⟨rfl, hb4⟩
      go_wp2
      go_ret
      exact ⟨rfl, below4 hb1 hb2 hb3 hb4⟩
    · have HA := Lib.hid hA
      have HB := Lib.hid hB
      clear hA hB
      have d0 : decide (4611686018427387904 < a) = false := by simp; try omega
      have d1 : decide (4611686018427387904 < b) = false := by simp; try omega
      have d2 : decide (a ≤ 4611686018427387904 - b) = false := by simp; try omega
      have d3 : decide (b ≤ a) = true := by simp; try omega
      have d4 : decide (a ≤ 4611686018427387904) = true := by simp; try omega
      go_enter Try.func9, Try.ntmps9
      go_wp2_with fail
      (with_reducible refine (add_any a b ha hb _).mono ?_)
      rintro e w1 ⟨rfl, hb1⟩
      rw [HA.out]
      go_wp2_with fail
      (with_reducible refine (sub_any a b ha hb _).mono ?_)
      rintro e w2 ⟨rfl, hb2⟩
      rw [HB.out]
      go_wp2_with fail
      (with_reducible refine (times_any a n ha hn _).mono ?_)
      rintro e w3 ⟨rfl, hb3⟩
      rw [HT.out]
      go_wp2_with fail
      (with_reducible refine (known_any _).mono ?_)
      rintro e w4 ⟨rfl, hb4⟩
      go_wp2
      go_ret
      exact ⟨rfl, below4 hb1 hb2 hb3 hb4⟩
    · have HA := Lib.hid hA
      have HB := Lib.hid hB
      clear hA hB
      have d0 : decide (4611686018427387904 < a) = false := by simp; try omega
      have d1 : decide (4611686018427387904 < b) = false := by simp; try omega
      have d2 : decide (a ≤ 4611686018427387904 - b) = false := by simp; try omega
      have d3 : decide (b ≤ a) = false := by simp; try omega
      have d4 : decide (a ≤ 4611686018427387904) = true := by simp; try omega
      go_enter Try.func9, Try.ntmps9
      go_wp2_with fail
      (with_reducible refine (add_any a b ha hb _).mono ?_)
      rintro e w1 ⟨rfl, hb1⟩
      rw [HA.out]
      go_wp2_with fail
      (with_reducible refine (sub_any a b ha hb _).mono ?_)
      rintro e w2 ⟨rfl, hb2⟩
      rw [HB.out]
      go_wp2_with fail
      (with_reducible refine (times_any a n ha hn _).mono ?_)
      rintro e w3 ⟨rfl, hb3⟩
      rw [HT.out]
      go_wp2_with fail
      (with_reducible refine (known_any _).mono ?_)
      rintro e w4 ⟨rfl, hb4⟩
      go_wp2
      go_ret
      exact ⟨rfl, below4 hb1 hb2 hb3 hb4⟩


set_option maxRecDepth 100000 in
theorem lifted (os : Os) (started : os.Started) (H : Type) (enc : TypeId × Value → H) :
    ReturnsInHanded {} Try.checked os 9 .any (Rows.moneyErrsSpec.pre6 enc Try.prog Try.f9 Rows.moneyErrsRow.domain false) (Rows.moneyErrsSpec.post enc Try.prog Try.f9 false true false false) := by
  refine returnsInHanded_of_change (C := Try.checked) own started (by kernel_rfl) Try.func9
    (ChangeSpec.witness6 (enc := enc) (C := Try.checked) false ⟨#[], #[.int .u64 0, .int .u64 0, .int .u64 0], []⟩ 8 (by kernel_rfl) (by kernel_rfl) (by kernel_rfl) (by kernel_rfl)) ?_
  intro W base args ds gs before hval0 hW hcnd _
  have hval : ∀ (j : Nat) t v, Try.f9.params[j]? = some t → args[j]? = some v → Value.okWide Try.prog W .any base t v := hval0
  have hW' := hW
  obtain ⟨p, q, hA0, hV, rfl, hfz, hnd⟩ := hW
  have hA1 : DataW.TrodAll enc Try.prog W 0 (fun _ => true) true Try.f9.params.toList args.toList ds p := hA0
  have hA := hA1
  rw [Try.params9] at hA hval
  obtain ⟨v0, vs0, d0, ds0, p0, q0, hargs, rfl, rfl, h0, r0⟩ := trodAll_cons hA
  obtain ⟨v1, vs1, d1, ds1, p1, q1, rfl, rfl, rfl, h1, r1⟩ := trodAll_cons r0
  obtain ⟨v2, vs2, d2, ds2, p2, q2, rfl, rfl, rfl, h2, r2⟩ := trodAll_cons r1
  obtain ⟨rfl, rfl, rfl⟩ := trodAll_nil r2
  obtain rfl : args = #[v0, v1, v2] := by cases args; simp_all
  obtain ⟨rfl, rfl⟩ := trodVars_none hV
  obtain ⟨a, rfl, rfl, rfl, wf0⟩ := open_int Try.underlying22 (hval 0 22 v0 rfl rfl) h0
  obtain ⟨b, rfl, rfl, rfl, wf1⟩ := open_int Try.underlying22 (hval 1 22 v1 rfl rfl) h1
  obtain ⟨n, rfl, rfl, rfl, wf2⟩ := open_int Try.underlying22 (hval 2 22 v2 rfl rfl) h2
  clear hA0 hval0
  refine (walk W a (bounds_u64 wf0) b (bounds_u64 wf1) n (bounds_u64 wf2)).mono fun e W' ⟨he, bel⟩ => ?_
  subst he
  exact ⟨_, rfl, _, _, _, [], _, [], hW', trodAll_mk1 (shut_bool Try.underlying4 _), args_again laidOut bel (by kernel_rfl) hA1, rfl, bel.frame _, fun h => by cases h⟩

theorem over : Rows.moneyErrsRow.holds Try.pinned (OpenSpec.ofChange Rows.moneyErrsSpec) :=
  OpenClaim.holds_of_wide 9 Try.f9 rfl rfl rfl rfl rfl rfl rfl ⟨rfl, rfl, rfl, rfl, rfl⟩ rfl rfl rfl rfl rfl (by kernel_rfl) Try.func9 (by kernel_rfl)
    (of_decide_eq_true (by kernel_rfl)) (by unfold Func.isWrapper; first | (rw [if_pos (by decide +kernel)]; kernel_rfl) | (rw [if_neg (by decide +kernel)]; exact ⟨rfl, rfl⟩))
    (fun os started H enc _ => lifted os started H enc)

theorem proved : Rows.MoneyErrsSaid := over
end Go.Proofs.Ytnbiabcgnngamaa.LMoneyErrs
