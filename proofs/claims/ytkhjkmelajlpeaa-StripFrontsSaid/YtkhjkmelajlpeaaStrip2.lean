import Derived.Test.YtkhjkmelajlpeaaStrip1
/- How many sectors so many bytes need. -/
namespace Go.Proofs.Ytkhjkmelajlpeaa.Strip
open Go.ChangeShapes Go.WideShapes Go.ChangeAt Go.RowKit Go.IntWalk Go.Shelf Go.Proofs.Mem
set_option linter.unusedVariables false
def countS (n : Int) : Int := if n ≤ 0 then 0 else (n + 126) / 127
theorem countS_nat (L : Nat) : countS L = (cnt L : Int) := by unfold countS cnt; split <;> omega
theorem count_any (n : Int) (hn : -9223372036854775808 ≤ n ∧ n ≤ 9223372036854775807) (w : World) : Calls Try.prog 13 #[.int .i64 n] w fun e w' => e = .returned (.int .i64 (countS n)) ∧ w' = w := by
  by_cases h : n ≤ 0
  · have d : decide (n ≤ 0) = true := decide_eq_true h
    have HC := Lib.hid (show countS n = 0 by unfold countS; rw [if_pos h])
    go_enter Try.func13, Try.ntmps13
    go_wp2
    go_ret
    exact ⟨by rw [HC.out]; rfl, rfl⟩
  · have d : decide (n ≤ 0) = false := decide_eq_false h
    have HC := Lib.hid (show (n - 1) / 127 + 1 = countS n by unfold countS; rw [if_neg h]; omega)
    have h1 : 0 < n := by omega
    clear h
    go_enter Try.func13, Try.ntmps13
    go_wp2
    go_ret
    exact ⟨by rw [← HC.out]; rfl, rfl⟩
theorem count_ref (n : Int) (hn : -9223372036854775808 ≤ n ∧ n ≤ 9223372036854775807) (w : World) : Calls Try.prog 14 #[.int .i64 n] w fun e w' => e = .returned (.int .i64 (countS n)) ∧ w' = w := by
  by_cases h : n ≤ 0
  · have d : decide (n ≤ 0) = true := decide_eq_true h
    have HC := Lib.hid (show countS n = 0 by unfold countS; rw [if_pos h])
    go_enter Try.func14, Try.ntmps14
    go_wp2
    go_ret
    exact ⟨by rw [HC.out]; rfl, rfl⟩
  · have d : decide (n ≤ 0) = false := decide_eq_false h
    have h1 : 0 < n := by omega
    by_cases h2 : 0 < n % 127
    · have d2 : decide (0 < n % 127) = true := decide_eq_true h2
      have HC := Lib.hid (show n / 127 + 1 = countS n by unfold countS; rw [if_neg h]; omega)
      clear h
      go_enter Try.func14, Try.ntmps14
      go_wp2
      go_ret
      exact ⟨by rw [← HC.out]; rfl, rfl⟩
    · have d2 : decide (0 < n % 127) = false := decide_eq_false h2
      have HC := Lib.hid (show n / 127 = countS n by unfold countS; rw [if_neg h]; omega)
      clear h
      go_enter Try.func14, Try.ntmps14
      go_wp2
      go_ret
      exact ⟨by rw [← HC.out]; rfl, rfl⟩
end Go.Proofs.Ytkhjkmelajlpeaa.Strip
