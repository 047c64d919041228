import Derived.Test.YtbbphfhkedldmaaApp
import Derived.Test.YtbbphfhkedldmaaPutGet
import Derived.Test.YtbbphfhkedldmaaBox
import Derived.Lib.Hide
/- Small functions of package rec. -/
namespace Go.Proofs.Ytbbphfhkedldmaa.Rec
open Go.ChangeShapes Go.WideShapes Go.ChangeAt Go.RowKit Go.IntWalk Go.Proofs.NumMath Go.Proofs.Mem NumBytes
set_option linter.unusedVariables false

theorem changes_any (k : Int) (w : World) : Calls Try.prog 23 #[.int .u8 k] w fun e w' => e = .returned (.bool (decide (k = 2) || decide (k = 3))) ∧ w = w' := by
  by_cases h2 : k = 2
  · subst h2
    go_enter Try.func23, Try.ntmps23
    go_wp2
    refine bodyPost_ret (v := .bool true) (by simp [results, Try.results23, go_sem]; try rfl) rfl ?_
    exact ⟨rfl, rfl⟩
  · have d2 : (k == 2) = false := by simpa using h2
    by_cases h3 : k = 3
    · subst h3
      go_enter Try.func23, Try.ntmps23
      go_wp2
      refine bodyPost_ret (v := .bool true) (by simp [results, Try.results23, go_sem]; try rfl) rfl ?_
      exact ⟨rfl, rfl⟩
    · have d3 : (k == 3) = false := by simpa using h3
      go_enter Try.func23, Try.ntmps23
      go_wp2
      refine bodyPost_ret (v := .bool false) (by simp [results, Try.results23, go_sem]; try rfl) rfl ?_
      exact ⟨by simp [h2, h3], rfl⟩

theorem side_any (is : Bool) (v : Value) (xs : List Int) (w : World) (B : Nat) (hv : IR w B .u8 v xs) : Calls Try.prog 40 #[.bool is, v] w fun e w' => e = .returned (.bool (decide (xs.length ≤ 64) && (is || decide (xs.length = 0)))) ∧ w = w' := by
  obtain ⟨A, c, rfl, hlc, hcm⟩ := hv.form
  clear hv
  by_cases h : xs.length ≤ 64
  · have d1 : decide ((xs.length : Int) ≤ 64) = true := by simpa using (by omega : (xs.length : Int) ≤ 64)
    by_cases h0 : xs.length = 0
    · have d0 : ((xs.length : Int) == 0) = true := by simp [h0]
      cases is <;>
      · go_enter Try.func40, Try.ntmps40
        go_wp2
        refine bodyPost_ret (v := .bool true) (by simp [results, Try.results40, go_sem]; try rfl) rfl ?_
        exact ⟨by simp [h0], rfl⟩
    · have d0 : ((xs.length : Int) == 0) = false := by simpa using (by omega : (xs.length : Int) ≠ 0)
      cases is
      · go_enter Try.func40, Try.ntmps40
        go_wp2
        refine bodyPost_ret (v := .bool false) (by simp [results, Try.results40, go_sem]; try rfl) rfl ?_
        exact ⟨by simp [h0], rfl⟩
      · go_enter Try.func40, Try.ntmps40
        go_wp2
        refine bodyPost_ret (v := .bool true) (by simp [results, Try.results40, go_sem]; try rfl) rfl ?_
        exact ⟨by simp [h], rfl⟩
  · have d1 : decide ((xs.length : Int) ≤ 64) = false := by simpa using (by omega : ¬ (xs.length : Int) ≤ 64)
    go_enter Try.func40, Try.ntmps40
    go_wp2
    refine bodyPost_ret (v := .bool false) (by simp [results, Try.results40, go_sem]; try rfl) rfl ?_
    exact ⟨by simp [h], rfl⟩

end Go.Proofs.Ytbbphfhkedldmaa.Rec
