import Derived.Test.YtneaehimdmachaaMoneyT
/- Contracts of Add and Sub alone. -/
namespace Go.Proofs.Ytneaehimdmachaa.Money
open Go.ChangeShapes Go.WideShapes Go.ChangeAt Go.RowKit Go.IntWalk Go.Proofs.Mem
set_option linter.unusedVariables false
set_option maxHeartbeats 800000 in
theorem add_any (a b : Int) (ha : 0 ≤ a ∧ a ≤ 18446744073709551615) (hb : 0 ≤ b ∧ b ≤ 18446744073709551615) (w : World) :
    Calls Try.prog 68 #[.int .u64 a, .int .u64 b] w fun e w' => e = .returned (.tuple #[.int .u64 (addS a b).1, .int .u16 (addS a b).2]) ∧ Below w.heap.size w w' := by
  have hv : IR (w.alloc (.cells #[.int .u64 a, .int .u64 b] 30)) (w.heap.size + 1) .u64 (.slice (some ⟨w.heap.size, 0, none⟩) 2 2) [a, b] := IR.lit w .u64 [a, b] 30 (by simp)
  by_cases h : 4611686018427387904 < a ∨ 4611686018427387904 < b
  · have hg : great [a, b] = true := by rw [great_two]; simpa using h
    have hs : addS a b = (0, 30) := by unfold addS; rw [if_pos (by omega)]
    have HS := Lib.hid hs
    clear hs h
    go_enter Try.func68, Try.ntmps68
    go_wp2_with fail
    (with_reducible refine (tooGreat_any _ [a, b] _ _ hv (range_two ha hb)).mono ?_)
    rintro e w' ⟨rfl, rfl⟩
    rw [hg]
    clear hg hv
    go_wp2
    go_ret2
    exact ⟨ret_pair (by rw [HS.out]) (by rw [HS.out]), (Below.refl _ _).alloc (Nat.le_refl _) _⟩
  · have hg : great [a, b] = false := by rw [great_two]; simpa using h
    have h1 : a ≤ 4611686018427387904 := by omega
    have h2 : b ≤ 4611686018427387904 := by omega
    clear h
    by_cases h3 : 4611686018427387904 < a + b
    · have hs : addS a b = (0, 30) := by unfold addS; rw [if_pos (by omega)]
      have HS := Lib.hid hs
      clear hs
      go_enter Try.func68, Try.ntmps68
      go_wp2_with fail
      (with_reducible refine (tooGreat_any _ [a, b] _ _ hv (range_two ha hb)).mono ?_)
      rintro e w' ⟨rfl, rfl⟩
      rw [hg]
      clear hg hv
      go_wp2
      go_ret2
      exact ⟨ret_pair (by rw [HS.out]) (by rw [HS.out]), (Below.refl _ _).alloc (Nat.le_refl _) _⟩
    · have hs : addS a b = (a + b, 0) := by unfold addS; rw [if_neg (by omega)]
      have HS := Lib.hid hs
      clear hs
      go_enter Try.func68, Try.ntmps68
      go_wp2_with fail
      (with_reducible refine (tooGreat_any _ [a, b] _ _ hv (range_two ha hb)).mono ?_)
      rintro e w' ⟨rfl, rfl⟩
      rw [hg]
      clear hg hv
      go_wp2
      go_ret2
      exact ⟨ret_pair (by rw [HS.out]) (by rw [HS.out]), (Below.refl _ _).alloc (Nat.le_refl _) _⟩
def subS (a b : Int) : Int × Int := if 4611686018427387904 < a ∨ 4611686018427387904 < b then (0, 30) else if a < b then (0, 31) else (a - b, 0)
set_option maxHeartbeats 800000 in
theorem sub_any (a b : Int) (ha : 0 ≤ a ∧ a ≤ 18446744073709551615) (hb : 0 ≤ b ∧ b ≤ 18446744073709551615) (w : World) :
    Calls Try.prog 69 #[.int .u64 a, .int .u64 b] w fun e w' => e = .returned (.tuple #[.int .u64 (subS a b).1, .int .u16 (subS a b).2]) ∧ Below w.heap.size w w' := by
  have hv : IR (w.alloc (.cells #[.int .u64 a, .int .u64 b] 30)) (w.heap.size + 1) .u64 (.slice (some ⟨w.heap.size, 0, none⟩) 2 2) [a, b] := IR.lit w .u64 [a, b] 30 (by simp)
  by_cases h : 4611686018427387904 < a ∨ 4611686018427387904 < b
  · have hg : great [a, b] = true := by rw [great_two]; simpa using h
    have hs : subS a b = (0, 30) := by unfold subS; rw [if_pos (by omega)]
    have HS := Lib.hid hs
    clear hs h
    go_enter Try.func69, Try.ntmps69
    go_wp2_with fail
    (with_reducible refine (tooGreat_any _ [a, b] _ _ hv (range_two ha hb)).mono ?_)
    rintro e w' ⟨rfl, rfl⟩
    rw [hg]
    clear hg hv
    go_wp2
    go_ret2
    exact ⟨ret_pair (by rw [HS.out]) (by rw [HS.out]), (Below.refl _ _).alloc (Nat.le_refl _) _⟩
  · have hg : great [a, b] = false := by rw [great_two]; simpa using h
    have h1 : a ≤ 4611686018427387904 := by omega
    have h2 : b ≤ 4611686018427387904 := by omega
    clear h
    by_cases h3 : a < b
    · have hs : subS a b = (0, 31) := by unfold subS; rw [if_neg (by omega), if_pos h3]
      have HS := Lib.hid hs
      clear hs
      go_enter Try.func69, Try.ntmps69
      go_wp2_with fail
      (with_reducible refine (tooGreat_any _ [a, b] _ _ hv (range_two ha hb)).mono ?_)
      rintro e w' ⟨rfl, rfl⟩
      rw [hg]
      clear hg hv
      go_wp2
      go_ret2
      exact ⟨ret_pair (by rw [HS.out]) (by rw [HS.out]), (Below.refl _ _).alloc (Nat.le_refl _) _⟩
    · have hs : subS a b = (a - b, 0) := by unfold subS; rw [if_neg (by omega), if_neg h3]
      have HS := Lib.hid hs
      clear hs
      go_enter Try.func69, Try.ntmps69
      go_wp2_with fail
      (with_reducible refine (tooGreat_any _ [a, b] _ _ hv (range_two ha hb)).mono ?_)
      rintro e w' ⟨rfl, rfl⟩
      rw [hg]
      clear hg hv
      go_wp2
      go_ret2
      exact ⟨ret_pair (by rw [HS.out]) (by rw [HS.out]), (Below.refl _ _).alloc (Nat.le_refl _) _⟩
end Go.Proofs.Ytneaehimdmachaa.Money
