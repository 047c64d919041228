import Derived.Test.YtnbiabcgnngamaaRows
import Derived.Test.YtnbiabcgnngamaaMem2
import Derived.WalkKit
import Derived.ProofKit
import Derived.Lib.Hide
import Derived.Laws.MathBits
/- Contracts of package money and of the document's answer for it. -/
namespace Go.Proofs.Ytnbiabcgnngamaa.Money
open Go.ChangeShapes Go.WideShapes Go.ChangeAt Go.RowKit Go.IntWalk Go.Proofs.Mem
set_option linter.unusedVariables false

theorem ret_pair {a b : Int} {k k' : IntKind} {x y : Int} (h : a = x) (h' : b = y) : Ending.returned (.tuple #[.int k a, .int k' b]) = .returned (.tuple #[.int k x, .int k' y]) := by rw [h, h']

def great (l : List Int) : Bool := l.any fun x => decide (4611686018427387904 < x)
theorem great_step (l : List Int) (j : Nat) (h : j < l.length) : great (l.take (j + 1)) = (great (l.take j) || decide (4611686018427387904 < l.getD j 0)) := by
  unfold great
  rw [List.take_succ_eq_append_getElem h, List.any_append]
  simp [List.getD, List.getElem?_eq_getElem h]
theorem great_front (l : List Int) (j : Nat) (h : great (l.take j) = true) : great l = true := by
  unfold great at *
  rw [List.any_eq_true] at *
  obtain ⟨x, hx, h⟩ := h
  exact ⟨x, List.mem_of_mem_take hx, h⟩

set_option maxHeartbeats 800000 in
theorem tooGreat_any (v : Value) (xs : List Int) (w : World) (B : Nat) (hv : IR w B .u64 v xs) (hx : ∀ x ∈ xs, 0 ≤ x ∧ x ≤ 18446744073709551615) :
    Calls Try.prog 21 #[v] w fun e w' => e = .returned (.bool (great xs)) ∧ w = w' := by
  obtain ⟨A, c, rfl, hlc, hcm⟩ := hv.form
  unfold maxLen at hcm
  go_enter Try.func21, Try.ntmps21
  go_wp2
  go_loop [7] (fun i => ∃ j : Nat, j ≤ xs.length ∧ i = .int .i64 j ∧ great (xs.take j) = false) (fun i => xs.length - (intOf i).toNat)
  case atStart => exact ⟨0, by omega, rfl, by simp [great]⟩
  case round =>
    obtain ⟨j, hj, rfl, hg⟩ := hrel
    have HG := Lib.hid hg
    clear hg
    by_cases hl : j < xs.length
    · obtain ⟨b, off, rfl, hb, hcell⟩ := IR.index hv j hl
      have hs := great_step xs j hl
      rw [HG.out, Bool.false_or] at hs
      have hu := hx (xs.getD j 0) (by simp [List.getD, List.getElem?_eq_getElem hl])
      generalize xs.getD j 0 = u at *
      have HS := Lib.hid hs
      clear hs
      have hd : decide ((j : Int) < (xs.length : Int)) = true := by simp; omega
      by_cases hgu : 4611686018427387904 < u
      · go_wp2
        go_ret
        exact ⟨by rw [great_front xs (j + 1) (by rw [HS.out, decide_eq_true hgu])]; rfl, rfl⟩
      · go_wp2
        go_round
        case rel => exact ⟨j + 1, by omega, by go_num, by rw [HS.out]; simpa using hgu⟩
        case measure => simp [intOf]; omega
    · have hd : decide ((j : Int) < (xs.length : Int)) = false := by simp; omega
      go_wp2
      go_ret
      have := HG.out
      rw [List.take_of_length_le (by omega)] at this
      exact ⟨by rw [this]; rfl, rfl⟩

def addS (a b : Int) : Int × Int := if 4611686018427387904 < a ∨ 4611686018427387904 < b ∨ 4611686018427387904 < a + b then (0, 30) else (a + b, 0)
theorem great_two (a b : Int) : great [a, b] = (decide (4611686018427387904 < a) || decide (4611686018427387904 < b)) := by simp [great]
theorem range_two {a b : Int} (ha : 0 ≤ a ∧ a ≤ 18446744073709551615) (hb : 0 ≤ b ∧ b ≤ 18446744073709551615) : ∀ x ∈ [a, b], 0 ≤ x ∧ x ≤ 18446744073709551615 := by
  intro x hx; simp at hx; rcases hx with rfl | rfl
  · exact ha
  · exact hb
set_option maxHeartbeats 800000 in
theorem add_any (a b : Int) (ha : 0 ≤ a ∧ a ≤ 18446744073709551615) (hb : 0 ≤ b ∧ b ≤ 18446744073709551615) (w : World) :
    Calls Try.prog 10 #[.int .u64 a, .int .u64 b] w fun e w' => e = .returned (.tuple #[.int .u64 (addS a b).1, .int .u16 (addS a b).2]) ∧ Below w.heap.size w w' := by
  have hv : IR (w.alloc (.cells #[.int .u64 a, .int .u64 b] 22)) (w.heap.size + 1) .u64 (.slice (some ⟨w.heap.size, 0, none⟩) 2 2) [a, b] := IR.lit w .u64 [a, b] 22 (by simp)
  by_cases h : 4611686018427387904 < a ∨ 4611686018427387904 < b
  · have hg : great [a, b] = true := by rw [great_two]; simpa using h
    have hs : addS a b = (0, 30) := by unfold addS; rw [if_pos (by omega)]
    have HS := Lib.hid hs
    clear hs h
    go_enter Try.func10, Try.ntmps10
    go_wp2_with fail
    (with_reducible refine (tooGreat_any _ [a, b] _ _ hv (range_two ha hb)).mono ?_)
    rintro e w' ⟨rfl, rfl⟩
    rw [hg]
    clear hg hv
    go_wp2
    go_ret2
    exact ⟨ret_pair (by rw [HS.out]) (by rw [HS.out]), (Below.refl _ _).alloc (Nat.le_refl _) _⟩
  · have hg : great [a, b] = false := by rw [great_two]; simpa using h
    have h1 : a ≤ 4611686018427387904 := by omega
    have h2 : b ≤ 4611686018427387904 := by omega
    clear h
    by_cases h3 : 4611686018427387904 < a + b
    · have hs : addS a b = (0, 30) := by unfold addS; rw [if_pos (by omega)]
      have HS := Lib.hid hs
      clear hs
      go_enter Try.func10, Try.ntmps10
      go_wp2_with fail
      (with_reducible refine (tooGreat_any _ [a, b] _ _ hv (range_two ha hb)).mono ?_)
      rintro e w' ⟨rfl, rfl⟩
      rw [hg]
      clear hg hv
      go_wp2
      go_ret2
      exact ⟨ret_pair (by rw [HS.out]) (by rw [HS.out]), (Below.refl _ _).alloc (Nat.le_refl _) _⟩
    · have hs : addS a b = (a + b, 0) := by unfold addS; rw [if_neg (by omega)]
      have HS := Lib.hid hs
      clear hs
      go_enter Try.func10, Try.ntmps10
      go_wp2_with fail
      (with_reducible refine (tooGreat_any _ [a, b] _ _ hv (range_two ha hb)).mono ?_)
      rintro e w' ⟨rfl, rfl⟩
      rw [hg]
      clear hg hv
      go_wp2
      go_ret2
      exact ⟨ret_pair (by rw [HS.out]) (by rw [HS.out]), (Below.refl _ _).alloc (Nat.le_refl _) _⟩

theorem add_ref (a b : Int) (ha : 0 ≤ a ∧ a ≤ 18446744073709551615) (hb : 0 ≤ b ∧ b ≤ 18446744073709551615) (w : World) :
    Calls Try.prog 11 #[.int .u64 a, .int .u64 b] w fun e w' => e = .returned (.tuple #[.int .u64 (addS a b).1, .int .i64 (addS a b).2]) ∧ w = w' := by
  by_cases h1 : 4611686018427387904 < a
  · have hs : addS a b = (0, 30) := by unfold addS; rw [if_pos (by omega)]
    have HS := Lib.hid hs
    clear hs
    go_enter Try.func11, Try.ntmps11
    go_wp2
    go_ret2
    exact ⟨ret_pair (by rw [HS.out]) (by rw [HS.out]), rfl⟩
  · by_cases h2 : 4611686018427387904 < b
    · have hs : addS a b = (0, 30) := by unfold addS; rw [if_pos (by omega)]
      have HS := Lib.hid hs
      clear hs
      go_enter Try.func11, Try.ntmps11
      go_wp2
      go_ret2
      exact ⟨ret_pair (by rw [HS.out]) (by rw [HS.out]), rfl⟩
    · by_cases h3 : 4611686018427387904 - b < a
      · have hs : addS a b = (0, 30) := by unfold addS; rw [if_pos (by omega)]
        have HS := Lib.hid hs
        clear hs
        go_enter Try.func11, Try.ntmps11
        go_wp2
        go_ret2
        exact ⟨ret_pair (by rw [HS.out]) (by rw [HS.out]), rfl⟩
      · have hs : addS a b = (a + b, 0) := by unfold addS; rw [if_neg (by omega)]
        have HS := Lib.hid hs
        clear hs
        go_enter Try.func11, Try.ntmps11
        go_wp2
        go_ret2
        exact ⟨ret_pair (by rw [HS.out]) (by rw [HS.out]), rfl⟩

def subS (a b : Int) : Int × Int := if 4611686018427387904 < a ∨ 4611686018427387904 < b then (0, 30) else if a < b then (0, 31) else (a - b, 0)
set_option maxHeartbeats 800000 in
theorem sub_any (a b : Int) (ha : 0 ≤ a ∧ a ≤ 18446744073709551615) (hb : 0 ≤ b ∧ b ≤ 18446744073709551615) (w : World) :
    Calls Try.prog 12 #[.int .u64 a, .int .u64 b] w fun e w' => e = .returned (.tuple #[.int .u64 (subS a b).1, .int .u16 (subS a b).2]) ∧ Below w.heap.size w w' := by
  have hv : IR (w.alloc (.cells #[.int .u64 a, .int .u64 b] 22)) (w.heap.size + 1) .u64 (.slice (some ⟨w.heap.size, 0, none⟩) 2 2) [a, b] := IR.lit w .u64 [a, b] 22 (by simp)
  by_cases h : 4611686018427387904 < a ∨ 4611686018427387904 < b
  · have hg : great [a, b] = true := by rw [great_two]; simpa using h
    have hs : subS a b = (0, 30) := by unfold subS; rw [if_pos (by omega)]
    have HS := Lib.hid hs
    clear hs h
    go_enter Try.func12, Try.ntmps12
    go_wp2_with fail
    (with_reducible refine (tooGreat_any _ [a, b] _ _ hv (range_two ha hb)).mono ?_)
    rintro e w' ⟨rfl, rfl⟩
    rw [hg]
    clear hg hv
    go_wp2
    go_ret2
    exact ⟨ret_pair (by rw [HS.out]) (by rw [HS.out]), (Below.refl _ _).alloc (Nat.le_refl _) _⟩
  · have hg : great [a, b] = false := by rw [great_two]; simpa using h
    have h1 : a ≤ 4611686018427387904 := by omega
    have h2 : b ≤ 4611686018427387904 := by omega
    clear h
    by_cases h3 : a < b
    · have hs : subS a b = (0, 31) := by unfold subS; rw [if_neg (by omega), if_pos h3]
      have HS := Lib.hid hs
      clear hs
      go_enter Try.func12, Try.ntmps12
      go_wp2_with fail
      (with_reducible refine (tooGreat_any _ [a, b] _ _ hv (range_two ha hb)).mono ?_)
      rintro e w' ⟨rfl, rfl⟩
      rw [hg]
      clear hg hv
      go_wp2
      go_ret2
      exact ⟨ret_pair (by rw [HS.out]) (by rw [HS.out]), (Below.refl _ _).alloc (Nat.le_refl _) _⟩
    · have hs : subS a b = (a - b, 0) := by unfold subS; rw [if_neg (by omega), if_neg h3]
      have HS := Lib.hid hs
      clear hs
      go_enter Try.func12, Try.ntmps12
      go_wp2_with fail
      (with_reducible refine (tooGreat_any _ [a, b] _ _ hv (range_two ha hb)).mono ?_)
      rintro e w' ⟨rfl, rfl⟩
      rw [hg]
      clear hg hv
      go_wp2
      go_ret2
      exact ⟨ret_pair (by rw [HS.out]) (by rw [HS.out]), (Below.refl _ _).alloc (Nat.le_refl _) _⟩
theorem sub_ref (a b : Int) (ha : 0 ≤ a ∧ a ≤ 18446744073709551615) (hb : 0 ≤ b ∧ b ≤ 18446744073709551615) (w : World) :
    Calls Try.prog 13 #[.int .u64 a, .int .u64 b] w fun e w' => e = .returned (.tuple #[.int .u64 (subS a b).1, .int .i64 (subS a b).2]) ∧ w = w' := by
  by_cases h1 : 4611686018427387904 < a
  · have hs : subS a b = (0, 30) := by unfold subS; rw [if_pos (by omega)]
    have HS := Lib.hid hs
    clear hs
    go_enter Try.func13, Try.ntmps13
    go_wp2
    go_ret2
    exact ⟨ret_pair (by rw [HS.out]) (by rw [HS.out]), rfl⟩
  · by_cases h2 : 4611686018427387904 < b
    · have hs : subS a b = (0, 30) := by unfold subS; rw [if_pos (by omega)]
      have HS := Lib.hid hs
      clear hs
      go_enter Try.func13, Try.ntmps13
      go_wp2
      go_ret2
      exact ⟨ret_pair (by rw [HS.out]) (by rw [HS.out]), rfl⟩
    · by_cases h3 : a < b
      · have hs : subS a b = (0, 31) := by unfold subS; rw [if_neg (by omega), if_pos h3]
        have HS := Lib.hid hs
        clear hs
        go_enter Try.func13, Try.ntmps13
        go_wp2
        go_ret2
        exact ⟨ret_pair (by rw [HS.out]) (by rw [HS.out]), rfl⟩
      · have hs : subS a b = (a - b, 0) := by unfold subS; rw [if_neg (by omega), if_neg h3]
        have HS := Lib.hid hs
        clear hs
        go_enter Try.func13, Try.ntmps13
        go_wp2
        go_ret2
        exact ⟨ret_pair (by rw [HS.out]) (by rw [HS.out]), rfl⟩

set_option maxHeartbeats 800000 in
theorem mul64_any (x y : Int) (hx : 0 ≤ x ∧ x ≤ 18446744073709551615) (hy : 0 ≤ y ∧ y ≤ 18446744073709551615) (w : World) :
    Calls Try.prog 22 #[.int .u64 x, .int .u64 y] w fun e w' => e = .returned (.tuple #[.int .u64 (x * y / 18446744073709551616), .int .u64 (x * y % 18446744073709551616)]) ∧ w = w' := by
  have a1 := and_low32 x hx.1 (by omega)
  have a2 := and_low32 y hy.1 (by omega)
  go_enter Try.func22, Try.ntmps22
  go_wp2
  go_ret2
  refine ⟨ret_pair ?_ ?_, rfl⟩
  · have e := mul64_arith x y hx.1 (by omega) hy.1 (by omega)
    rw [← e]
    rw [and_low32 _ (by rw [IntKind.wrap_u64]; omega) (by rw [IntKind.wrap_u64]; omega)]
    simp only [IntKind.wrap_u64]
  · show IntKind.u64.wrap _ = _
    rw [IntKind.wrap_u64]
end Go.Proofs.Ytnbiabcgnngamaa.Money
