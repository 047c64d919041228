import Derived.Test.YtneaehimdmachaaRows
import Derived.Test.YtneaehimdmachaaMem2
import Derived.WalkKit
import Derived.ProofKit
import Derived.Lib.Hide
import Derived.Laws.MathBits
/- Contracts of package money and of the document's answer for it. -/
namespace Go.Proofs.Ytneaehimdmachaa.Money
open Go.ChangeShapes Go.WideShapes Go.ChangeAt Go.RowKit Go.IntWalk Go.Proofs.Mem
set_option linter.unusedVariables false

theorem ret_pair {a b : Int} {k k' : IntKind} {x y : Int} (h : a = x) (h' : b = y) : Ending.returned (.tuple #[.int k a, .int k' b]) = .returned (.tuple #[.int k x, .int k' y]) := by rw [h, h']

def great (l : List Int) : Bool := l.any fun x => decide (4611686018427387904 < x)
theorem great_step (l : List Int) (j : Nat) (h : j < l.length) : great (l.take (j + 1)) = (great (l.take j) || decide (4611686018427387904 < l.getD j 0)) := by
  unfold great
  rw [List.take_succ_eq_append_getElem h, List.any_append]
  simp [List.getD, List.getElem?_eq_getElem h]
theorem great_front (l : List Int) (j : Nat) (h : great (l.take j) = true) : great l = true := by
  unfold great at *
  rw [List.any_eq_true] at *
  obtain ⟨x, hx, h⟩ := h
  exact ⟨x, List.mem_of_mem_take hx, h⟩

set_option maxHeartbeats 800000 in
theorem tooGreat_any (v : Value) (xs : List Int) (w : World) (B : Nat) (hv : IR w B .u64 v xs) (hx : ∀ x ∈ xs, 0 ≤ x ∧ x ≤ 18446744073709551615) :
    Calls Try.prog 76 #[v] w fun e w' => e = .returned (.bool (great xs)) ∧ w = w' := by
  obtain ⟨A, c, rfl, hlc, hcm⟩ := hv.form
  unfold maxLen at hcm
  go_enter Try.func76, Try.ntmps76
  go_wp2
  go_loop [7] (fun i => ∃ j : Nat, j ≤ xs.length ∧ i = .int .i64 j ∧ great (xs.take j) = false) (fun i => xs.length - (intOf i).toNat)
  case atStart => exact ⟨0, by omega, rfl, by simp [great]⟩
  case round =>
    obtain ⟨j, hj, rfl, hg⟩ := hrel
    have HG := Lib.hid hg
    clear hg
    by_cases hl : j < xs.length
    · obtain ⟨b, off, rfl, hb, hcell⟩ := IR.index hv j hl
      have hs := great_step xs j hl
      rw [HG.out, Bool.false_or] at hs
      have hu := hx (xs.getD j 0) (by simp [List.getD, List.getElem?_eq_getElem hl])
      generalize xs.getD j 0 = u at *
      have HS := Lib.hid hs
      clear hs
      have hd : decide ((j : Int) < (xs.length : Int)) = true := by simp; omega
      by_cases hgu : 4611686018427387904 < u
      · go_wp2
        go_ret
        exact ⟨by rw [great_front xs (j + 1) (by rw [HS.out, decide_eq_true hgu])]; rfl, rfl⟩
      · go_wp2
        go_round
        case rel => exact ⟨j + 1, by omega, by go_num, by rw [HS.out]; simpa using hgu⟩
        case measure => simp [intOf]; omega
    · have hd : decide ((j : Int) < (xs.length : Int)) = false := by simp; omega
      go_wp2
      go_ret
      have := HG.out
      rw [List.take_of_length_le (by omega)] at this
      exact ⟨by rw [this]; rfl, rfl⟩

def addS (a b : Int) : Int × Int := if 4611686018427387904 < a ∨ 4611686018427387904 < b ∨ 4611686018427387904 < a + b then (0, 30) else (a + b, 0)
theorem great_two (a b : Int) : great [a, b] = (decide (4611686018427387904 < a) || decide (4611686018427387904 < b)) := by simp [great]
theorem range_two {a b : Int} (ha : 0 ≤ a ∧ a ≤ 18446744073709551615) (hb : 0 ≤ b ∧ b ≤ 18446744073709551615) : ∀ x ∈ [a, b], 0 ≤ x ∧ x ≤ 18446744073709551615 := by
  intro x hx; simp at hx; rcases hx with rfl | rfl
  · exact ha
  · exact hb
set_option maxHeartbeats 800000 in
theorem mul64_any (x y : Int) (hx : 0 ≤ x ∧ x ≤ 18446744073709551615) (hy : 0 ≤ y ∧ y ≤ 18446744073709551615) (w : World) :
    Calls Try.prog 81 #[.int .u64 x, .int .u64 y] w fun e w' => e = .returned (.tuple #[.int .u64 (x * y / 18446744073709551616), .int .u64 (x * y % 18446744073709551616)]) ∧ w = w' := by
  have a1 := and_low32 x hx.1 (by omega)
  have a2 := and_low32 y hy.1 (by omega)
  go_enter Try.func81, Try.ntmps81
  go_wp2
  go_ret2
  refine ⟨ret_pair ?_ ?_, rfl⟩
  · have e := mul64_arith x y hx.1 (by omega) hy.1 (by omega)
    rw [← e]
    rw [and_low32 _ (by rw [IntKind.wrap_u64]; omega) (by rw [IntKind.wrap_u64]; omega)]
    simp only [IntKind.wrap_u64]
  · show IntKind.u64.wrap _ = _
    rw [IntKind.wrap_u64]
def timesS (a n : Int) : Int × Int := if 4611686018427387904 < a ∨ 4611686018427387904 < a * n then (0, 30) else (a * n, 0)
theorem mul_low (x y : Int) (hx : 0 ≤ x) (hy : 0 ≤ y) (h : x * y ≤ 4611686018427387904) : x * y / 18446744073709551616 = 0 ∧ x * y % 18446744073709551616 = x * y := by
  have : 0 ≤ x * y := Int.mul_nonneg hx hy
  omega
theorem mul_bd (x y : Int) (hx : 0 ≤ x ∧ x ≤ 18446744073709551615) (hy : 0 ≤ y ∧ y ≤ 18446744073709551615) :
    (0 ≤ x * y / 18446744073709551616 ∧ x * y / 18446744073709551616 ≤ 18446744073709551615) ∧ 0 ≤ x * y % 18446744073709551616 ∧ x * y % 18446744073709551616 ≤ 18446744073709551615 := by
  have h0 : 0 ≤ x * y := Int.mul_nonneg hx.1 hy.1
  have h1 : x * y ≤ 18446744073709551615 * 18446744073709551615 := Int.mul_le_mul hx.2 hy.2 hy.1 (by omega)
  omega
set_option maxHeartbeats 1600000 in
theorem times_any (a n : Int) (ha : 0 ≤ a ∧ a ≤ 18446744073709551615) (hn : 0 ≤ n ∧ n ≤ 18446744073709551615) (w : World) :
    Calls Try.prog 77 #[.int .u64 a, .int .u64 n] w fun e w' => e = .returned (.tuple #[.int .u64 (timesS a n).1, .int .u16 (timesS a n).2]) ∧ Below w.heap.size w w' := by
  obtain ⟨⟨hh0, hh1⟩, hl0, hl1⟩ := mul_bd a n ha hn
  have hp0 : 0 ≤ a * n := Int.mul_nonneg ha.1 hn.1
  obtain ⟨H, hH⟩ : ∃ H, a * n / 18446744073709551616 = H := ⟨_, rfl⟩
  obtain ⟨L, hL⟩ : ∃ L, a * n % 18446744073709551616 = L := ⟨_, rfl⟩
  have hm := mul64_any a n ha hn w
  rw [hH] at hm hh0 hh1
  rw [hL] at hm hl0 hl1
  have HM := Lib.hid hm
  have hsum : a * n = H * 18446744073709551616 + L := by omega
  have HS := Lib.hid hsum
  clear hm hsum hH hL
  have hv : IR (w.alloc (.cells #[.int .u64 a, .int .u64 L] 30)) (w.heap.size + 1) .u64 (.slice (some ⟨w.heap.size, 0, none⟩) 2 2) [a, L] := IR.lit w .u64 [a, L] 30 (by simp)
  by_cases hg : great [a, L] = true
  · have hs : timesS a n = (0, 30) := by
      rw [great_two] at hg
      simp at hg
      unfold timesS
      rw [if_pos]
      have := HS.out
      omega
    have HT := Lib.hid hs
    clear hs
    go_enter Try.func77, Try.ntmps77
    go_wp2_with fail
    (with_reducible refine HM.out.mono ?_)
    rintro e w' ⟨rfl, rfl⟩
    go_wp2_with fail
    (with_reducible refine (tooGreat_any _ [a, L] _ _ hv (range_two ha ⟨hl0, hl1⟩)).mono ?_)
    rintro e w' ⟨rfl, rfl⟩
    rw [hg]
    clear hg hv
    go_wp2
    go_ret2
    exact ⟨ret_pair (by rw [HT.out]) (by rw [HT.out]), (Below.refl _ _).alloc (Nat.le_refl _) _⟩
  · have hg' : great [a, L] = false := by simpa using hg
    have hq := hg'
    rw [great_two] at hq
    simp at hq
    obtain ⟨hq1, hq2⟩ := hq
    clear hg
    by_cases hz : H = 0
    · have hs : timesS a n = (L, 0) := by
        unfold timesS
        have := HS.out
        rw [hz] at this
        rw [if_neg (by omega)]
        simp; omega
      have HT := Lib.hid hs
      subst hz
      clear hs
      go_enter Try.func77, Try.ntmps77
      go_wp2_with fail
      (with_reducible refine HM.out.mono ?_)
      rintro e w' ⟨rfl, rfl⟩
      go_wp2_with fail
      (with_reducible refine (tooGreat_any _ [a, L] _ _ hv (range_two ha ⟨hl0, hl1⟩)).mono ?_)
      rintro e w' ⟨rfl, rfl⟩
      rw [hg']
      clear hg' hv
      go_wp2
      go_ret2
      exact ⟨ret_pair (by rw [HT.out]) (by rw [HT.out]), (Below.refl _ _).alloc (Nat.le_refl _) _⟩
    · have hs : timesS a n = (0, 30) := by
        unfold timesS
        have := HS.out
        rw [if_pos (by omega)]
      have HT := Lib.hid hs
      have hne : (H != 0) = true := by simpa using hz
      clear hs
      go_enter Try.func77, Try.ntmps77
      go_wp2_with fail
      (with_reducible refine HM.out.mono ?_)
      rintro e w' ⟨rfl, rfl⟩
      go_wp2_with fail
      (with_reducible refine (tooGreat_any _ [a, L] _ _ hv (range_two ha ⟨hl0, hl1⟩)).mono ?_)
      rintro e w' ⟨rfl, rfl⟩
      rw [hg']
      clear hg' hv
      go_wp2
      go_ret2
      exact ⟨ret_pair (by rw [HT.out]) (by rw [HT.out]), (Below.refl _ _).alloc (Nat.le_refl _) _⟩
end Go.Proofs.Ytneaehimdmachaa.Money
