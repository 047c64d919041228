import Derived.Test.YteldfoplhcnljaaRows
import Derived.Test.YteldfoplhcnljaaMem2
import Derived.WalkKit
import Derived.ProofKit
import Derived.Lib.Hide
import Derived.Laws.MathBits
import Derived.Deep.QuietTactic
import Derived.BigQuiet
/- math/bits.Len64 (out of Money3). -/
namespace Go.Proofs.Yteldfoplhcnljaa.Money
open Go.ChangeShapes Go.WideShapes Go.ChangeAt Go.RowKit Go.IntWalk Go.Proofs.Mem
set_option linter.unusedVariables false
theorem ret_int {k : IntKind} {a b : Int} (h : a = b) : Ending.returned (.int k a) = .returned (.int k b) := by rw [h]
theorem len_up (x : Int) (b : Nat) (h0 : 0 ≤ x) (h : (2 : Int) ^ b ≤ x) : bitLen x.toNat = b + bitLen (x / 2 ^ b).toNat := by
  obtain ⟨n, rfl⟩ := Int.eq_ofNat_of_zero_le h0
  have e : ((2 : Int) ^ b) = ((2 ^ b : Nat) : Int) := by simp
  rw [e] at h ⊢
  rw [Int.toNat_natCast, bitLen_shift n b]
  · congr 2
  · have : 0 < 2 ^ b := Nat.two_pow_pos b
    have h' : 2 ^ b ≤ n := by omega
    have := (Nat.le_div_iff_mul_le this).2 (by omega : 1 * 2 ^ b ≤ n)
    omega
theorem add_i64 (a : Int) (n : Nat) (ha : 0 ≤ a ∧ a ≤ 100) (hn : n ≤ 8) : wrap64 (a + wrap64 (n : Int)) = a + n := by
  rw [wrap64_in (n : Int) (by omega), wrap64_in _ (by omega)]
set_option maxRecDepth 1000000 in
set_option maxHeartbeats 4000000 in
theorem len64_any (x : Int) (h0 : 0 ≤ x) (h1 : x ≤ 18446744073709551615) (w : World) :
    Calls Try.prog 39 #[.int .u64 x] w fun e w' => e = .returned (.int .i64 (bitLen x.toNat)) ∧ w = w' := by
  have u32 := len_up x 32 h0
  rw [show (2 : Int) ^ 32 = 4294967296 from by decide] at u32
  have u16 := len_up x 16 h0
  rw [show (2 : Int) ^ 16 = 65536 from by decide] at u16
  have u8 := len_up x 8 h0
  rw [show (2 : Int) ^ 8 = 256 from by decide] at u8
  have v16 := len_up (x / 4294967296) 16 (by omega)
  rw [show (2 : Int) ^ 16 = 65536 from by decide] at v16
  have v8 := len_up (x / 4294967296) 8 (by omega)
  rw [show (2 : Int) ^ 8 = 256 from by decide] at v8
  have t8 := len_up (x / 65536) 8 (by omega)
  rw [show (2 : Int) ^ 8 = 256 from by decide] at t8
  have s8 := len_up (x / 4294967296 / 65536) 8 (by omega)
  rw [show (2 : Int) ^ 8 = 256 from by decide] at s8
  have U32 := Lib.hid u32
  have U16 := Lib.hid u16
  have U8 := Lib.hid u8
  have V16 := Lib.hid v16
  have V8 := Lib.hid v8
  have T8 := Lib.hid t8
  have S8 := Lib.hid s8
  clear u32 u16 u8 v16 v8 t8 s8
  go_enter Try.func39, Try.ntmps39
  go_wp2_with fail
  all_goals go_ret
  all_goals refine ⟨ret_int ?_, rfl⟩
  all_goals rw [len8tab_get]
  · have a1 : 4294967296 ≤ x := by assumption
    have a2 : 65536 ≤ x / 4294967296 := by assumption
    have a3 : 256 ≤ x / 4294967296 / 65536 := by assumption
    rw [add_i64 _ _ (by omega) (bitLen_le8 _ (by omega)), U32.out a1, V16.out a2, S8.out a3]; omega
  · have a1 : 4294967296 ≤ x := by assumption
    have a2 : 65536 ≤ x / 4294967296 := by assumption
    have a3 : x / 4294967296 / 65536 < 256 := by assumption
    rw [add_i64 _ _ (by omega) (bitLen_le8 _ (by omega)), U32.out a1, V16.out a2]; omega
  · have a1 : 4294967296 ≤ x := by assumption
    have a2 : x / 4294967296 < 65536 := by assumption
    have a3 : 256 ≤ x / 4294967296 := by assumption
    rw [add_i64 _ _ (by omega) (bitLen_le8 _ (by omega)), U32.out a1, V8.out a3]; omega
  · have a1 : 4294967296 ≤ x := by assumption
    have a3 : x / 4294967296 < 256 := by assumption
    rw [add_i64 _ _ (by omega) (bitLen_le8 _ (by omega)), U32.out a1]; omega
  · have a1 : x < 4294967296 := by assumption
    have a2 : 65536 ≤ x := by assumption
    have a3 : 256 ≤ x / 65536 := by assumption
    rw [add_i64 _ _ (by omega) (bitLen_le8 _ (by omega)), U16.out a2, T8.out a3]; omega
  · have a1 : x < 4294967296 := by assumption
    have a2 : 65536 ≤ x := by assumption
    have a3 : x / 65536 < 256 := by assumption
    rw [add_i64 _ _ (by omega) (bitLen_le8 _ (by omega)), U16.out a2]; omega
  · have a2 : x < 65536 := by assumption
    have a3 : 256 ≤ x := by assumption
    rw [add_i64 _ _ (by omega) (bitLen_le8 _ (by omega)), U8.out a3]; omega
  · have a3 : x < 256 := by assumption
    have hb := bitLen_le8 x.toNat (by omega)
    rw [wrap64_in (bitLen x.toNat : Int) (by omega), wrap64_in _ (by omega)]

end Go.Proofs.Yteldfoplhcnljaa.Money
