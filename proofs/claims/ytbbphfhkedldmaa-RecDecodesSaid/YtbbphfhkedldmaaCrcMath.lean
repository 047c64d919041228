import Derived.WalkKit
import Derived.Laws.BitsAllLaws
/- CRC-32C as a map of 32 bits: plain. -/
namespace Go.Proofs.CrcMath
set_option linter.unusedVariables false
def tn (x : BitVec 32) : Int := (x.toNat : Int)
theorem tn_bd (x : BitVec 32) : 0 ≤ tn x ∧ tn x ≤ 4294967295 := by unfold tn; have := x.isLt; omega
theorem tn_inj {x y : BitVec 32} (h : tn x = tn y) : x = y := by
  unfold tn at h; apply BitVec.eq_of_toNat_eq; omega
theorem tn_of (s : Int) (h : 0 ≤ s ∧ s ≤ 4294967295) : s = tn (BitVec.ofInt 32 s) := by
  unfold tn
  rw [BitVec.toNat_ofInt]
  omega
theorem tn_beq (x y : BitVec 32) : (tn x == tn y) = decide (x = y) := by
  by_cases h : x = y
  · subst h; simp
  · rw [decide_eq_false h, beq_eq_false_iff_ne]; exact fun e => h (tn_inj e)
def poly : BitVec 32 := 2197175160#32
theorem xor_tn (a b : BitVec 32) : bits .xor .u32 (tn a) (tn b) = tn (a ^^^ b) := by
  unfold tn
  rw [u32_xor_nat _ _ a.isLt b.isLt, BitVec.toNat_xor]
theorem xor_ones (a : BitVec 32) : bits .xor .u32 IntKind.u32.max (tn a) = tn (~~~a) := by
  have e : IntKind.u32.max = tn (BitVec.allOnes 32) := by decide
  rw [e, xor_tn, BitVec.xor_comm, BitVec.xor_allOnes]
theorem xor_poly (a : BitVec 32) : bits .xor .u32 (tn a) 2197175160 = tn (a ^^^ poly) := by
  have e : (2197175160 : Int) = tn poly := by decide
  rw [e, xor_tn]
theorem half_tn (a : BitVec 32) : tn a / (2 : Int) = tn (a >>> 1) := by
  unfold tn
  rw [BitVec.toNat_ushiftRight, Nat.shiftRight_eq_div_pow]; simp
theorem odd_tn (a : BitVec 32) : tn a % 2 = if a.getLsbD 0 then 1 else 0 := by
  unfold tn
  rw [BitVec.getLsbD, Nat.testBit_zero]
  split <;> rename_i h <;> simp at h <;> omega
theorem and_tn (a : BitVec 32) : bits .and .u32 (tn a) 1 = if a.getLsbD 0 then 1 else 0 := by
  rw [← odd_tn]
  unfold tn
  have := u32_and_nat a.toNat 1 a.isLt (by omega)
  rw [show ((1 : Nat) : Int) = 1 from rfl] at this
  rw [this, nat_mask1]; simp

def stepB (q : BitVec 32) : BitVec 32 := if q.getLsbD 0 then (q >>> 1) ^^^ poly else q >>> 1
def itB : Nat → BitVec 32 → BitVec 32
  | 0, q => q
  | k + 1, q => itB k (stepB q)
def nextB (s b : BitVec 32) : BitVec 32 := ~~~(itB 8 (~~~s ^^^ b))
/-- of bytes, from a sum on -/
def sumF (s : BitVec 32) : List Int → BitVec 32
  | [] => s
  | x :: r => sumF (nextB s (BitVec.ofInt 32 x)) r
theorem sumF_app (s : BitVec 32) (a b : List Int) : sumF s (a ++ b) = sumF (sumF s a) b := by
  induction a generalizing s with
  | nil => rfl
  | cons x a ih => exact ih _

/- what a change does -/
theorem step_xor (a b : BitVec 32) : stepB (a ^^^ b) = stepB a ^^^ stepB b := by
  unfold stepB
  rw [BitVec.getLsbD_xor]
  cases ha : a.getLsbD 0 <;> cases hb : b.getLsbD 0 <;> simp [BitVec.ushiftRight_xor_distrib]
  · ac_rfl
  · ac_rfl
  · rw [show a >>> 1 ^^^ poly ^^^ (b >>> 1 ^^^ poly) = a >>> 1 ^^^ b >>> 1 ^^^ (poly ^^^ poly) by ac_rfl, BitVec.xor_self, BitVec.xor_zero]
theorem it_xor (k : Nat) : ∀ a b : BitVec 32, itB k (a ^^^ b) = itB k a ^^^ itB k b := by
  induction k with
  | zero => intro a b; rfl
  | succ k ih => intro a b; simp only [itB, step_xor, ih]
theorem step_zero {a : BitVec 32} (h : stepB a = 0#32) : a = 0#32 := by
  have hb : ∀ i, i < 32 → a.getLsbD i = false := by
    unfold stepB at h
    cases h0 : a.getLsbD 0 with
    | true =>
      rw [h0, if_pos rfl] at h
      have := congrArg (fun x : BitVec 32 => x.getLsbD 31) h
      simp at this
      exact absurd this (by decide)
    | false =>
      rw [h0] at h
      simp at h
      intro i hi
      cases i with
      | zero => exact h0
      | succ i =>
        have := congrArg (fun x : BitVec 32 => x.getLsbD i) h
        simp [BitVec.getLsbD_ushiftRight] at this
        rw [Nat.add_comm] at this
        exact this
  apply BitVec.eq_of_getLsbD_eq
  intro i hi
  rw [hb i hi]; simp
theorem it_zero (k : Nat) : ∀ a : BitVec 32, itB k a = 0#32 → a = 0#32 := by
  induction k with
  | zero => intro a h; exact h
  | succ k ih => intro a h; exact step_zero (ih _ h)
theorem xor_eq_zero {a b : BitVec 32} (h : a ^^^ b = 0#32) : a = b := by
  have : a ^^^ b ^^^ b = 0#32 ^^^ b := by rw [h]
  rw [BitVec.xor_assoc, BitVec.xor_self, BitVec.xor_zero, BitVec.zero_xor] at this
  exact this
theorem it_inj (k : Nat) {a b : BitVec 32} (h : itB k a = itB k b) : a = b := by
  apply xor_eq_zero
  apply it_zero k
  rw [it_xor, h, BitVec.xor_self]
theorem not_inj {a b : BitVec 32} (h : ~~~a = ~~~b) : a = b := by
  have := congrArg (fun x => ~~~x) h
  simpa using this
theorem xor_cancel_left {a b c : BitVec 32} (h : a ^^^ b = a ^^^ c) : b = c := by
  apply xor_eq_zero
  have : (a ^^^ b) ^^^ (a ^^^ c) = 0#32 := by rw [h, BitVec.xor_self]
  rwa [show (a ^^^ b) ^^^ (a ^^^ c) = (a ^^^ a) ^^^ (b ^^^ c) by ac_rfl, BitVec.xor_self, BitVec.zero_xor] at this
theorem next_byte (s x y : BitVec 32) : nextB s x = nextB s y ↔ x = y := by
  constructor
  · intro h; exact xor_cancel_left (it_inj 8 (not_inj h))
  · intro h; rw [h]
theorem next_sum (s t x : BitVec 32) : nextB s x = nextB t x ↔ s = t := by
  constructor
  · intro h
    have := it_inj 8 (not_inj h)
    rw [BitVec.xor_comm, BitVec.xor_comm (~~~t)] at this
    exact not_inj (xor_cancel_left this)
  · intro h; rw [h]
end Go.Proofs.CrcMath
